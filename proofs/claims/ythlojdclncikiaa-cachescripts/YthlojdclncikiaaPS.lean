import Derived.Test.YthlojdclncikiaaLS
import Derived.Test.YthlojdclncikiaaPU
namespace Go.Proofs.Ythlojdclncikiaa
open Go.ChangeShapes Go.WideShapes Go.ChangeAt Go.RowKit Go.Joins

set_option maxRecDepth 100000 in
theorem scripts_bad (s n k : Int) (w : World) (a : Option Addr) (N c : Nat) (h : badN s n k) :
    Calls Try.prog 5 #[.int .i64 s, .int .i64 n, .int .i64 k, .slice a N c] w fun e w' => e = .returned (.bool true) ∧ Below w.heap.size w w' := by
  have h1 := hid (bad_both s n k w h).1
  have h2 := hid (bad_both s n k w h).2
  have hal := hid (alive_any w)
  clear h
  go_enter Try.func5, Try.ntmps5
  go_wp2_with (first | (go_at_call 6; refine h1.out.mono ?_; rintro e w1 ⟨rfl, hw1⟩; obtain rfl := hw1.symm; clear hw1) | (go_at_call 15; refine h2.out.mono ?_; rintro e w2 ⟨rfl, hw2⟩; obtain rfl := hw2.symm; clear hw2) | (go_at_call 7; refine (num_any _ _).mono ?_; rintro e w9 ⟨rfl, hw9⟩; obtain rfl := hw9.symm; clear hw9) | (go_at_call 8; refine hal.out.mono ?_; rintro e w3 ⟨rfl, hb3⟩; have HB3 := hid hb3; clear hb3))
  go_ret
  exact ⟨rfl, HB3.out⟩
theorem scripts_any (s n k : Int) (w : World) {a : Option Addr} {N c : Nat} {f : Nat → Opr} (hS : Ss w a N f) (hN : N ≤ 9223372036854775807) :
    Calls Try.prog 5 #[.int .i64 s, .int .i64 n, .int .i64 k, .slice a N c] w fun e w' => e = .returned (.bool true) ∧ Below w.heap.size w w' := by
  by_cases h : badN s n k
  · exact scripts_bad s n k w a N c h
  · unfold badN at h
    obtain ⟨s', rfl⟩ : ∃ s' : Nat, s = (s' : Int) := ⟨s.toNat, by omega⟩
    obtain ⟨n', rfl⟩ : ∃ n' : Nat, n = (n' : Int) := ⟨n.toNat, by omega⟩
    obtain ⟨k', rfl⟩ : ∃ k' : Nat, k = (k' : Int) := ⟨k.toNat, by omega⟩
    exact scripts_ok s' n' k' w a N c f hS hN (by omega) (by omega) (by omega) (by omega)
theorem cells48 : Try.prog.cellsOf 48 = 5 := by kernel_rfl
theorem trod_three {H : Type} {enc : TypeId × Value → H} {W : World} {t : TypeId} {f0 f1 f2 : Field} {fuel : Nat} {cs : List Value} {x : DataW H × List MemPlace} (ht : Try.prog.underlying t = some (.struct #[f0, f1, f2])) (h : DataW.trod enc Try.prog W 0 (fun _ => true) true fuel t cs = some x) :
    ∃ (y0 y1 y2 : DataW H × List MemPlace) (n : Nat), DataW.trod enc Try.prog W 0 (fun _ => true) true n f0.type ((cs.drop f0.offset).take (Try.prog.cellsOf f0.type)) = some y0 ∧ DataW.trod enc Try.prog W 0 (fun _ => true) true n f1.type ((cs.drop f1.offset).take (Try.prog.cellsOf f1.type)) = some y1 ∧ DataW.trod enc Try.prog W 0 (fun _ => true) true n f2.type ((cs.drop f2.offset).take (Try.prog.cellsOf f2.type)) = some y2 := by
  obtain ⟨xs, n, _, rfl, hl, hlen, hf⟩ := DataW.trod_struct ht h
  match xs, hlen with
  | [y0, y1, y2], _ => exact ⟨y0, y1, y2, n, by simpa using hf 0 f0 rfl, by simpa using hf 1 f1 rfl, by simpa using hf 2 f2 rfl⟩
set_option maxRecDepth 100000 in
/-- A call, from its five cells. -/
theorem op_cells {H : Type} {enc : TypeId × Value → H} {W : World} {n : Nat} {x : Addr} {y : DataW H × List MemPlace}
    (h : (W.cells? 0 x 5).bind (DataW.trod enc Try.prog W 0 (fun _ => true) true n 48) = some y) :
    ∃ s : Opr, (W.cell? (x.add 0) = some (.int .i64 s.1) ∧ W.cell? (x.add 1) = some (.int .i64 s.2.1.1) ∧ W.cell? (x.add 2) = some (.int .u64 (s.2.1.2.1 : Int)) ∧ W.cell? (x.add 3) = some (.int .u64 (s.2.1.2.2 : Int)) ∧ W.cell? (x.add 4) = some (.int .i64 s.2.2)) ∧ okC s.2.1 := by
  rw [Option.bind_eq_some_iff] at h
  obtain ⟨cs, hcs, hy⟩ := h
  obtain ⟨_, hlen, hcell⟩ := World.cells?_some hcs
  obtain ⟨y0, y1, y2, m, h0, h1, h2⟩ := trod_three Try.underlying48 hy
  match cs, hlen with
  | [c0, c1, c2, c3, c4], _ =>
    simp [cells3, cells34] at h0 h1 h2
    obtain ⟨kd, e0, _, w0⟩ := DataW.trod_int Try.underlying3 h0
    obtain ⟨o, hi, lo, rfl, rfl, rfl, b1, b2⟩ := cap_cells h1
    obtain ⟨v, e3, _, w3⟩ := DataW.trod_int Try.underlying3 h2
    simp at e0 e3
    subst e0 e3
    exact ⟨(kd, (o, hi, lo), v), ⟨by rw [hcell 0 (by omega)]; rfl, by rw [hcell 1 (by omega)]; rfl, by rw [hcell 2 (by omega)]; rfl, by rw [hcell 3 (by omega)]; rfl, by rw [hcell 4 (by omega)]; rfl⟩, b1, b2⟩
set_option maxRecDepth 100000 in
/-- A script that came in. -/
theorem open_ops {H : Type} {enc : TypeId × Value → H} {W : World} {r : Reach} {base : Nat} {v : Value} {d : DataW H} {p : List MemPlace} (hv : Value.okWide Try.prog W r base 43 v) (h : DataW.Trod enc Try.prog W 0 (fun _ => true) true 43 v d p) :
    ∃ x k cap f, v = .slice x k cap ∧ Ss W x k f ∧ k ≤ 9223372036854775807 := by
  obtain ⟨a, len, cap, rfl⟩ := okWide_slice Try.underlying43 hv
  obtain ⟨fuel, hf⟩ := h
  rcases DataW.trod_slice Try.underlying43 hf with ⟨hcs, hx⟩ | ⟨x, l, c, elems, rest, n, _, hcs, hx, _, hl, hm, hlen, hel, _, _⟩
  · simp [Value.cells] at hcs
    obtain ⟨rfl, rfl, rfl⟩ := hcs
    exact ⟨none, 0, 0, fun _ => (0, (0, 0, 0), 0), rfl, fun h => by omega, by omega⟩
  · simp [Value.cells] at hcs
    obtain ⟨rfl, rfl, rfl⟩ := hcs
    have each : ∀ i, ∃ s : Opr, i < len → (W.cell? ((x.add (i * 5)).add 0) = some (.int .i64 s.1) ∧ W.cell? ((x.add (i * 5)).add 1) = some (.int .i64 s.2.1.1) ∧ W.cell? ((x.add (i * 5)).add 2) = some (.int .u64 (s.2.1.2.1 : Int)) ∧ W.cell? ((x.add (i * 5)).add 3) = some (.int .u64 (s.2.1.2.2 : Int)) ∧ W.cell? ((x.add (i * 5)).add 4) = some (.int .i64 s.2.2)) ∧ okC s.2.1 := by
      intro i
      by_cases hi : i < len
      · have he := hel i hi
        rw [cells48, List.getElem?_eq_getElem (by omega)] at he
        obtain ⟨s, h1, h2⟩ := op_cells he
        exact ⟨s, fun _ => ⟨h1, h2⟩⟩
      · exact ⟨(0, (0, 0, 0), 0), fun h => absurd h hi⟩
    obtain ⟨f, hf⟩ := Classical.axiomOfChoice each
    refine ⟨some x, len, cap, f, rfl, fun hk => ?_, by unfold maxLen at hm; omega⟩
    obtain ⟨b, o, spot⟩ := x
    have h0 := (hf 0 hk).1.1
    have hs : spot = none := by simpa [Addr.add] using World.cell?_spot h0
    subst hs
    refine ⟨b, o, rfl, fun i hi => ?_⟩
    obtain ⟨⟨k0, k1, k2, k3, k4⟩, hk⟩ := hf i hi
    rw [addr_add, addr_add] at k0 k1 k2 k3 k4
    exact ⟨⟨k0, k1, k2, k3, k4⟩, hk⟩
set_option maxRecDepth 100000 in
theorem scripts_lifted (os : Os) (started : os.Started) (H : Type) (enc : TypeId × Value → H) :
    ReturnsInHanded {} Try.checked os 5 .any (Rows.cacheScriptsSpec.pre6 enc Try.prog Try.f5 Rows.cacheScriptsRow.domain false) (Rows.cacheScriptsSpec.post enc Try.prog Try.f5 false true false false) := by
  refine returnsInHanded_of_change (C := Try.checked) own started (by kernel_rfl) Try.func5
    (ChangeSpec.witness6 (enc := enc) (C := Try.checked) false ⟨#[], #[.int .i64 0, .int .i64 0, .int .i64 0, .slice none 0 0], []⟩ 8 (by kernel_rfl) (by kernel_rfl) (by kernel_rfl) (by kernel_rfl)) ?_
  intro W base args ds gs before hval0 hW hcnd _
  have hval : ∀ (j : Nat) t v, Try.f5.params[j]? = some t → args[j]? = some v → Value.okWide Try.prog W .any base t v := hval0
  have hW' := hW
  obtain ⟨p, q, hA0, hV, rfl, hfz, hnd⟩ := hW
  have hA : DataW.TrodAll enc Try.prog W 0 (fun _ => true) true Try.f5.params.toList args.toList ds p := hA0
  rw [Try.params5] at hA hval
  obtain ⟨v0, vs0, d0, ds0, p0, q0, hargs, rfl, rfl, h0, r0⟩ := trodAll_cons hA
  obtain ⟨v1, vs1, d1, ds1, p1, q1, rfl, rfl, rfl, h1, r1⟩ := trodAll_cons r0
  obtain ⟨v2, vs2, d2, ds2, p2, q2, rfl, rfl, rfl, h2, r2⟩ := trodAll_cons r1
  obtain ⟨v3, vs3, d3, ds3, p3, q3, rfl, rfl, rfl, h3, r3⟩ := trodAll_cons r2
  obtain ⟨rfl, rfl, rfl⟩ := trodAll_nil r3
  obtain rfl : args = #[v0, v1, v2, v3] := by cases args; simp_all
  obtain ⟨rfl, rfl⟩ := trodVars_none hV
  have k3 := h3
  have lt3 : ∀ x ∈ p3, x.block < W.heap.size := by obtain ⟨m, hm⟩ := k3; exact DataW.trod_lt m _ _ _ hm
  obtain ⟨x0, rfl, rfl, rfl, w0⟩ := open_int Try.underlying3 (hval 0 3 v0 rfl rfl) h0
  obtain ⟨x1, rfl, rfl, rfl, w1⟩ := open_int Try.underlying3 (hval 1 3 v1 rfl rfl) h1
  obtain ⟨x2, rfl, rfl, rfl, w2⟩ := open_int Try.underlying3 (hval 2 3 v2 rfl rfl) h2
  obtain ⟨a3, n3, c3, f3, rfl, hS3, hn3⟩ := open_ops (hval 3 43 v3 rfl rfl) h3
  clear hA0 hval0
  refine (scripts_any x0 x1 x2 W hS3 hn3).mono fun e W' ⟨he, bel⟩ => ?_
  subst he
  exact ⟨_, rfl, _, _, _, [], _, [], hW', trodAll_mk1 (shut_bool Try.underlying4 _), (trodAll_cons_mk (shut_int Try.underlying3 w0) (trodAll_cons_mk (shut_int Try.underlying3 w1) (trodAll_cons_mk (shut_int Try.underlying3 w2) (trodAll_cons_mk (Below.trod laidOut (by kernel_rfl) (of_decide_eq_true (by kernel_rfl)) k3 bel lt3) trodAll_mk0)))), rfl, bel.frame _, fun h => by cases h⟩

theorem cacheScripts_holds : Rows.CacheScriptsSaid :=
  OpenClaim.holds_of_wide 5 Try.f5 rfl rfl rfl rfl rfl rfl rfl ⟨rfl, rfl, rfl, rfl, rfl⟩ rfl rfl rfl rfl rfl (by kernel_rfl) Try.func5 (by kernel_rfl)
    (of_decide_eq_true (by kernel_rfl)) (by unfold Func.isWrapper; first | (rw [if_pos (by decide +kernel)]; kernel_rfl) | (rw [if_neg (by decide +kernel)]; exact ⟨rfl, rfl⟩))
    (fun os started H enc _ => scripts_lifted os started H enc)
#print axioms cacheScripts_holds
end Go.Proofs.Ythlojdclncikiaa
