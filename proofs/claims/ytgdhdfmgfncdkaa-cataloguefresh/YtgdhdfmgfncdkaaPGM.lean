import Derived.Test.YtgdhdfmgfncdkaaVE
import Derived.WalkKit
import Derived.ProofKit
import Derived.OpenShut
import Derived.ChangeOld
import Derived.Below
import Derived.Lib.SmallJoins
import Derived.Test.YtgdhdfmgfncdkaaFN
namespace Go.Proofs.Ytgdhdfmgfncdkaa
open Go.ChangeShapes Go.WideShapes Go.ChangeAt Go.RowKit Go.Joins H

theorem own : ownKnob Try.prog.godebug = none := by kernel_rfl
theorem laidOut : laidOutB Try.prog = true := by kernel_rfl
theorem cells3 : Try.prog.cellsOf 3 = 1 := by kernel_rfl
theorem cells4 : Try.prog.cellsOf 4 = 1 := by kernel_rfl
theorem cells29 : Try.prog.cellsOf 29 = 1 := by kernel_rfl
theorem cells31 : Try.prog.cellsOf 31 = 2 := by kernel_rfl
theorem cells33 : Try.prog.cellsOf 33 = 3 := by kernel_rfl
theorem cells63 : Try.prog.cellsOf 63 = 7 := by kernel_rfl
/-- A wellformed number of 64 bits is a natural number below 2 to the 64th. -/
theorem half_wf {a : Int} (wa : (Lit.int .u64 a).wf = true) : ∃ N : Nat, N < B64 ∧ a = (N : Int) := by
  have ha := bounds_u64 wa
  exact ⟨a.toNat, by unfold B64; omega, by omega⟩
theorem trod_two {H : Type} {enc : TypeId × Value → H} {W : World} {t : TypeId} {f0 f1 : Field} {fuel : Nat} {cs : List Value} {x : DataW H × List MemPlace} (ht : Try.prog.underlying t = some (.struct #[f0, f1])) (h : DataW.trod enc Try.prog W 0 (fun _ => true) true fuel t cs = some x) :
    ∃ (y0 y1 : DataW H × List MemPlace) (n : Nat), DataW.trod enc Try.prog W 0 (fun _ => true) true n f0.type ((cs.drop f0.offset).take (Try.prog.cellsOf f0.type)) = some y0 ∧ DataW.trod enc Try.prog W 0 (fun _ => true) true n f1.type ((cs.drop f1.offset).take (Try.prog.cellsOf f1.type)) = some y1 := by
  obtain ⟨xs, n, _, rfl, hl, hlen, hf⟩ := DataW.trod_struct ht h
  match xs, hlen with
  | [y0, y1], _ => exact ⟨y0, y1, n, by simpa using hf 0 f0 rfl, by simpa using hf 1 f1 rfl⟩
theorem trod_five {H : Type} {enc : TypeId × Value → H} {W : World} {t : TypeId} {f0 f1 f2 f3 f4 : Field} {fuel : Nat} {cs : List Value} {x : DataW H × List MemPlace} (ht : Try.prog.underlying t = some (.struct #[f0, f1, f2, f3, f4])) (h : DataW.trod enc Try.prog W 0 (fun _ => true) true fuel t cs = some x) :
    ∃ (y0 y1 y2 y3 y4 : DataW H × List MemPlace) (n : Nat), DataW.trod enc Try.prog W 0 (fun _ => true) true n f0.type ((cs.drop f0.offset).take (Try.prog.cellsOf f0.type)) = some y0 ∧ DataW.trod enc Try.prog W 0 (fun _ => true) true n f1.type ((cs.drop f1.offset).take (Try.prog.cellsOf f1.type)) = some y1 ∧
      DataW.trod enc Try.prog W 0 (fun _ => true) true n f2.type ((cs.drop f2.offset).take (Try.prog.cellsOf f2.type)) = some y2 ∧ DataW.trod enc Try.prog W 0 (fun _ => true) true n f3.type ((cs.drop f3.offset).take (Try.prog.cellsOf f3.type)) = some y3 ∧ DataW.trod enc Try.prog W 0 (fun _ => true) true n f4.type ((cs.drop f4.offset).take (Try.prog.cellsOf f4.type)) = some y4 := by
  obtain ⟨xs, n, _, rfl, hl, hlen, hf⟩ := DataW.trod_struct ht h
  match xs, hlen with
  | [y0, y1, y2, y3, y4], _ => exact ⟨y0, y1, y2, y3, y4, n, by simpa using hf 0 f0 rfl, by simpa using hf 1 f1 rfl, by simpa using hf 2 f2 rfl, by simpa using hf 3 f3 rfl, by simpa using hf 4 f4 rfl⟩
set_option maxRecDepth 100000 in
/-- A capability, from its three cells. -/
theorem cap_cells {H : Type} {enc : TypeId × Value → H} {W : World} {n : Nat} {c0 c1 c2 : Value} {y : DataW H × List MemPlace}
    (h : DataW.trod enc Try.prog W 0 (fun _ => true) true n 33 [c0, c1, c2] = some y) :
    ∃ (o : Int) (hi lo : Nat), c0 = .int .i64 o ∧ c1 = .int .u64 (hi : Int) ∧ c2 = .int .u64 (lo : Int) ∧ hi < B64 ∧ lo < B64 := by
  obtain ⟨y0, y1, m, h0, h1⟩ := trod_two Try.underlying33 h
  simp [cells3, cells31] at h0 h1
  obtain ⟨z0, z1, m2, g0, g1⟩ := trod_two Try.underlying31 h1
  simp [cells29] at g0 g1
  obtain ⟨o, e0, _, w0⟩ := DataW.trod_int Try.underlying3 h0
  obtain ⟨a, e1, _, w1⟩ := DataW.trod_int Try.underlying29 g0
  obtain ⟨b, e2, _, w2⟩ := DataW.trod_int Try.underlying29 g1
  simp at e0 e1 e2
  subst e0 e1 e2
  obtain ⟨A, nA, rfl⟩ := half_wf w1
  obtain ⟨B, nB, rfl⟩ := half_wf w2
  exact ⟨o, A, B, rfl, rfl, rfl, nA, nB⟩
set_option maxRecDepth 100000 in
/-- A step, from its seven cells. -/
theorem step_cells {H : Type} {enc : TypeId × Value → H} {W : World} {n : Nat} {x : Addr} {y : DataW H × List MemPlace}
    (h : (W.cells? 0 x 7).bind (DataW.trod enc Try.prog W 0 (fun _ => true) true n 63) = some y) :
    ∃ s : Sp, (W.cell? (x.add 0) = some (.bool s.sec) ∧ W.cell? (x.add 1) = some (.int .i64 s.kd) ∧ W.cell? (x.add 2) = some (.int .i64 s.n) ∧ W.cell? (x.add 3) = some (.int .i64 s.c.1) ∧ W.cell? (x.add 4) = some (.int .u64 (s.c.2.1 : Int)) ∧ W.cell? (x.add 5) = some (.int .u64 (s.c.2.2 : Int)) ∧ W.cell? (x.add 6) = some (.int .i64 s.r)) ∧ s.c.2.1 < B64 ∧ s.c.2.2 < B64 := by
  rw [Option.bind_eq_some_iff] at h
  obtain ⟨cs, hcs, hy⟩ := h
  obtain ⟨_, hlen, hcell⟩ := World.cells?_some hcs
  obtain ⟨y0, y1, y2, y3, y4, m, h0, h1, h2, h3, h4⟩ := trod_five Try.underlying63 hy
  match cs, hlen with
  | [c0, c1, c2, c3, c4, c5, c6], _ =>
    simp [cells3, cells4, cells33] at h0 h1 h2 h3 h4
    obtain ⟨sec, e0, _⟩ := DataW.trod_bool Try.underlying4 h0
    obtain ⟨kd, e1, _, w1⟩ := DataW.trod_int Try.underlying3 h1
    obtain ⟨nn, e2, _, w2⟩ := DataW.trod_int Try.underlying3 h2
    obtain ⟨o, hi, lo, rfl, rfl, rfl, b1, b2⟩ := cap_cells h3
    obtain ⟨v, e4, _, w4⟩ := DataW.trod_int Try.underlying3 h4
    simp at e0 e1 e2 e4
    subst e0 e1 e2 e4
    exact ⟨⟨sec, kd, nn, (o, hi, lo), v⟩, ⟨by rw [hcell 0 (by omega)]; rfl, by rw [hcell 1 (by omega)]; rfl, by rw [hcell 2 (by omega)]; rfl, by rw [hcell 3 (by omega)]; rfl, by rw [hcell 4 (by omega)]; rfl, by rw [hcell 5 (by omega)]; rfl, by rw [hcell 6 (by omega)]; rfl⟩, b1, b2⟩
set_option maxRecDepth 100000 in
/-- A script that came in. -/
theorem open_steps {H : Type} {enc : TypeId × Value → H} {W : World} {r : Reach} {base : Nat} {v : Value} {d : DataW H} {p : List MemPlace} (hv : Value.okWide Try.prog W r base 22 v) (h : DataW.Trod enc Try.prog W 0 (fun _ => true) true 22 v d p) :
    ∃ x k cap f, v = .slice x k cap ∧ Ss W x k f ∧ k ≤ 9223372036854775807 := by
  obtain ⟨a, len, cap, rfl⟩ := okWide_slice Try.underlying22 hv
  obtain ⟨fuel, hf⟩ := h
  have dummy : Sp := ⟨false, 0, 0, (0, 0, 0), 0⟩
  rcases DataW.trod_slice Try.underlying22 hf with ⟨hcs, hx⟩ | ⟨x, l, c, elems, rest, n, _, hcs, hx, _, hl, hm, hlen, hel, _, _⟩
  · simp [Value.cells] at hcs
    obtain ⟨rfl, rfl, rfl⟩ := hcs
    exact ⟨none, 0, 0, fun _ => dummy, rfl, ⟨fun h => by omega, fun i h => by omega⟩, by omega⟩
  · simp [Value.cells] at hcs
    obtain ⟨rfl, rfl, rfl⟩ := hcs
    have each : ∀ i, ∃ s : Sp, i < len → (W.cell? ((x.add (i * 7)).add 0) = some (.bool s.sec) ∧ W.cell? ((x.add (i * 7)).add 1) = some (.int .i64 s.kd) ∧ W.cell? ((x.add (i * 7)).add 2) = some (.int .i64 s.n) ∧ W.cell? ((x.add (i * 7)).add 3) = some (.int .i64 s.c.1) ∧ W.cell? ((x.add (i * 7)).add 4) = some (.int .u64 (s.c.2.1 : Int)) ∧ W.cell? ((x.add (i * 7)).add 5) = some (.int .u64 (s.c.2.2 : Int)) ∧ W.cell? ((x.add (i * 7)).add 6) = some (.int .i64 s.r)) ∧ s.c.2.1 < B64 ∧ s.c.2.2 < B64 := by
      intro i
      by_cases hi : i < len
      · have he := hel i hi
        rw [cells63, List.getElem?_eq_getElem (by omega)] at he
        obtain ⟨s, h1⟩ := step_cells he
        exact ⟨s, fun _ => h1⟩
      · exact ⟨dummy, fun h => absurd h hi⟩
    obtain ⟨f, hf⟩ := Classical.axiomOfChoice each
    refine ⟨some x, len, cap, f, rfl, ⟨fun hk => ?_, fun i hi => (hf i hi).2⟩, by unfold maxLen at hm; omega⟩
    obtain ⟨b, o, spot⟩ := x
    have h0 := (hf 0 hk).1.1
    have hs : spot = none := by simpa [Addr.add] using World.cell?_spot h0
    subst hs
    refine ⟨b, o, rfl, fun i hi => ?_⟩
    obtain ⟨k0, k1, k2, k3, k4, k5, k6⟩ := (hf i hi).1
    rw [addr_add, addr_add] at k0 k1 k2 k3 k4 k5 k6
    exact ⟨k0, k1, k2, k3, k4, k5, k6⟩
open Go.ChangeShapes Go.WideShapes Go.ChangeAt Go.RowKit Go.Joins

set_option maxRecDepth 100000 in
theorem catalogueFresh_lifted (os : Os) (started : os.Started) (H : Type) (enc : TypeId × Value → H) :
    ReturnsInHanded {} Try.checked os 4 .any (Rows.catalogueFreshSpec.pre6 enc Try.prog Try.f4 Rows.catalogueFreshRow.domain false) (Rows.catalogueFreshSpec.post enc Try.prog Try.f4 false true false false) := by
  refine returnsInHanded_of_change (C := Try.checked) own started (by kernel_rfl) Try.func4
    (ChangeSpec.witness6 (enc := enc) (C := Try.checked) false ⟨#[], #[.int .i64 0, .int .i64 0, .slice none 0 0, .int .i64 0], []⟩ 8 (by kernel_rfl) (by kernel_rfl) (by kernel_rfl) (by kernel_rfl)) ?_
  intro W base args ds gs before hval0 hW hcnd _
  have hval : ∀ (j : Nat) t v, Try.f4.params[j]? = some t → args[j]? = some v → Value.okWide Try.prog W .any base t v := hval0
  have hW' := hW
  obtain ⟨p, q, hA0, hV, rfl, hfz, hnd⟩ := hW
  have hA : DataW.TrodAll enc Try.prog W 0 (fun _ => true) true Try.f4.params.toList args.toList ds p := hA0
  rw [Try.params4] at hA hval
  obtain ⟨v0, vs0, d0, ds0, p0, q0, hargs, rfl, rfl, h0, r0⟩ := trodAll_cons hA
  obtain ⟨v1, vs1, d1, ds1, p1, q1, rfl, rfl, rfl, h1, r1⟩ := trodAll_cons r0
  obtain ⟨v2, vs2, d2, ds2, p2, q2, rfl, rfl, rfl, h2, r2⟩ := trodAll_cons r1
  obtain ⟨v3, vs3, d3, ds3, p3, q3, rfl, rfl, rfl, h3, r3⟩ := trodAll_cons r2
  obtain ⟨rfl, rfl, rfl⟩ := trodAll_nil r3
  obtain rfl : args = #[v0, v1, v2, v3] := by cases args; simp_all
  obtain ⟨rfl, rfl⟩ := trodVars_none hV
  have k2 := h2
  have lt2 : ∀ x ∈ p2, x.block < W.heap.size := by obtain ⟨m, hm⟩ := k2; exact DataW.trod_lt m _ _ _ hm
  obtain ⟨x0, rfl, rfl, rfl, w0⟩ := open_int Try.underlying3 (hval 0 3 v0 rfl rfl) h0
  obtain ⟨x1, rfl, rfl, rfl, w1⟩ := open_int Try.underlying3 (hval 1 3 v1 rfl rfl) h1
  obtain ⟨x, k, cap, f, rfl, hS, hk⟩ := open_steps (hval 2 22 v2 rfl rfl) h2
  obtain ⟨x3, rfl, rfl, rfl, w3⟩ := open_int Try.underlying3 (hval 3 3 v3 rfl rfl) h3
  clear hA0 hval0
  refine (fresh_law x0 x1 x k cap f x3 W hS hk).mono fun e W' ⟨he, bel⟩ => ?_
  subst he
  exact ⟨_, rfl, _, _, _, [], _, [], hW', trodAll_mk1 (shut_bool Try.underlying4 _), (trodAll_cons_mk (shut_int Try.underlying3 w0) (trodAll_cons_mk (shut_int Try.underlying3 w1) (trodAll_cons_mk (Below.trod laidOut (by kernel_rfl) (of_decide_eq_true (by kernel_rfl)) k2 bel lt2) (trodAll_cons_mk (shut_int Try.underlying3 w3) trodAll_mk0)))), rfl, bel.frame _, fun h => by cases h⟩

theorem catalogueFresh_holds : Rows.CatalogueFreshSaid :=
  OpenClaim.holds_of_wide 4 Try.f4 rfl rfl rfl rfl rfl rfl rfl ⟨rfl, rfl, rfl, rfl, rfl⟩ rfl rfl rfl rfl rfl (by kernel_rfl) Try.func4 (by kernel_rfl)
    (of_decide_eq_true (by kernel_rfl)) (by unfold Func.isWrapper; first | (rw [if_pos (by decide +kernel)]; kernel_rfl) | (rw [if_neg (by decide +kernel)]; exact ⟨rfl, rfl⟩))
    (fun os started H enc _ => catalogueFresh_lifted os started H enc)
#print axioms catalogueFresh_holds
end Go.Proofs.Ytgdhdfmgfncdkaa
