import Derived.Test.YtjncgpekmilpeaaLR
import Derived.Test.YtjncgpekmilpeaaPU
import Derived.Deep.Strs
namespace Go.Proofs.Ytjncgpekmilpeaa
open Go.ChangeShapes Go.WideShapes Go.ChangeAt Go.RowKit Go.Joins

theorem cells76 : Try.prog.cellsOf 76 = 3 := by kernel_rfl
theorem cells3t : Try.prog.cellsOf 3 = 1 := by kernel_rfl
theorem add_addr (x : Addr) (b o i j : Nat) (h : x = ⟨b, o, none⟩) : (x.add i).add j = ⟨b, o + i + j, none⟩ := by
  subst h
  rw [addr_add, addr_add]
/-- One call of the script, from its three cells. -/
theorem op_cells {H : Type} {enc : TypeId × Value → H} {W : World} {base : Nat} {spare : Nat → Bool} {held : Bool} {n : Nat} {x : Addr} {y : DataW H × List MemPlace}
    (h : (W.cells? base x 3).bind (DataW.trod enc Try.prog W base spare held n 76) = some y) :
    ∃ k m l : Int, W.cell? (x.add 0) = some (.int .i64 k) ∧ W.cell? (x.add 1) = some (.int .i64 m) ∧ W.cell? (x.add 2) = some (.int .i64 l) ∧ l < 9223372036854775808 := by
  rw [Option.bind_eq_some_iff] at h
  obtain ⟨cs, hcs, hy⟩ := h
  obtain ⟨_, hlen, hcell⟩ := World.cells?_some hcs
  obtain ⟨y0, y1, y2, m, _, _, h0, h1, h2⟩ := Deep.trod_struct3 Try.underlying76 hy
  match cs, hlen with
  | [c0, c1, c2], _ =>
    simp [cells3t] at h0 h1 h2
    obtain ⟨k0, e0, _, w0⟩ := DataW.trod_int Try.underlying3 h0
    obtain ⟨k1, e1, _, w1⟩ := DataW.trod_int Try.underlying3 h1
    obtain ⟨k2, e2, _, w2⟩ := DataW.trod_int Try.underlying3 h2
    simp at e0 e1 e2
    subst e0 e1 e2
    have b2 := bounds_i64 w2
    have q0 := hcell 0 (by omega)
    have q1 := hcell 1 (by omega)
    have q2 := hcell 2 (by omega)
    exact ⟨k0, k1, k2, by simpa using q0, by simpa using q1, by simpa using q2, by omega⟩
theorem open_ops {H : Type} {enc : TypeId × Value → H} {W : World} {r : Reach} {base : Nat} {v : Value} {d : DataW H} {p : List MemPlace} (hv : Value.okWide Try.prog W r base 70 v) (h : DataW.Trod enc Try.prog W 0 (fun _ => true) true 70 v d p) :
    ∃ x k cap f, v = .slice x k cap ∧ Ops W x k cap f ∧ k ≤ 9223372036854775807 := by
  obtain ⟨a, len, cap, rfl⟩ := okWide_slice Try.underlying70 hv
  obtain ⟨fuel, hf⟩ := h
  rcases DataW.trod_slice Try.underlying70 hf with ⟨hcs, hx⟩ | ⟨x, l, c, elems, rest, n, _, hcs, _, _, hl, hm, hlen, hel, _, _⟩
  · simp [Value.cells] at hcs
    obtain ⟨rfl, rfl, rfl⟩ := hcs
    exact ⟨none, 0, 0, fun _ => (0, 0, 0), rfl, ⟨Nat.le_refl _, fun _ => by simp, fun h => by omega⟩, by omega⟩
  · simp [Value.cells] at hcs
    obtain ⟨rfl, rfl, rfl⟩ := hcs
    have each : ∀ i, ∃ q : Int × Int × Int, q.2.2 < 9223372036854775808 ∧ (i < len → W.cell? ((x.add (i * 3)).add 0) = some (.int .i64 q.1) ∧ W.cell? ((x.add (i * 3)).add 1) = some (.int .i64 q.2.1) ∧ W.cell? ((x.add (i * 3)).add 2) = some (.int .i64 q.2.2)) := by
      intro i
      by_cases hi : i < len
      · have he := hel i hi
        rw [cells76, List.getElem?_eq_getElem (by omega)] at he
        obtain ⟨k0, k1, k2, h0, h1, h2, hb⟩ := op_cells he
        exact ⟨(k0, k1, k2), hb, fun _ => ⟨h0, h1, h2⟩⟩
      · exact ⟨(0, 0, 0), by simp, fun h => absurd h hi⟩
    obtain ⟨f, hf⟩ := Classical.axiomOfChoice each
    refine ⟨some x, len, cap, f, rfl, ⟨hl, fun i => (hf i).1, fun hk => ?_⟩, by unfold maxLen at hm; omega⟩
    obtain ⟨b, o, spot⟩ := x
    have h0 := ((hf 0).2 hk).1
    have hs : spot = none := by simpa [Addr.add] using World.cell?_spot h0
    subst hs
    have hbl := World.block_lt_of_cell? _ _ h0
    refine ⟨b, o, rfl, by simpa [Addr.add] using hbl, fun i hi => ?_⟩
    obtain ⟨g0, g1, g2⟩ := (hf i).2 hi
    rw [add_addr _ b o (i * 3) _ rfl] at g0 g1 g2
    exact ⟨by simpa using g0, g1, g2⟩

set_option maxRecDepth 100000 in
theorem reads_lifted (os : Os) (started : os.Started) (H : Type) (enc : TypeId × Value → H) :
    ReturnsInHanded {} Try.checked os 6 .any (Rows.octetReadsSpec.pre6 enc Try.prog Try.f6 Rows.octetReadsRow.domain false) (Rows.octetReadsSpec.post enc Try.prog Try.f6 false true false false) := by
  refine returnsInHanded_of_change_sized (C := Try.checked) ownK started (by kernel_rfl) Try.func6
    (ChangeSpec.witness6 (enc := enc) (C := Try.checked) false ⟨#[], #[.slice none 0 0, .slice none 0 0, .slice none 0 0], []⟩ 8 (by kernel_rfl) (by kernel_rfl) (by kernel_rfl) (by kernel_rfl)) ?_
  intro W base args ds gs before hval0 hW hcnd hsz0 _
  have hsz : (DataW.weightsEach Try.prog (Try.f6.params.toList ++ Rows.octetReadsSpec.plain.varTypes Try.prog) (ds ++ gs)).all (· ≤ reachBytes) = true := hsz0
  clear hsz0
  have hval : ∀ (j : Nat) t v, Try.f6.params[j]? = some t → args[j]? = some v → Value.okWide Try.prog W .any base t v := hval0
  have hW' := hW
  obtain ⟨p, q, hA0, hV, rfl, hfz, hnd⟩ := hW
  have hA : DataW.TrodAll enc Try.prog W 0 (fun _ => true) true Try.f6.params.toList args.toList ds p := hA0
  rw [Try.params6] at hA hval hsz
  obtain ⟨v0, vs0, d0, ds0, p0, q0, hargs, rfl, rfl, h0, r0⟩ := trodAll_cons hA
  obtain ⟨v1, vs1, d1, ds1, p1, q1, rfl, rfl, rfl, h1, r1⟩ := trodAll_cons r0
  obtain ⟨v2, vs2, d2, ds2, p2, q2, rfl, rfl, rfl, h2, r2⟩ := trodAll_cons r1
  obtain ⟨rfl, rfl, rfl⟩ := trodAll_nil r2
  obtain rfl : args = #[v0, v1, v2] := by cases args; simp_all
  obtain ⟨rfl, rfl⟩ := trodVars_none hV
  have k0 := h0
  have k1 := h1
  have k2 := h2
  have lt0 : ∀ x ∈ p0, x.block < W.heap.size := by obtain ⟨m, hm⟩ := k0; exact DataW.trod_lt m _ _ _ hm
  have lt1 : ∀ x ∈ p1, x.block < W.heap.size := by obtain ⟨m, hm⟩ := k1; exact DataW.trod_lt m _ _ _ hm
  have lt2 : ∀ x ∈ p2, x.block < W.heap.size := by obtain ⟨m, hm⟩ := k2; exact DataW.trod_lt m _ _ _ hm
  obtain ⟨a, n, ca, A, rfl, hR0, hrd0⟩ := open_row (hval 0 22 v0 rfl rfl) h0
  obtain ⟨b, m, cb, B, rfl, hR1, hrd1⟩ := open_row (hval 1 22 v1 rfl rfl) h1
  obtain ⟨x, k, cx, f, rfl, hO, hk⟩ := open_ops (hval 2 70 v2 rfl rfl) h2
  have hn : n + 300 ≤ 140737488355328 := by
    rcases hrd0 with ⟨_, rfl⟩ | ⟨xs, ys, rfl, rfl⟩
    · omega
    · have := sized_slice hsz (j := 0) (t := 22) (e := 5) rfl rfl Try.underlying22
      rw [bytes5] at this
      simp only [reachBytes] at this
      omega
  have hm : m + 300 ≤ 140737488355328 := by
    rcases hrd1 with ⟨_, rfl⟩ | ⟨xs, ys, rfl, rfl⟩
    · omega
    · have := sized_slice hsz (j := 1) (t := 22) (e := 5) rfl rfl Try.underlying22
      rw [bytes5] at this
      simp only [reachBytes] at this
      omega
  clear hA0 hval0
  refine (reads_walk a b x n m k ca cb cx A B f W hR0 hR1 hO hn hm hk).mono fun e W' ⟨he, bel⟩ => ?_
  subst he
  exact ⟨_, rfl, _, _, _, [], _, [], hW', trodAll_mk1 (shut_bool Try.underlying4 _), (trodAll_cons_mk (Below.trod laidOut (by kernel_rfl) (of_decide_eq_true (by kernel_rfl)) k0 bel lt0) (trodAll_cons_mk (Below.trod laidOut (by kernel_rfl) (of_decide_eq_true (by kernel_rfl)) k1 bel lt1) (trodAll_cons_mk (Below.trod laidOut (by kernel_rfl) (of_decide_eq_true (by kernel_rfl)) k2 bel lt2) trodAll_mk0))), rfl, bel.frame _, fun h => by cases h⟩

theorem octetReads_holds : Rows.OctetReadsSaid :=
  OpenClaim.holds_of_wide 6 Try.f6 rfl rfl rfl rfl rfl rfl rfl ⟨rfl, rfl, rfl, rfl, rfl⟩ rfl rfl rfl rfl rfl (by kernel_rfl) Try.func6 (by kernel_rfl)
    (of_decide_eq_true (by kernel_rfl)) (by unfold Func.isWrapper; first | (rw [if_pos (by decide +kernel)]; kernel_rfl) | (rw [if_neg (by decide +kernel)]; exact ⟨rfl, rfl⟩))
    (fun os started H enc _ => reads_lifted os started H enc)
#print axioms octetReads_holds
end Go.Proofs.Ytjncgpekmilpeaa
