import Derived.Test.YtjncgpekmilpeaaG1
import Derived.Test.YtjncgpekmilpeaaPU
namespace Go.Proofs.Ytjncgpekmilpeaa
open Go.ChangeShapes Go.WideShapes Go.ChangeAt Go.RowKit Go.Joins

theorem bulk_part {H : Type} {d : DataW H} {l : List (DataW H)} (h : d ∈ l) : Rows.uptoBulk d ≤ Rows.uptoBulkAll l := by
  induction l with
  | nil => cases h
  | cons x r ih =>
    simp only [Rows.uptoBulkAll]
    cases List.mem_cons.1 h with
    | inl e => subst e; omega
    | inr e => have := ih e; omega
theorem open_row2 {H : Type} {enc : TypeId × Value → H} {W : World} {fuel : Nat} {cs : List Value} {x : DataW H × List MemPlace} (hf : DataW.trod enc Try.prog W 0 (fun _ => true) true fuel 22 cs = some x) :
    ∃ a len cap L, cs = [.slice a len cap] ∧ Row W a len cap L ∧ Reads x.1 len := by
  rcases open_ints Try.underlying22 Try.underlying5 (by kernel_rfl) hf with ⟨hcs, hx⟩ | ⟨y, l, c, zs, hcs, _, hl, hm, hz, hx, hcell, hwz⟩
  · subst hx
    exact ⟨none, 0, 0, [], hcs, row_nil W, .inl ⟨rfl, rfl⟩⟩
  · simp only [if_true] at hz
    subst hx
    exact ⟨_, _, _, _, hcs, row_of hl hz hcell hwz, .inr ⟨_, _, rfl, by simp [lits]; omega⟩⟩
/-- One item, from its six cells. -/
theorem item_cells {H : Type} {enc : TypeId × Value → H} {W : World} {n : Nat} {x : Addr} {y : DataW H × List MemPlace}
    (h : (W.cells? 0 x 6).bind (DataW.trod enc Try.prog W 0 (fun _ => true) true n 51) = some y) :
    ∃ t : It, (∀ c u, t.cs[c]? = some u → W.cell? (x.add c) = some u) ∧ t.Good W ∧ t.n ≤ Rows.uptoBulk y.1 := by
  rw [Option.bind_eq_some_iff] at h
  obtain ⟨cs, hcs, hy⟩ := h
  obtain ⟨_, hlen, hcell⟩ := World.cells?_some hcs
  obtain ⟨y0, y1, y2, y3, m, hyy, _, h0, h1, h2, h3⟩ := trod_struct4 Try.underlying51 hy
  have k3 : Try.prog.cellsOf 3 = 1 := by kernel_rfl
  have k23 : Try.prog.cellsOf 23 = 1 := by kernel_rfl
  have k22 : Try.prog.cellsOf 22 = 1 := by kernel_rfl
  match cs, hlen with
  | [c0, c1, c2, c3, c4, c5], _ =>
    simp [k3, k23, k22, cells27] at h0 h1 h2 h3
    obtain ⟨z0, z1, m2, _, _, g0, g1⟩ := trod_struct2 Try.underlying27 h2
    simp [k3, cells25] at g0 g1
    obtain ⟨z2, z3, m3, _, _, g2, g3⟩ := trod_struct2 Try.underlying25 g1
    simp [k23] at g2 g3
    obtain ⟨kd, e0, _, w0⟩ := DataW.trod_int Try.underlying3 h0
    obtain ⟨v, e1, _, w1⟩ := DataW.trod_int Try.underlying23 h1
    obtain ⟨o, e2, _, w2⟩ := DataW.trod_int Try.underlying3 g0
    obtain ⟨hi, e3, _, w3⟩ := DataW.trod_int Try.underlying23 g2
    obtain ⟨lo, e4, _, w4⟩ := DataW.trod_int Try.underlying23 g3
    obtain ⟨a, len, cap, L, e5, hR, hrd⟩ := open_row2 h3
    simp at e0 e1 e2 e3 e4 e5
    subst e0 e1 e2 e3 e4 e5
    have b1 := bounds_u64 w1
    have b3 := bounds_u64 w3
    have b4 := bounds_u64 w4
    refine ⟨⟨kd, v.toNat, o, hi.toNat, lo.toNat, a, len, cap, L⟩, ?_, ⟨by simp only; omega, by simp only; omega, by simp only; omega, hR⟩, ?_⟩
    · intro c u hu
      have hc : c < 6 := (List.getElem?_eq_some_iff.1 hu).1
      have hq := hcell c hc
      rw [hq]
      rw [← hu]
      simp only [It.cs]
      rw [Int.toNat_of_nonneg (by omega), Int.toNat_of_nonneg (by omega), Int.toNat_of_nonneg (by omega)]
    · have hb := hrd.bulk
      subst hyy
      simp only [Rows.uptoBulk, Rows.uptoBulkAll]
      omega
theorem cells51 : Try.prog.cellsOf 51 = 6 := by kernel_rfl
theorem open_items {H : Type} {enc : TypeId × Value → H} {W : World} {r : Reach} {base : Nat} {v : Value} {d : DataW H} {p : List MemPlace} (hv : Value.okWide Try.prog W r base 49 v) (h : DataW.Trod enc Try.prog W 0 (fun _ => true) true 49 v d p) (hb : Rows.uptoBulk d ≤ 1048576) :
    ∃ x k cap f, v = .slice x k cap ∧ Items W x k cap f ∧ (∀ j, j < k → (f j).Good W) ∧ (∀ j, j < k → (f j).n ≤ 1048576) ∧ k ≤ 1048576 := by
  obtain ⟨a, len, cap, rfl⟩ := okWide_slice Try.underlying49 hv
  obtain ⟨fuel, hf⟩ := h
  rcases DataW.trod_slice Try.underlying49 hf with ⟨hcs, hx⟩ | ⟨x, l, c, elems, rest, n, _, hcs, hx, _, hl, hm, hlen, hel, _, _⟩
  · simp [Value.cells] at hcs
    obtain ⟨rfl, rfl, rfl⟩ := hcs
    exact ⟨none, 0, 0, fun _ => lastIt, rfl, ⟨Nat.le_refl _, fun _ => ⟨rfl, rfl⟩, fun _ h => (by cases h)⟩, fun j h => by omega, fun j h => by omega, by omega⟩
  · simp [Value.cells] at hcs
    obtain ⟨rfl, rfl, rfl⟩ := hcs
    simp only [Prod.mk.injEq] at hx
    obtain ⟨hd, _⟩ := hx
    subst hd
    simp only [Rows.uptoBulk] at hb
    have each : ∀ i, ∃ t : It, i < len → (∀ c u, t.cs[c]? = some u → W.cell? ((x.add (i * 6)).add c) = some u) ∧ t.Good W ∧ t.n ≤ 1048576 := by
      intro i
      by_cases hi : i < len
      · have he := hel i hi
        rw [cells51, List.getElem?_eq_getElem (by omega)] at he
        obtain ⟨t, h1, h2, h3⟩ := item_cells he
        refine ⟨t, fun _ => ⟨h1, h2, ?_⟩⟩
        have hp : Rows.uptoBulk (elems[i]'(by omega)).1 ≤ Rows.uptoBulkAll (elems.map (·.1)) := bulk_part (List.mem_map.2 ⟨_, List.getElem_mem _, rfl⟩)
        omega
      · exact ⟨lastIt, fun h => absurd h hi⟩
    obtain ⟨f, hf⟩ := Classical.axiomOfChoice each
    have hk : len ≤ 1048576 := by
      have := bulk_len (elems.map (·.1))
      simp only [List.length_map] at this
      omega
    refine ⟨some x, len, cap, f, rfl, ⟨hl, (fun h => by cases h), ?_⟩, fun j hj => (hf j hj).2.1, fun j hj => (hf j hj).2.2, hk⟩
    intro y hy j u hu
    cases hy
    have hj : j < len * 6 := by have := (List.getElem?_eq_some_iff.1 hu).1; rwa [ivs_length] at this
    have hq := ivs_get f len (j / 6) (j % 6) (by omega) (by omega)
    have hjj : j / 6 * 6 + j % 6 = j := by omega
    rw [hjj] at hq
    rw [hq] at hu
    have hc := (hf (j / 6) (by omega)).1 (j % 6) u hu
    have hadd : (x.add (j / 6 * 6)).add (j % 6) = x.add j := by
      rw [Deep.add_add, hjj]
    rw [hadd] at hc
    exact hc
end Go.Proofs.Ytjncgpekmilpeaa
