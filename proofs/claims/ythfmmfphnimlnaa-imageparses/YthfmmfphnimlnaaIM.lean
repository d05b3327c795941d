import Derived.Test.YthfmmfphnimlnaaA5
import Derived.Test.YthfmmfphnimlnaaIC
namespace Go.Proofs.Ythfmmfphnimlnaa
open Go.RowKit
set_option linter.unusedVariables false
set_option linter.unusedSimpArgs false
theorem vals_one (rs : List R4) : ∀ u ∈ vals rs, u.oneCell' = true := by
  intro u hu
  simp only [vals, List.mem_map] at hu
  obtain ⟨r, _, rfl⟩ := hu
  rfl
theorem vals_len (M : List R4) : (vals M).length = M.length := by simp [vals]
theorem vals_at (M : List R4) (w : World) (j : Nat) (u : Value) (h : (vals M)[j]? = some u) : (w.alloc (Obj.cells (vals M).toArray 30)).cell? ((⟨w.heap.size, 0, none⟩ : Addr).add j) = some u := by
  rw [addr_add0]
  simp [go_sem, h]
theorem append_rows {w w1 : World} {a : Option Addr} {n cap : Nat} {rs M : List R4} (h : OR w w1 a n cap rs) (hl : ∀ r ∈ M, Lr w w1 r.1 r.2.1 r.2.2.1 r.2.2.2) (hb : Below w.heap.size w w1) (h0 : 0 < M.length) (hr : n + M.length ≤ 200000) :
    ∃ a' cap' w', (Builtin.append_ #[107, 107] 107 #[.slice a n cap, .slice (some ⟨w1.heap.size, 0, none⟩) M.length M.length]).run Try.prog (w1.alloc (Obj.cells (vals M).toArray 30)) = .ok (.slice a' (n + M.length) cap') w' ∧ OR w w' a' (n + M.length) cap' (rs ++ M) ∧ Below w.heap.size w w' ∧ But (Blk a) w1 w' ∧ ∀ k, Blk a' k → Blk a k ∨ w1.heap.size ≤ k := by
  obtain ⟨i, hi, hz0, hz1, hz2⟩ := info_parts info30
  have hb1 := below1 w1 (Obj.cells (vals M).toArray 30)
  have h1 := h.later hb1
  have hvl : (vals M).length = M.length := by simp [vals]
  obtain ⟨v', w', hrun, h2, h3, _, h5⟩ := run_append_own_at (P := Try.prog) (w1.alloc (Obj.cells (vals M).toArray 30)) w.heap.size 107 107 30 i _ 1 24 Try.underlying107 hi hz0 hz1 hz2 rfl (by decide) _ n _ h1.row ⟨w1.heap.size, 0, none⟩ M.length M.length (vals M) (by rw [hvl, Nat.mul_one]) (fun j u hu => vals_at M w1 j u hu) (vals_one M) (by unfold maxLen; omega) (by omega) (by have := hb.size; simp; omega)
  obtain ⟨a', cap', rfl⟩ : ∃ a' cap', v' = .slice a' (n + M.length) cap' := by
    rcases h2.2 with ⟨h, h'⟩ | ⟨g', cap', _, h, _⟩
    · exact ⟨.none, 0, by rw [h, h']⟩
    · exact ⟨_, cap', h⟩
  have hbut : But (Blk a) (w1.alloc (Obj.cells (vals M).toArray 30)) w' := ⟨h3.os, h3.tape, h3.output, h3.size, fun j hj hn => h3.block j hj (fun e => hn (Blk.of.1 e.symm))⟩
  have hown : ∀ (y : Option Addr) (p q : Nat) (K : List Nat), Own (w1.alloc (Obj.cells (vals M).toArray 30)) w.heap.size y p q K → Own w' w.heap.size y p q K := fun y p q K hM => hM.but2 hbut (fun k hk hk2 => own_apart hM.row h1.row (by decide) k (Blk.of.2 hk) (Blk.of.2 hk2))
  refine ⟨a', cap', w', hrun, ⟨by simpa [vals, val4] using h2, fun r hr => ?_⟩, But.below (below_call hb hb1) hbut (fun k hk => own_block h.row k (Blk.of.2 hk)), (But.of hb1).trans hbut, fun j hj => ?_⟩
  rotate_left
  · rcases h5 with h5 | h5
    · rw [Blk.of.2 hj] at h5
      exact .inl (Blk.of.1 h5.symm)
    · rw [Blk.of.2 hj] at h5
      right
      simp at h5
      omega
  rcases List.mem_append.1 hr with hr | hr
  · rcases h1.each r hr with h6 | h6
    · exact .inl h6
    · exact .inr (hown _ _ _ _ h6)
  · rcases (hl r hr).later hb1 with h6 | h6
    · exact .inl h6
    · exact .inr (hown _ _ _ _ h6)
theorem OR.nil (w w1 : World) : OR w w1 none 0 0 [] := ⟨⟨rfl, .inl ⟨rfl, rfl⟩⟩, fun r h => by cases h⟩
theorem OR.lit {w w1 : World} {M : List R4} (hl : ∀ r ∈ M, Lr w w1 r.1 r.2.1 r.2.2.1 r.2.2.2) (hb : Below w.heap.size w w1) (h0 : 0 < M.length) (h1 : M.length ≤ 200000) : OR w (w1.alloc (Obj.cells (vals M).toArray 30)) (some ⟨w1.heap.size, 0, none⟩) M.length M.length M := by
  refine ⟨⟨by simp [vals], .inr ⟨w1.heap.size, M.length, (vals M).toArray, rfl, hb.size, heap_alloc_new _ _, by omega, by unfold maxLen; omega, by simp [vals], by rw [List.take_of_length_le (by simp [vals])]⟩⟩, fun r hr => (hl r hr).later (below1 _ _)⟩
end Go.Proofs.Ythfmmfphnimlnaa
