import Derived.Test.YthfmmfphnimlnaaBB
import Derived.Test.YthfmmfphnimlnaaCB
namespace Go.Proofs.Ythfmmfphnimlnaa
open Go.RowKit
set_option linter.unusedVariables false
set_option linter.unusedSimpArgs false
theorem own_apart {w : World} {b1 b2 : Nat} {e1 e2 : TypeId} {s1 s2 : Nat} {v1 v2 : Value} {n1 n2 : Nat} {x1 x2 : List Value} (h1 : w.ownsRow b1 e1 s1 v1 n1 x1) (h2 : w.ownsRow b2 e2 s2 v2 n2 x2) (hne : e1 ≠ e2) : ∀ k, v1.ownBlock = some k → v2.ownBlock ≠ some k := by
  intro k k1 k2
  rcases h1.2 with ⟨rfl, _⟩ | ⟨g, cap, cur, rfl, hg, hh, r⟩
  · cases k1
  · rcases h2.2 with ⟨rfl, _⟩ | ⟨g', cap', cur', rfl, hg', hh', r'⟩
    · cases k2
    · simp [Value.ownBlock] at k1 k2
      subst k1
      subst k2
      rw [hh] at hh'
      simp at hh'
      exact hne hh'.2
theorem Own.but2 {S : Nat → Prop} {w w' : World} {base : Nat} {a : Option Addr} {n cap : Nat} {L : List Nat} (hb : But S w w') (h : Own w base a n cap L) (hS : ∀ k, Blk a k → ¬ S k) : Own w' base a n cap L := by
  refine ⟨⟨h.row.1, ?_⟩, h.small⟩
  rcases h.row.2 with h | ⟨g, cap, cur, hv, hg, hh, r⟩
  · exact .inl h
  · have hg' : Blk a g := by
      simp only [Value.slice.injEq] at hv
      exact ⟨_, hv.1, rfl⟩
    exact .inr ⟨g, cap, cur, hv, hg, by rw [hb.block g (Array.getElem?_eq_some_iff.1 hh).1 (hS g hg')]; exact hh, r⟩
theorem info30 : (Try.prog.info? 30).map (fun i => (i.zero, i.size, i.bytes)) = some (some (.slice none 0 0), 1, 24) := by kernel_rfl
def vals (rs : List R4) : List Value := rs.map val4
structure OR (w w' : World) (a : Option Addr) (n cap : Nat) (rs : List R4) : Prop where
  row : w'.ownsRow w.heap.size 30 1 (.slice a n cap) n (vals rs)
  each : ∀ r ∈ rs, Row w r.1 r.2.1 r.2.2.1 r.2.2.2 ∨ Own w' w.heap.size r.1 r.2.1 r.2.2.1 r.2.2.2
theorem OR.len {w w' : World} {a : Option Addr} {n cap : Nat} {rs : List R4} (h : OR w w' a n cap rs) : rs.length = n := by
  have := h.row.1
  simp [vals] at this
  exact this
theorem OR.later {w w1 w2 : World} {a : Option Addr} {n cap : Nat} {rs : List R4} (h : OR w w1 a n cap rs) (hb : Below w1.heap.size w1 w2) : OR w w2 a n cap rs :=
  ⟨own_later hb h.row, fun r hr => by
    rcases h.each r hr with h1 | h1
    · exact .inl h1
    · exact .inr (h1.later hb)⟩
def Lr (w w' : World) (a : Option Addr) (n c : Nat) (L : List Nat) : Prop := Row w a n c L ∨ Own w' w.heap.size a n c L
theorem Lr.later {w w1 w2 : World} {a : Option Addr} {n c : Nat} {L : List Nat} (h : Lr w w1 a n c L) (hb : Below w1.heap.size w1 w2) : Lr w w2 a n c L := by
  rcases h with h | h
  · exact .inl h
  · exact .inr (h.later hb)
theorem append_row {w w1 : World} {a : Option Addr} {n cap : Nat} {rs : List R4} {x : Option Addr} {m c : Nat} {L : List Nat} (h : OR w w1 a n cap rs) (hl : Lr w w1 x m c L) (hb : Below w.heap.size w w1) (hr : n + 1 ≤ 200000) :
    ∃ a' cap' w', (Builtin.append_ #[107, 107] 107 #[.slice a n cap, .slice (some ⟨w1.heap.size, 0, none⟩) 1 1]).run Try.prog (w1.alloc (Obj.cells #[.slice x m c] 30)) = .ok (.slice a' (n + 1) cap') w' ∧ OR w w' a' (n + 1) cap' (rs ++ [(x, m, c, L)]) ∧ Below w.heap.size w w' ∧ But (Blk a) w1 w' ∧ ∀ k, Blk a' k → Blk a k ∨ w1.heap.size ≤ k := by
  obtain ⟨i, hi, hz0, hz1, hz2⟩ := info_parts info30
  have hb1 := below1 w1 (Obj.cells #[.slice x m c] 30)
  have h1 := h.later hb1
  obtain ⟨v', w', hrun, h2, h3, _, h5⟩ := run_append_own_at (P := Try.prog) (w1.alloc (Obj.cells #[.slice x m c] 30)) w.heap.size 107 107 30 i _ 1 24 Try.underlying107 hi hz0 hz1 hz2 rfl (by decide) _ n _ h1.row ⟨w1.heap.size, 0, none⟩ 1 1 [.slice x m c] rfl (cell_one_new _ _ _) (by intro u hu; simp at hu; subst hu; rfl) (by unfold maxLen; omega) (by omega) (by have := hb.size; simp; omega)
  obtain ⟨a', cap', rfl⟩ : ∃ a' cap', v' = .slice a' (n + 1) cap' := by
    rcases h2.2 with ⟨h, h'⟩ | ⟨g', cap', _, h, _⟩
    · exact ⟨.none, 0, by rw [h, h']⟩
    · exact ⟨_, cap', h⟩
  have hbut : But (Blk a) (w1.alloc (Obj.cells #[.slice x m c] 30)) w' := ⟨h3.os, h3.tape, h3.output, h3.size, fun j hj hn => h3.block j hj (fun e => hn (Blk.of.1 e.symm))⟩
  have hown : ∀ (y : Option Addr) (p q : Nat) (M : List Nat), Own (w1.alloc (Obj.cells #[.slice x m c] 30)) w.heap.size y p q M → Own w' w.heap.size y p q M := fun y p q M hM => hM.but2 hbut (fun k hk hk2 => own_apart hM.row h1.row (by decide) k (Blk.of.2 hk) (Blk.of.2 hk2))
  refine ⟨a', cap', w', hrun, ⟨by simpa [vals, val4] using h2, fun r hr => ?_⟩, But.below (below_call hb hb1) hbut (fun k hk => own_block h.row k (Blk.of.2 hk)), (But.of hb1).trans hbut, fun j hj => ?_⟩
  rotate_left
  · rcases h5 with h5 | h5
    · rw [Blk.of.2 hj] at h5
      exact .inl (Blk.of.1 h5.symm)
    · rw [Blk.of.2 hj] at h5
      right
      simp at h5
      omega
  rcases List.mem_append.1 hr with hr | hr
  · rcases h1.each r hr with h6 | h6
    · exact .inl h6
    · exact .inr (hown _ _ _ _ h6)
  · simp only [List.mem_singleton] at hr
    subst hr
    rcases hl.later hb1 with h6 | h6
    · exact .inl h6
    · exact .inr (hown _ _ _ _ h6)
theorem OR.one {w w1 : World} {x : Option Addr} {m c : Nat} {L : List Nat} (hl : Lr w w1 x m c L) (hb : Below w.heap.size w w1) : OR w (w1.alloc (Obj.cells #[.slice x m c] 30)) (some ⟨w1.heap.size, 0, none⟩) 1 1 [(x, m, c, L)] := by
  refine ⟨⟨rfl, .inr ⟨w1.heap.size, 1, #[.slice x m c], rfl, hb.size, heap_alloc_new _ _, by omega, by unfold maxLen; omega, rfl, rfl⟩⟩, fun r hr => ?_⟩
  simp only [List.mem_singleton] at hr
  subst hr
  exact hl.later (below1 _ _)
theorem OR.two {w w1 : World} {x y : Option Addr} {m c p q : Nat} {L M : List Nat} (hl : Lr w w1 x m c L) (hm : Lr w w1 y p q M) (hb : Below w.heap.size w w1) : OR w (w1.alloc (Obj.cells #[.slice x m c, .slice y p q] 30)) (some ⟨w1.heap.size, 0, none⟩) 2 2 [(x, m, c, L), (y, p, q, M)] := by
  refine ⟨⟨rfl, .inr ⟨w1.heap.size, 2, #[.slice x m c, .slice y p q], rfl, hb.size, heap_alloc_new _ _, by omega, by unfold maxLen; omega, rfl, rfl⟩⟩, fun r hr => ?_⟩
  simp only [List.mem_cons, List.mem_nil_iff, or_false] at hr
  rcases hr with rfl | rfl
  · exact hl.later (below1 _ _)
  · exact hm.later (below1 _ _)
theorem join_or {w w1 : World} {a : Option Addr} {n cap : Nat} {rs : List R4} (h : OR w w1 a n cap rs) (hb : Below w.heap.size w w1) (hn : 0 < n) (hr : n < 100000) (hc : (cat4 rs).length ≤ 140737488355328) :
    Calls Try.prog 38 #[.slice a n cap] w1 fun e w' => ∃ a' n' cap', e = .returned (.slice a' n' cap') ∧ Own w' w1.heap.size a' n' cap' (cat4 rs) ∧ Below w1.heap.size w1 w' := by
  have hl := h.len
  have hrow := h.row
  rcases hrow.2 with ⟨h1, h2⟩ | ⟨g, cp, cur, hv, hg, hh, r⟩
  · omega
  · simp only [Value.slice.injEq] at hv
    obtain ⟨rfl, _, rfl⟩ := hv
    refine join_any g cap n rs w1 hl.symm (by omega) (fun j hj => ?_) (fun r hr => ?_) hc
    · have := hrow.cells (g := g) rfl j (val4 rs[j]) (by simp [vals, hj])
      rw [addr_add0] at this
      exact this
    · rcases h.each r hr with h6 | h6
      · exact h6.later hb
      · exact h6.read
end Go.Proofs.Ythfmmfphnimlnaa
