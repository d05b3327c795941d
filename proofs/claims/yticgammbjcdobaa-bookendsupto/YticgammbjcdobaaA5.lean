import Derived.Test.YticgammbjcdobaaBA
import Derived.Test.YticgammbjcdobaaBB
namespace Go.Proofs.Yticgammbjcdobaa
open Go.RowKit
set_option linter.unusedVariables false
set_option linter.unusedSimpArgs false
def vals (rs : List R4) : List Value := rs.map val4
structure OR (w w' : World) (a : Option Addr) (n cap : Nat) (rs : List R4) : Prop where
  row : w'.ownsRow w.heap.size 33 1 (.slice a n cap) n (vals rs)
  each : ∀ r ∈ rs, Row w r.1 r.2.1 r.2.2.1 r.2.2.2 ∨ Own w' w.heap.size r.1 r.2.1 r.2.2.1 r.2.2.2
theorem OR.len {w w' : World} {a : Option Addr} {n cap : Nat} {rs : List R4} (h : OR w w' a n cap rs) : rs.length = n := by
  have := h.row.1
  simp [vals] at this
  exact this
theorem OR.later {w w1 w2 : World} {a : Option Addr} {n cap : Nat} {rs : List R4} (h : OR w w1 a n cap rs) (hb : Below w1.heap.size w1 w2) : OR w w2 a n cap rs :=
  ⟨own_later hb h.row, fun r hr => by
    rcases h.each r hr with h1 | h1
    · exact .inl h1
    · exact .inr (h1.later hb)⟩
def Lr (w w' : World) (a : Option Addr) (n c : Nat) (L : List Nat) : Prop := Row w a n c L ∨ Own w' w.heap.size a n c L
theorem Lr.later {w w1 w2 : World} {a : Option Addr} {n c : Nat} {L : List Nat} (h : Lr w w1 a n c L) (hb : Below w1.heap.size w1 w2) : Lr w w2 a n c L := by
  rcases h with h | h
  · exact .inl h
  · exact .inr (h.later hb)
theorem OR.one {w w1 : World} {x : Option Addr} {m c : Nat} {L : List Nat} (hl : Lr w w1 x m c L) (hb : Below w.heap.size w w1) : OR w (w1.alloc (Obj.cells #[.slice x m c] 33)) (some ⟨w1.heap.size, 0, none⟩) 1 1 [(x, m, c, L)] := by
  refine ⟨⟨rfl, .inr ⟨w1.heap.size, 1, #[.slice x m c], rfl, hb.size, heap_alloc_new _ _, by omega, by unfold maxLen; omega, rfl, rfl⟩⟩, fun r hr => ?_⟩
  simp only [List.mem_singleton] at hr
  subst hr
  exact hl.later (below1 _ _)
theorem OR.two {w w1 : World} {x y : Option Addr} {m c p q : Nat} {L M : List Nat} (hl : Lr w w1 x m c L) (hm : Lr w w1 y p q M) (hb : Below w.heap.size w w1) : OR w (w1.alloc (Obj.cells #[.slice x m c, .slice y p q] 33)) (some ⟨w1.heap.size, 0, none⟩) 2 2 [(x, m, c, L), (y, p, q, M)] := by
  refine ⟨⟨rfl, .inr ⟨w1.heap.size, 2, #[.slice x m c, .slice y p q], rfl, hb.size, heap_alloc_new _ _, by omega, by unfold maxLen; omega, rfl, rfl⟩⟩, fun r hr => ?_⟩
  simp only [List.mem_cons, List.mem_nil_iff, or_false] at hr
  rcases hr with rfl | rfl
  · exact hl.later (below1 _ _)
  · exact hm.later (below1 _ _)
theorem join_or {w w1 : World} {a : Option Addr} {n cap : Nat} {rs : List R4} (h : OR w w1 a n cap rs) (hb : Below w.heap.size w w1) (hn : 0 < n) (hr : n < 1000) (hc : (cat4 rs).length ≤ 140737488355328) :
    Calls Try.prog 73 #[.slice a n cap] w1 fun e w' => ∃ a' n' cap', e = .returned (.slice a' n' cap') ∧ Own w' w1.heap.size a' n' cap' (cat4 rs) ∧ Below w1.heap.size w1 w' := by
  have hl := h.len
  have hrow := h.row
  rcases hrow.2 with ⟨h1, h2⟩ | ⟨g, cp, cur, hv, hg, hh, r⟩
  · omega
  · simp only [Value.slice.injEq] at hv
    obtain ⟨rfl, _, rfl⟩ := hv
    refine join_any g cap n rs w1 hl.symm (by omega) (fun j hj => ?_) (fun r hr => ?_) hc
    · have := hrow.cells (g := g) rfl j (val4 rs[j]) (by simp [vals, hj])
      rw [addr_add0] at this
      exact this
    · rcases h.each r hr with h6 | h6
      · exact h6.later hb
      · exact h6.read
end Go.Proofs.Yticgammbjcdobaa
