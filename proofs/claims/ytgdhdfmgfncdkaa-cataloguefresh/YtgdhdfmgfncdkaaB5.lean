import Derived.Test.YtgdhdfmgfncdkaaB4
namespace Go.Proofs.Ytgdhdfmgfncdkaa
open Go.RowKit Go.Shelf
set_option linter.unusedVariables false
attribute [local go_sem] Oper.semAt_some

theorem lies_from {β : Type} (B : Nat) (p : Addr) (v : β → Value) : OwnFrom B (fun s W => Lies W p (v s)) := fun s W W' row hs hg hr =>
  ⟨cell_kept hs.1 hg (fun r e => (hr r e).2), (frozen_kept hs.1 hg (fun r e => (hr r e).2)).trans hs.2⟩
theorem Lies.deferred {W : World} {p : Addr} {v : Value} {D : Nat} (h : Lies W p v) (hK : W.heap[D]? = some (.deferred (some []))) : Lies (W.putObj D (.deferred none)) p v :=
  ⟨cell_kept h.1 (grownBy_putObj' _ D (.deferred none)) (fun r e => by cases e; exact ⟨_, hK, rfl⟩), (frozen_kept h.1 (grownBy_putObj' _ D (.deferred none)) (fun r e => by cases e; exact ⟨_, hK, rfl⟩)).trans h.2⟩
theorem lies_new (w : World) (v : Value) (t : TypeId) : Lies (w.alloc (Obj.cells #[v] t)) ⟨w.heap.size, 0, none⟩ v := ⟨by simp [go_sem], by simp [go_sem]⟩
/-- What holds of a result in a cell. -/
theorem below_deferred {w W : World} {D : Nat} (hB : Below w.heap.size w W) (hD : w.heap.size ≤ D) (hK : W.heap[D]? = some (.deferred (some []))) : Below w.heap.size w (W.putObj D (.deferred none)) :=
  hB.trans (belowK_b (w := w) (Nat.le_refl _) W D _ _ hD hK rfl rfl)
set_option maxRecDepth 100000 in
set_option maxHeartbeats 1000000 in
theorem fall_any {w : World} {g gb m : Nat} {l : Fo} (h : Ki w g gb m l) (n : Int) :
    Calls Try.prog 53 #[.pointer (some ⟨g, 0, none⟩), .int .i64 n] w fun e w' => ∃ a k cap, e = .returned (.slice a k cap) ∧ Own w' w.heap.size 3 a k cap (ints (Fl l n)) ∧ Below w.heap.size w w' := by
  have hc := hid (subtree_any h n false)
  have hl := Nat.le_trans (G_len h.ok false n) h.big
  unfold Fl
  generalize G false l n = X at hc hl ⊢
  clear h
  go_enter Try.func53, Try.ntmps53
  go_wp2_with (first | (go_at_call 68; refine hc.out.mono ?_; rintro e w1 ⟨a, k, cap, rfl, hO, hB⟩; have hlk := hO.len; rw [ints_length] at hlk; have HO := hid hO; have HB := hid hB; clear hO hB) | (go_at_call 69; refine (rev_any HO.out (by omega)).mono ?_; rintro e w2 ⟨⟨v, rfl⟩, hO2, hB2⟩; have HO2 := hid hO2; have HB2 := hid (But.below HB.out hB2 HO.out.blk); clear hO2 hB2))
  go_ret
  exact ⟨a, k, cap, rfl, HO2.out, HB2.out⟩
end Go.Proofs.Ytgdhdfmgfncdkaa
