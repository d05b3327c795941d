import Derived.Test.YtciidjhadijhdaaMC
import Derived.Test.YtciidjhadijhdaaW1
namespace Go.Proofs.Ytciidjhadijhdaa
open Go.RowKit
set_option linter.unusedVariables false

theorem ints_set (L : List Int) (j : Nat) (v : Int) : (ints L).set j (.int .i64 v) = ints (L.set j v) := by simp [ints, List.map_set]
theorem Own.set {w : World} {base g n c j : Nat} {L : List Int} {v : Int} (h : Own w base 3 (some ⟨g, 0, none⟩) n c (ints L)) : Own (w.setCell ⟨g, j, none⟩ (.int .i64 v)) base 3 (some ⟨g, 0, none⟩) n c (ints (L.set j v)) :=
  ⟨by rw [← ints_set]; exact (h.row.stored j _).1, ints_one _⟩
theorem Own.form {w : World} {base : Nat} {e : TypeId} {a : Option Addr} {n cap : Nat} {L : List Value} (h : Own w base e a n cap L) (hn : 0 < n) : ∃ g, a = some ⟨g, 0, none⟩ := by
  rcases h.row.2 with ⟨_, h1⟩ | ⟨g, c, cur, hv, _⟩
  · omega
  · simp only [Value.slice.injEq] at hv
    exact ⟨g, hv.1⟩
def Gro (w : World) (base : Nat) (a : Option Addr) (n cap : Nat) (L : List Value) : Prop := Own w base 3 a n cap L ∨ (n = cap ∧ ∃ p, a = some p ∧ Row w a n cap L)
theorem append_one {w : World} {base : Nat} {a : Option Addr} {n cap : Nat} {L : List Int} (x : Int) (h : Gro w base a n cap (ints L)) (hb : base ≤ w.heap.size) (hr : (n + 1) * 8 ≤ 140737488355328) :
    ∃ a' cap' w', (Builtin.append_ #[49, 49] 49 #[.slice a n cap, .slice (some ⟨w.heap.size, 0, none⟩) 1 1]).run Try.prog (w.alloc (Obj.cells #[.int .i64 x] 3)) = .ok (.slice a' (n + 1) cap') w' ∧ Own w' base 3 a' (n + 1) cap' (ints (L ++ [x])) ∧ Gr a a' w w' := by
  rcases h with h | ⟨rfl, p, rfl, h⟩
  · obtain ⟨a', cap', w', hrun, hO, hG⟩ := append_ints (h.alloc (Obj.cells #[.int .i64 x] 3)) (Row.single w 3 (.int .i64 x) rfl) (by simp; omega) hr
    exact ⟨a', cap', w', hrun, by rw [ints_append]; exact hO, hG.pre (below1 _ _)⟩
  · obtain ⟨g', cap', w', hrun, hO, hB⟩ := append_full_gen 49 3 _ 8 Try.underlying49 info3 rfl (h.alloc (Obj.cells #[.int .i64 x] 3)) (Row.single w 3 (.int .i64 x) rfl) (by omega) hr (by omega)
    refine ⟨_, cap', w', hrun, by rw [ints_append]; exact hO.mono (by simp; omega), But.of (below_call (below1 _ _) hB), fun k hk => .inr ?_⟩
    have := hO.blk k hk
    simp at this
    omega
end Go.Proofs.Ytciidjhadijhdaa
