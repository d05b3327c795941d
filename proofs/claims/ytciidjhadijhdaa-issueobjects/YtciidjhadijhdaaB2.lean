import Derived.Test.YtciidjhadijhdaaB1
namespace Go.Proofs.Ytciidjhadijhdaa
open Go.RowKit
set_option linter.unusedVariables false

theorem Ki.big {w : World} {g gb m : Nat} {l : Fo} (h : Ki w g gb m l) : m ≤ 1024 := by
  obtain ⟨N, h1, _⟩ := h
  exact h1.big
theorem Ki.lt {w : World} {g gb m : Nat} {l : Fo} (h : Ki w g gb m l) : g < w.heap.size ∧ gb < w.heap.size := by
  obtain ⟨N, h1, _⟩ := h
  exact ⟨h1.lt, h1.lt2⟩
theorem Own.one_new (w : World) (x : Int) : Own (w.alloc (Obj.cells #[.int .i64 x] 3)) w.heap.size 3 (some ⟨w.heap.size, 0, none⟩) 1 1 (ints [x]) :=
  ⟨⟨rfl, .inr ⟨w.heap.size, 1, #[.int .i64 x], rfl, Nat.le_refl _, heap_alloc_new w _, Nat.le_refl _, by unfold maxLen; omega, rfl, rfl⟩⟩, ints_one _⟩
end Go.Proofs.Ytciidjhadijhdaa
