import Derived.Test.YtfibidfkhfkfpaaC5
namespace Go.Proofs.Ytfibidfkhfkfpaa
open Go.RowKit
set_option linter.unusedVariables false

/-- The width brought into what may be. -/
theorem width_in (v : Int) : ∃ W : Int, 1 + v.tmod 128 % 128 = W ∧ 1 ≤ W ∧ W ≤ 128 := by
  exact ⟨_, rfl, by omega, by omega⟩
/-- How many words are taken of the list. -/
theorem first_n {w : World} {a : Option Addr} {n0 cap : Nat} {f : Nat → Nat} (h : Ws w a n0 cap f) (k : Nat) (hk : 0 < k) : ∃ n, n ≤ k ∧ Ws w a n cap f ∧ (n0 ≤ k ∧ n = n0 ∨ k < n0 ∧ n = k) := by
  by_cases h1 : n0 ≤ k
  · exact ⟨n0, h1, h, .inl ⟨h1, rfl⟩⟩
  · exact ⟨k, Nat.le_refl _, h.take (by omega) hk, .inr ⟨by omega, rfl⟩⟩
theorem left_int (g gb n : Nat) (c : Nat → Nat) (t : Nat) (w : World) (h : Dr w g gb n c t) :
    Calls Try.prog 10 #[.pointer (some ⟨g, 0, none⟩)] w fun e w' => e = .returned (.int .i64 ((n : Int) - (t : Int))) ∧ Below w.heap.size w w' := by
  refine (left_any g gb n c t w h).mono ?_
  rintro e w' ⟨rfl, hb⟩
  have := h.le
  exact ⟨ret_int (by omega), hb⟩
theorem left_end (g gb n : Nat) (c : Nat → Nat) (w : World) (h : Dr w g gb n c n) :
    Calls Try.prog 10 #[.pointer (some ⟨g, 0, none⟩)] w fun e w' => e = .returned (.int .i64 0) ∧ Below w.heap.size w w' := by
  refine (left_any g gb n c n w h).mono ?_
  rintro e w' ⟨rfl, hb⟩
  exact ⟨ret_int (by omega), hb⟩
end Go.Proofs.Ytfibidfkhfkfpaa
