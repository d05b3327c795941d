import Derived.Test.YthfmmfphnimlnaaHA
namespace Go.Proofs.Ythfmmfphnimlnaa
open Go.RowKit
set_option linter.unusedVariables false
set_option linter.unusedSimpArgs false
theorem bytesOf_leL (hi lo : Nat) (h1 : hi < 18446744073709551616) (h2 : lo < 18446744073709551616) : W.bytesOf (hi * B64 + lo) = leL lo 8 ++ leL hi 8 := by
  have key : ∀ (a b : Nat), leL (a + 256 ^ 8 * b) 16 = leL a 8 ++ leL b 8 ∨ 256 ^ 8 ≤ a := by
    intro a b
    by_cases ha : a < 256 ^ 8
    · left
      have e : ∀ v, leL v 16 = leL v 8 ++ leL (v / 256 ^ 8) 8 := by
        intro v
        simp only [leL, List.range_succ, List.range_zero, List.map_append, List.map_nil, List.map_cons, List.nil_append, List.cons_append, Nat.div_div_eq_div_mul, ← Nat.pow_add]
      rw [e, Nat.add_mul_div_left _ _ (by decide), Nat.div_eq_of_lt ha, Nat.zero_add, ← leL_mod _ 8 8 (Nat.le_refl _), Nat.add_mul_mod_self_left, leL_mod _ 8 8 (Nat.le_refl _)]
    · right; omega
  rcases key lo hi with h | h
  · rw [← h]
    unfold W.bytesOf leL
    have : hi * B64 + lo = lo + 256 ^ 8 * hi := by unfold B64; omega
    rw [this]
    rfl
  · omega
end Go.Proofs.Ythfmmfphnimlnaa
