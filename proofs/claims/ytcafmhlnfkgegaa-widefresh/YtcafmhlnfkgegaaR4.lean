import Derived.Test.YtcafmhlnfkgegaaR3
import Derived.Test.YtcafmhlnfkgegaaM2
namespace Go.Proofs.Ytcafmhlnfkgegaa
open Go.RowKit

/-- The bits of N from k + 1 to j - 1. -/
def midN (N k j : Nat) : Nat := N % 2 ^ j - N % 2 ^ (k + 1)
theorem mod_mono (N : Nat) {i j : Nat} (h : i ≤ j) : N % 2 ^ i ≤ N % 2 ^ j := by
  obtain ⟨d, rfl⟩ : ∃ d, j = i + d := ⟨j - i, by omega⟩
  have : N % 2 ^ (i + d) % 2 ^ i = N % 2 ^ i := by
    rw [Nat.pow_add, Nat.mod_mul_right_mod]
  rw [← this]
  exact Nat.mod_le _ _
theorem mid_start (N k : Nat) : midN N k (k + 1) = 0 := by unfold midN; omega
theorem mid_bit (N k j : Nat) : bitN (midN N k j) j = 0 := by
  unfold bitN midN
  have := Nat.mod_lt N (Nat.two_pow_pos j)
  rw [Nat.div_eq_of_lt (by omega)]
theorem mid_succ (N : Nat) {k j : Nat} (h : k + 1 ≤ j) : midN N k (j + 1) = midN N k j + bitN N j * 2 ^ j := by
  unfold midN
  have := mod_mono N h
  rw [mod_succ]
  omega
theorem mid_end {N k : Nat} (hN : N < 2 ^ 128) (h1 : N % 2 ^ k = 2 ^ k - 1) (h2 : bitN N k = 0) : midN N k 128 = N - (2 ^ k - 1) ∧ bitN (midN N k 128) k = 0 ∧ midN N k 128 + 2 ^ k = N + 1 := by
  have e : N % 2 ^ (k + 1) = 2 ^ k - 1 := by rw [mod_succ, h2, h1]; omega
  have hp := Nat.two_pow_pos k
  have e1 : midN N k 128 = N - (2 ^ k - 1) := by unfold midN; rw [Nat.mod_eq_of_lt hN, e]
  have hle : N % 2 ^ (k + 1) ≤ N := Nat.mod_le _ _
  refine ⟨e1, ?_, by rw [e1]; omega⟩
  have e2 : midN N k 128 = 2 ^ k * (2 * (N / 2 ^ (k + 1))) := by
    rw [e1, ← e]
    have := Nat.div_add_mod N (2 ^ (k + 1))
    rw [← Nat.mul_assoc, ← Nat.pow_succ]
    show N - N % 2 ^ (k + 1) = 2 ^ (k + 1) * (N / 2 ^ (k + 1))
    omega
  unfold bitN
  rw [e2, Nat.mul_div_cancel_left _ hp]
  omega
theorem ones_next {N k : Nat} (h1 : N % 2 ^ k = 2 ^ k - 1) (h2 : bitN N k = 1) : N % 2 ^ (k + 1) = 2 ^ (k + 1) - 1 := by
  rw [mod_succ, h1, h2, Nat.pow_succ]
  have := Nat.two_pow_pos k
  omega
theorem bit_lt_pow {N k n : Nat} (hN : N < 2 ^ n) (hk : k < n) (h1 : N % 2 ^ k = 2 ^ k - 1) (h2 : bitN N k = 0) : N + 1 < 2 ^ n := by
  rcases Nat.lt_or_ge (N + 1) (2 ^ n) with h | h
  · exact h
  · exfalso
    have e : N + 1 = 2 ^ n := by omega
    obtain ⟨d, rfl⟩ : ∃ d, n = k + (d + 1) := ⟨n - k - 1, by omega⟩
    have hp := Nat.two_pow_pos k
    have hd := Nat.two_pow_pos d
    have e1 : N = 2 ^ k * (2 ^ (d + 1) - 1) + (2 ^ k - 1) := by
      rw [Nat.pow_add] at e
      obtain ⟨q, hq⟩ : ∃ q, 2 ^ (d + 1) = q + 1 := ⟨2 ^ (d + 1) - 1, by have := Nat.two_pow_pos (d + 1); omega⟩
      rw [hq] at e ⊢
      rw [Nat.mul_succ] at e
      rw [Nat.add_sub_cancel]
      omega
    have e2 : N / 2 ^ k = 2 ^ (d + 1) - 1 := by
      rw [e1, Nat.mul_add_div hp, Nat.div_eq_of_lt (by omega), Nat.add_zero]
    unfold bitN at h2
    rw [e2, Nat.pow_succ] at h2
    omega
theorem next_unfit {N : Nat} {width : Int} (hN : N < 2 ^ 128) (h : fitsB N width = false) : nextB N width = false := by
  unfold nextB
  rw [Bool.and_eq_false_iff]
  unfold fitsB at h ⊢
  by_cases hw : 1 ≤ width
  · rw [decide_eq_true hw, Bool.true_and, decide_eq_false_iff_not] at h
    rcases Nat.lt_or_ge (N + 1) (2 ^ 128) with h1 | h1
    · left
      have : succN N = N + 1 := by unfold succN; exact Nat.mod_eq_of_lt (by rw [← pow_big]; exact h1)
      rw [this, decide_eq_true hw, Bool.true_and]
      apply decide_eq_false
      omega
    · right
      have : succN N = 0 := by
        unfold succN
        have e : N + 1 = B64 * B64 := by rw [← pow_big]; omega
        rw [e, Nat.mod_self]
      rw [this]; rfl
  · left
    rw [decide_eq_false hw]; rfl
theorem next_at {N k : Nat} {width : Int} (hN : N < 2 ^ 128) (hf : fitsB N width = true) (hk : (k : Int) < width) (hk2 : k < 128) (h1 : N % 2 ^ k = 2 ^ k - 1) (h2 : bitN N k = 0) : nextB N width = true ∧ nextN N width = N + 1 := by
  have hlt : N + 1 < 2 ^ 128 := bit_lt_pow hN hk2 h1 h2
  have es : succN N = N + 1 := by unfold succN; exact Nat.mod_eq_of_lt (by rw [← pow_big]; exact hlt)
  unfold fitsB at hf
  rw [Bool.and_eq_true, decide_eq_true_eq, decide_eq_true_eq] at hf
  have h3 : N + 1 < 2 ^ width.toNat := bit_lt_pow hf.2 (by omega) h1 h2
  have e : nextB N width = true := by
    unfold nextB fitsB
    rw [es, decide_eq_true hf.1, decide_eq_true h3]
    simp
  exact ⟨e, by unfold nextN; rw [e, es]; rfl⟩
theorem next_last {N k : Nat} {width : Int} (hN : N < 2 ^ 128) (hf : fitsB N width = true) (hk : k ≤ 128) (hkw : (k : Int) ≤ width) (he : ¬ ((k : Int) < width ∧ k < 128)) (h1 : N % 2 ^ k = 2 ^ k - 1) : nextB N width = false := by
  unfold fitsB at hf
  rw [Bool.and_eq_true, decide_eq_true_eq, decide_eq_true_eq] at hf
  have hp := Nat.two_pow_pos k
  by_cases h2 : k = 128
  · subst h2
    rw [Nat.mod_eq_of_lt hN] at h1
    have e : succN N = 0 := by
      unfold succN
      have e : N + 1 = B64 * B64 := by rw [← pow_big]; omega
      rw [e, Nat.mod_self]
    unfold nextB
    rw [e]; simp
  · have h3 : k = width.toNat := by omega
    have hNk : N < 2 ^ k := by rw [h3]; exact hf.2
    rw [Nat.mod_eq_of_lt hNk] at h1
    have h4 : N + 1 < 2 ^ 128 := by
      have := Nat.pow_lt_pow_right (a := 2) (by omega) (by omega : k < 128)
      omega
    have es : succN N = N + 1 := by unfold succN; exact Nat.mod_eq_of_lt (by rw [← pow_big]; exact h4)
    unfold nextB fitsB
    rw [es, decide_eq_false (p := N + 1 < 2 ^ width.toNat) (by rw [← h3]; omega)]
    simp
end Go.Proofs.Ytcafmhlnfkgegaa
