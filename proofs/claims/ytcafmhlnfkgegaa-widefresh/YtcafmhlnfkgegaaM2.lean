import Derived.Test.YtcafmhlnfkgegaaM1
namespace Go.Proofs.Ytcafmhlnfkgegaa

theorem cut_lt (A : Nat) (width : Int) : cutN A width < 2 ^ width.toNat := Nat.mod_lt _ (Nat.two_pow_pos _)
theorem fits_of_cut (A : Nat) {width : Int} (h : 1 ≤ width) : fitsB (cutN A width) width = true := by
  unfold fitsB
  rw [decide_eq_true h, decide_eq_true (cut_lt A width)]
  rfl
theorem fits_eq (A : Nat) {width : Int} (h : 1 ≤ width) : fitsB A width = decide (cutN A width = A) := by
  rw [fits_cut, decide_eq_true h]
  rfl
theorem cut_cut (A : Nat) (width : Int) : cutN (cutN A width) width = cutN A width := Nat.mod_eq_of_lt (cut_lt A width)
theorem cut_le (A : Nat) (width : Int) : cutN A width ≤ A := Nat.mod_le _ _

theorem next_true {N : Nat} {width : Int} (hN : N < B64 * B64) (h : nextB N width = true) : nextN N width = succN N ∧ fitsB (nextN N width) width = true ∧ succN N = N + 1 := by
  have e1 : nextN N width = succN N := by unfold nextN; rw [if_pos h]
  unfold nextB at h
  rw [Bool.and_eq_true, Bool.not_eq_true', decide_eq_false_iff_not] at h
  refine ⟨e1, by rw [e1]; exact h.1, ?_⟩
  have h2 := h.2
  unfold succN at h2 ⊢
  rcases Nat.lt_or_ge (N + 1) (B64 * B64) with hl | hl
  · exact Nat.mod_eq_of_lt hl
  · exfalso
    apply h2
    have : N + 1 = B64 * B64 := by omega
    rw [this, Nat.mod_self]
theorem next_top {A : Nat} {width : Int} (hA : A < B64 * B64) (hw : 1 ≤ width) (h : nextB (cutN A width) width = false) : cutN A width = cutN (B64 * B64 - 1) width := by
  have hl := cut_lt A width
  have hlt : cutN A width < B64 * B64 := Nat.lt_of_le_of_lt (cut_le A width) hA
  have hpos : 0 < B64 * B64 := by decide
  generalize hN : cutN A width = N at *
  unfold nextB at h
  rw [Bool.and_eq_false_iff] at h
  rcases Nat.lt_or_ge (N + 1) (B64 * B64) with h1 | h1
  · have es : succN N = N + 1 := Nat.mod_eq_of_lt h1
    rw [es] at h
    rcases h with h | h
    · have h2 : ¬ N + 1 < 2 ^ width.toNat := by
        unfold fitsB at h
        rw [decide_eq_true hw, Bool.true_and, decide_eq_false_iff_not] at h
        exact h
      have h3 : N + 1 = 2 ^ width.toNat := by omega
      unfold cutN
      have h4 : width.toNat ≤ 128 := by
        rcases Nat.lt_or_ge 128 width.toNat with h5 | h5
        · have : 2 ^ 128 < 2 ^ width.toNat := Nat.pow_lt_pow_right (by omega) h5
          rw [pow_big] at this
          omega
        · exact h5
      obtain ⟨k, hk⟩ : ∃ k, B64 * B64 = 2 ^ width.toNat * k := ⟨2 ^ (128 - width.toNat), by rw [← Nat.pow_add, ← pow_big]; congr 1; omega⟩
      have h6 : 0 < k := by
        rcases Nat.eq_zero_or_pos k with h7 | h7
        · rw [h7, Nat.mul_zero] at hk; omega
        · exact h7
      obtain ⟨j, hj⟩ : ∃ j, k = j + 1 := ⟨k - 1, by omega⟩
      have h8 : B64 * B64 - 1 = N + 2 ^ width.toNat * j := by
        rw [hk, hj, Nat.mul_succ]; omega
      rw [h8, Nat.add_mul_mod_self_left, Nat.mod_eq_of_lt hl]
    · simp at h
  · have h2 : N = B64 * B64 - 1 := by omega
    rw [← h2]
    exact (Nat.mod_eq_of_lt hl).symm
theorem top_word : IsV 18446744073709551615 18446744073709551615 (B64 * B64 - 1) := ⟨18446744073709551615, 18446744073709551615, rfl, rfl, by decide, by decide, by decide⟩
theorem succ_halves {c d n0 n1 : Int} {N : Nat} (h : IsV c d N) (k : IsV n0 n1 (succN N)) (hs : succN N = N + 1) :
    (d = 18446744073709551615 → n0 = IntKind.u64.wrap (c + 1) ∧ n1 = IntKind.u64.wrap (d + 1)) ∧ (d ≠ 18446744073709551615 → n0 = c ∧ n1 = IntKind.u64.wrap (d + 1)) := by
  obtain ⟨c, d, rfl, rfl, h⟩ := h
  obtain ⟨n0, n1, rfl, rfl, k⟩ := k
  rw [hs] at k
  obtain ⟨ha, hb, rfl⟩ := h
  obtain ⟨hc, hd, he⟩ := k
  rw [IntKind.wrap_u64, IntKind.wrap_u64]
  unfold B64 at *
  omega
end Go.Proofs.Ytcafmhlnfkgegaa
