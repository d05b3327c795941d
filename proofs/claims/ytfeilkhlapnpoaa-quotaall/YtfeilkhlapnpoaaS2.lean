import Derived.Test.YtfeilkhlapnpoaaS1
namespace Go.Proofs.Ytfeilkhlapnpoaa
open Go.RowKit Go.Maps
set_option linter.unusedVariables false

theorem and_low (n : Int) (s : Nat) (hs : s ≤ 62) : bits .and .i64 n (((2 ^ s - 1 : Nat)) : Int) = n % (2 ^ s : Nat) := by
  have hp : 2 ^ s ≤ 2 ^ 62 := Nat.pow_le_pow_right (by omega) hs
  have h0 : 0 < 2 ^ s := Nat.two_pow_pos s
  have hd : (2 ^ 64 : Nat) = 2 ^ s * 2 ^ (64 - s) := by rw [← Nat.pow_add]; congr 1; omega
  have key : (BitVec.ofInt 64 n &&& BitVec.ofInt 64 (((2 ^ s - 1 : Nat)) : Int)).toNat = (n % ((2 ^ 64 : Nat) : Int)).toNat % 2 ^ s := by
    have e : (BitVec.ofInt 64 (((2 ^ s - 1 : Nat)) : Int)).toNat = 2 ^ s - 1 := by
      rw [BitVec.toNat_ofInt]
      omega
    rw [BitVec.toNat_and, BitVec.toNat_ofInt, e, Nat.and_two_pow_sub_one_eq_mod]
  show IntKind.i64.wrap ((BitVec.ofInt 64 n &&& BitVec.ofInt 64 (((2 ^ s - 1 : Nat)) : Int)).toNat : Nat) = _
  rw [key, IntKind.wrap_i64]
  have e1 : (((n % ((2 ^ 64 : Nat) : Int)).toNat % 2 ^ s : Nat) : Int) = n % (2 ^ s : Nat) := by
    rw [Int.natCast_emod, Int.toNat_of_nonneg (Int.emod_nonneg _ (by omega))]
    refine Int.emod_emod_of_dvd n ?_
    rw [hd, Int.natCast_mul]
    exact Int.dvd_mul_right _ _
  rw [e1]
  have h1 := Int.emod_nonneg n (show ((2 ^ s : Nat) : Int) ≠ 0 by omega)
  have h2 := Int.emod_lt_of_pos n (show (0 : Int) < ((2 ^ s : Nat) : Int) by omega)
  omega
theorem low8 (n : Int) : ∃ q : Nat, bits .and .i64 n 255 = (q : Int) ∧ q ≤ 255 := by
  have h := and_low n 8 (by omega)
  refine ⟨(n % 256).toNat, ?_, by omega⟩
  rw [show ((255 : Int)) = (((2 ^ 8 - 1 : Nat)) : Int) from rfl, h]
  show n % 256 = _
  omega
theorem low1 (n : Int) : bits .and .i64 n 1 = 0 ∨ bits .and .i64 n 1 = 1 := by
  have h := and_low n 1 (by omega)
  rw [show ((1 : Int)) = (((2 ^ 1 - 1 : Nat)) : Int) from rfl, h]
  show n % 2 = 0 ∨ n % 2 = 1
  omega
theorem ob_pos (L : List Int) {x : Int} (hx : x ∈ ob L) : 0 < L.count x := List.count_pos_iff.2 ((ob_mem L x).1 hx)
theorem ob_next (L : List Int) {k : Nat} (h : k + 1 < (ob L).length) : (ob L)[k] < (ob L)[k + 1] := List.pairwise_iff_getElem.1 (ob_lt L) k (k + 1) (by omega) h (by omega)
theorem csum_take (L : List Int) {k : Nat} (h : k < (ob L).length) : csum L ((ob L).take (k + 1)) = csum L ((ob L).take k) + L.count (ob L)[k] := by
  rw [take_step _ _ h, csum_snoc]
theorem csum_take_le (L : List Int) (k : Nat) : csum L ((ob L).take k) ≤ L.length := csum_le ((ob_nodup L).sublist (List.take_sublist _ _))
/-- Behind k objects taken back. -/
def Back (L M : List Int) (k : Nat) : Prop := ∀ y, M.count y = if y ∈ (ob L).take k then 0 else L.count y
theorem Back.start (L : List Int) : Back L L 0 := fun y => by simp
theorem Back.step {L M : List Int} {k : Nat} (h : Back L M k) (hk : k < (ob L).length) : Back L (subS M (ob L)[k] (M.count (ob L)[k] : Int)) (k + 1) := fun y => by
  unfold subS
  rw [if_neg (by omega), take_step _ _ hk, Int.toNat_natCast]
  by_cases e : y = (ob L)[k]
  · subst e
    rw [subL_count, if_pos (List.mem_append_right _ (List.mem_singleton.2 rfl)), Nat.sub_self]
  · rw [subL_other _ _ _ _ e, h y]
    simp only [List.mem_append, List.mem_singleton, e, or_false]
theorem Back.done {L M : List Int} (h : Back L M (ob L).length) : M = [] := by
  apply List.eq_nil_iff_forall_not_mem.2
  intro y hy
  have h1 := List.count_pos_iff.2 hy
  have h2 := h y
  rw [List.take_length] at h2
  split at h2
  · omega
  · rename_i hn
    rw [ob_mem] at hn
    have := List.count_eq_zero.2 hn
    omega
theorem sub_ok (M : List Int) (x : Int) : subO M x (M.count x : Int) = 0 := by unfold subO; rw [if_neg (by omega)]
theorem ob_nil : ob [] = [] := lt_one (ob_lt _) List.Pairwise.nil (fun x => ob_mem _ _)
end Go.Proofs.Ytfeilkhlapnpoaa
