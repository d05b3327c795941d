import Derived.Test.YthfmmfphnimlnaaBB
namespace Go.Proofs.Ythfmmfphnimlnaa
open Go.RowKit
def validB (r : Int) : Bool := decide (1 ≤ r ∧ r ≤ 31)
def partB (a b : Int) : Bool := validB a && validB b && decide (a.toNat &&& b.toNat = a.toNat)
theorem validB_iff {r : Int} : validB r = true ↔ 1 ≤ r ∧ r ≤ 31 := by unfold validB; exact decide_eq_true_iff
theorem partB_valid {a b : Int} (h : partB a b = true) : validB a = true := by
  unfold partB at h; simp only [Bool.and_eq_true] at h; exact h.1.1
set_option linter.unusedVariables false
theorem i64_and_nat (a b : Nat) (ha : a < 32) (hb : b < 32) : bits .and .i64 (a : Int) (b : Int) = ((a &&& b : Nat) : Int) := by
  have hx : a &&& b < 2 ^ 5 := Nat.and_lt_two_pow _ (by omega)
  show IntKind.i64.wrap ((BitVec.ofInt 64 (a : Int) &&& BitVec.ofInt 64 (b : Int)).toNat : Int) = _
  rw [BitVec.toNat_and, BitVec.ofInt_natCast, BitVec.ofInt_natCast, BitVec.toNat_ofNat, BitVec.toNat_ofNat, Nat.mod_eq_of_lt (a := a) (by omega), Nat.mod_eq_of_lt (a := b) (by omega), IntKind.wrap_i64]
  omega
theorem valid_nat {r : Int} (h : validB r = true) : ∃ n : Nat, r = (n : Int) ∧ 1 ≤ n ∧ n < 32 := by
  have := validB_iff.1 h
  exact ⟨r.toNat, by omega, by omega, by omega⟩
theorem beq_nat (x y : Nat) : ((x : Int) == (y : Int)) = decide (x = y) := by
  by_cases h : x = y
  · subst h; simp
  · rw [decide_eq_false h]
    simp
    omega
theorem valid_any (r : Int) (w : World) :
    Calls Try.prog 92 #[.int .i64 r] w fun e w' => e = .returned (.bool (validB r)) ∧ w' = w := by
  by_cases h1 : 0 < r
  · by_cases h2 : r ≤ 31
    · have hz : validB r = true := decide_eq_true (by omega)
      rw [hz]; clear hz
      go_enter Try.func92, Try.ntmps92
      go_wp2
      go_ret
      exact ⟨rfl, rfl⟩
    · have hz : validB r = false := decide_eq_false (by omega)
      rw [hz]; clear hz
      go_enter Try.func92, Try.ntmps92
      go_wp2
      go_ret
      exact ⟨rfl, rfl⟩
  · have hz : validB r = false := decide_eq_false (by omega)
    rw [hz]; clear hz
    go_enter Try.func92, Try.ntmps92
    go_wp2
    go_ret
    exact ⟨rfl, rfl⟩
theorem part_any (a b : Int) (w : World) :
    Calls Try.prog 77 #[.int .i64 a, .int .i64 b] w fun e w' => e = .returned (.bool (partB a b)) ∧ w' = w := by
  by_cases h1 : validB a = true
  · by_cases h2 : validB b = true
    · obtain ⟨n, rfl, _, hn⟩ := valid_nat h1
      obtain ⟨m, rfl, _, hm⟩ := valid_nat h2
      have hb := i64_and_nat n m hn hm
      have HP : Hid (partB (n : Int) (m : Int) = decide (n &&& m = n)) := by unfold Hid partB; rw [h1, h2]; simp
      go_enter Try.func77, Try.ntmps77
      go_wp2_with (first | (go_at_call 92; refine (valid_any _ _).mono ?_; rintro e w1 ⟨rfl, rfl⟩))
      go_ret
      refine ⟨?_, rfl⟩
      rw [HP.out]
      apply ret_bool
      exact beq_nat _ _
    · have h2 : validB b = false := by simpa using h2
      have hz : partB a b = false := by unfold partB; rw [h2]; simp
      rw [hz]; clear hz
      go_enter Try.func77, Try.ntmps77
      go_wp2_with (first | (go_at_call 92; refine (valid_any _ _).mono ?_; rintro e w1 ⟨rfl, rfl⟩))
      go_ret
      exact ⟨rfl, rfl⟩
  · have h1 : validB a = false := by simpa using h1
    have hz : partB a b = false := by unfold partB; rw [h1]; simp
    rw [hz]; clear hz
    go_enter Try.func77, Try.ntmps77
    go_wp2_with (first | (go_at_call 92; refine (valid_any _ _).mono ?_; rintro e w1 ⟨rfl, rfl⟩))
    go_ret
    exact ⟨rfl, rfl⟩
/-- Rights that grow nowhere. -/
theorem i64_or_nat (a b : Nat) (ha : a < 32) (hb : b < 32) : bits .or .i64 (a : Int) (b : Int) = ((a ||| b : Nat) : Int) := by
  have hx : a ||| b < 2 ^ 5 := Nat.or_lt_two_pow (by omega) (by omega)
  show IntKind.i64.wrap ((BitVec.ofInt 64 (a : Int) ||| BitVec.ofInt 64 (b : Int)).toNat : Int) = _
  rw [BitVec.toNat_or, BitVec.ofInt_natCast, BitVec.ofInt_natCast, BitVec.toNat_ofNat, BitVec.toNat_ofNat, Nat.mod_eq_of_lt (a := a) (by omega), Nat.mod_eq_of_lt (a := b) (by omega), IntKind.wrap_i64]
  omega
theorem or_of_and : ∀ a, a < 32 → ∀ b, b < 32 → (decide (a &&& b = a)) = decide (a ||| b = b) := by decide +kernel
theorem rvalid_any (r : Int) (w : World) :
    Calls Try.prog 63 #[.int .i64 r] w fun e w' => e = .returned (.bool (validB r)) ∧ w' = w := by
  by_cases h1 : 1 ≤ r
  · by_cases h2 : r ≤ 31
    · have hz : validB r = true := decide_eq_true (by omega)
      rw [hz]; clear hz
      go_enter Try.func63, Try.ntmps63
      go_wp2
      go_ret
      exact ⟨rfl, rfl⟩
    · have hz : validB r = false := decide_eq_false (by omega)
      rw [hz]; clear hz
      go_enter Try.func63, Try.ntmps63
      go_wp2
      go_ret
      exact ⟨rfl, rfl⟩
  · have hz : validB r = false := decide_eq_false (by omega)
    rw [hz]; clear hz
    go_enter Try.func63, Try.ntmps63
    go_wp2
    go_ret
    exact ⟨rfl, rfl⟩
theorem rpart_any (a b : Int) (hb : validB b = true) (w : World) :
    Calls Try.prog 34 #[.int .i64 a, .int .i64 b] w fun e w' => e = .returned (.bool (partB a b)) ∧ w' = w := by
  by_cases h1 : validB a = true
  · obtain ⟨n, rfl, _, hn⟩ := valid_nat h1
    obtain ⟨m, rfl, _, hm⟩ := valid_nat hb
    have hbo := i64_or_nat n m hn hm
    have HP : Hid (partB (n : Int) (m : Int) = decide (n ||| m = m)) := by unfold Hid partB; rw [h1, hb]; simp only [Bool.and_self, Bool.true_and, Int.toNat_natCast]; exact or_of_and n hn m hm
    go_enter Try.func34, Try.ntmps34
    go_wp2_with (first | (go_at_call 63; refine (rvalid_any _ _).mono ?_; rintro e w1 ⟨rfl, rfl⟩))
    go_ret
    refine ⟨?_, rfl⟩
    rw [HP.out]
    apply ret_bool
    exact beq_nat _ _
  · have h1 : validB a = false := by simpa using h1
    have hz : partB a b = false := by unfold partB; rw [h1]; simp
    rw [hz]; clear hz
    go_enter Try.func34, Try.ntmps34
    go_wp2_with (first | (go_at_call 63; refine (rvalid_any _ _).mono ?_; rintro e w1 ⟨rfl, rfl⟩))
    go_ret
    exact ⟨rfl, rfl⟩
end Go.Proofs.Ythfmmfphnimlnaa
