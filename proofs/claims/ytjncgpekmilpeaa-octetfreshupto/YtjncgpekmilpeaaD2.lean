import Derived.Test.YtjncgpekmilpeaaD1
namespace Go.Proofs.Ytjncgpekmilpeaa
open Go.RowKit
set_option linter.unusedVariables false

set_option maxRecDepth 100000 in
set_option maxHeartbeats 1000000 in
theorem widths_any (k : Int) (w : World) : Calls Try.prog 62 #[.int .i64 k] w fun e w' => e = .returned (.bool (decide (okW k))) ∧ w' = w := by
  by_cases h1 : k = 1
  · subst h1
    go_enter Try.func62, Try.ntmps62
    go_wp2
    go_ret
    exact ⟨rfl, rfl⟩
  by_cases h2 : k = 2
  · subst h2
    go_enter Try.func62, Try.ntmps62
    go_wp2
    go_ret
    exact ⟨rfl, rfl⟩
  by_cases h4 : k = 4
  · subst h4
    go_enter Try.func62, Try.ntmps62
    go_wp2
    go_ret
    exact ⟨rfl, rfl⟩
  by_cases h8 : k = 8
  · subst h8
    go_enter Try.func62, Try.ntmps62
    go_wp2
    go_ret
    exact ⟨rfl, rfl⟩
  have hno : decide (okW k) = false := decide_eq_false (by unfold okW; omega)
  rw [hno]
  have b1 : (k == 1) = false := by simp; omega
  have b2 : (k == 2) = false := by simp; omega
  have b4 : (k == 4) = false := by simp; omega
  have b8 : (k == 8) = false := by simp; omega
  clear h1 h2 h4 h8 hno
  go_enter Try.func62, Try.ntmps62
  go_wp2
  go_ret
  exact ⟨rfl, rfl⟩
theorem look_get {L : List Nat} {k : Int} (h : okW k) : lookV L k = getV L k.toNat ∧ lookE L k = getE L k.toNat := by
  unfold lookV lookE
  rw [if_pos h, if_pos h]
  exact ⟨rfl, rfl⟩
theorem look_not {L : List Nat} {k : Int} (h : ¬ okW k) : lookV L k = 0 ∧ lookE L k = 5 := by
  unfold lookV lookE
  rw [if_neg h, if_neg h]
  exact ⟨rfl, rfl⟩

set_option maxRecDepth 100000 in
set_option maxHeartbeats 1000000 in
theorem rnumber_any (g gb : Nat) (R : List Nat) (k : Int) (w : World) (h : Rd w g gb R) :
    Calls Try.prog 52 #[.pointer (some ⟨g, 0, none⟩), .int .i64 k] w fun e w' => e = .returned (.tuple #[.int .u64 ((lookV R k : Nat) : Int), .int .i64 (lookE R k)]) ∧ Rd w' g gb (R.drop (numN R k)) ∧ But (· = g) w w' := by
  obtain ⟨o, cap, hl, hc, hcell⟩ := h.ex
  have hl1 := hl.1
  have hl2 := hl.2
  have hrow := h.row hc hcell
  have HH : Hid (Rd w g gb R) := h
  have HC : Hid (∀ i (hi : i < R.length), w.cell? ⟨gb, o + i, none⟩ = some (.int .u8 ((R[i] : Nat) : Int))) := hcell
  clear hcell
  by_cases hok : okW k
  · obtain ⟨e1, e2⟩ := look_get (L := R) hok
    obtain ⟨m, rfl⟩ : ∃ m : Nat, k = (m : Int) := ⟨k.toNat, by unfold okW at hok; omega⟩
    have hm : m ≤ 8 ∧ 0 < m := by unfold okW at hok; omega
    rw [Int.toNat_natCast] at e1 e2
    have hd : decide (okW (m : Int)) = true := decide_eq_true hok
    by_cases hsh : R.length < m
    · obtain ⟨f1, f2⟩ := get_short hsh
      have hnn : numN R (m : Int) = 0 := by unfold numN; rw [e2, f2, if_neg (by omega)]
      rw [e1, e2, hnn, f1, f2]
      clear hok
      go_enter Try.func52, Try.ntmps52
      go_wp2_with (first | (go_at_call 62; refine (widths_any _ _).mono ?_; rintro e w1 ⟨rfl, rfl⟩; rw [hd]) | (go_at_call 33; refine (rget_any _ _ _ R m _ hm.1 hm.2 hrow).mono ?_; rintro e w1 ⟨rfl, rfl⟩; rw [f1, f2]))
      exact bodyPost_ret (v := .tuple #[.int .u64 0, .int .i64 17]) (by simp [results, Try.results52, go_sem]) rfl ⟨rfl, by simpa using h, But.refl _ _⟩
    · obtain ⟨f1, f2⟩ := get_full hsh
      have hnn : numN R (m : Int) = m := by unfold numN; rw [e2, f2, if_pos rfl, Int.toNat_natCast]
      rw [e1, e2, hnn, f2]
      have hle : (m : Int) ≤ (R.length : Int) := by omega
      have hcap : (R.length : Int) ≤ (cap : Int) := by omega
      have h0 : (0 : Int) ≤ (m : Int) := by omega
      have hmR : m ≤ R.length := by omega
      clear hok hsh f1 h
      go_enter Try.func52, Try.ntmps52
      go_wp2_with (first | (go_at_call 62; refine (widths_any _ _).mono ?_; rintro e w1 ⟨rfl, rfl⟩; rw [hd]) | (go_at_call 33; refine (rget_any _ _ _ R m _ hm.1 hm.2 hrow).mono ?_; rintro e w1 ⟨rfl, rfl⟩; rw [f2]))
      all_goals refine bodyPost_ret (v := .tuple #[.int .u64 ((getV R m : Nat) : Int), .int .i64 0]) (by simp [results, Try.results52, go_sem]) rfl ⟨rfl, HH.out.shift hl HC.out hmR (by omega) (by omega), (But.refl (· = g) _).setCell (p := ⟨g, 0, none⟩) rfl _⟩
  · obtain ⟨e1, e2⟩ := look_not (L := R) hok
    have hnn : numN R k = 0 := by unfold numN; rw [e2, if_neg (by omega)]
    rw [e1, e2, hnn]
    have hd : decide (okW k) = false := decide_eq_false hok
    clear hok
    go_enter Try.func52, Try.ntmps52
    go_wp2_with (first | (go_at_call 62; refine (widths_any _ _).mono ?_; rintro e w1 ⟨rfl, rfl⟩; rw [hd]))
    exact bodyPost_ret (v := .tuple #[.int .u64 0, .int .i64 5]) (by simp [results, Try.results52, go_sem]) rfl ⟨rfl, by simpa using h, But.refl _ _⟩

set_option maxRecDepth 100000 in
set_option maxHeartbeats 1000000 in
theorem rint_any (g gb : Nat) (R : List Nat) (k M : Int) (w : World) (h : Rd w g gb R) (hM : M < 9223372036854775808) :
    Calls Try.prog 53 #[.pointer (some ⟨g, 0, none⟩), .int .i64 k, .int .i64 M] w fun e w' => e = .returned (.tuple #[.int .i64 ((intV R k M : Nat) : Int), .int .i64 (intE R k M)]) ∧ Rd w' g gb (R.drop (intN R k M)) ∧ But (· = g) w w' := by
  obtain ⟨o, cap, hl, hc, hcell⟩ := h.ex
  have hl1 := hl.1
  have hl2 := hl.2
  have hrow := h.row hc hcell
  have HH : Hid (Rd w g gb R) := h
  have HC : Hid (∀ i (hi : i < R.length), w.cell? ⟨gb, o + i, none⟩ = some (.int .u8 ((R[i] : Nat) : Int))) := hcell
  clear hcell
  by_cases hok : okW k
  · obtain ⟨q1, q2⟩ := look_get (L := R) hok
    obtain ⟨m, rfl⟩ : ∃ m : Nat, k = (m : Int) := ⟨k.toNat, by unfold okW at hok; omega⟩
    have hm : m ≤ 8 ∧ 0 < m := by unfold okW at hok; omega
    rw [Int.toNat_natCast] at q1 q2
    have hd : decide (okW (m : Int)) = true := decide_eq_true hok
    by_cases hm0 : M < 0
    · have e1 : intE R (m : Int) M = 5 := by unfold intE; rw [if_pos hm0]
      have e2 : intV R (m : Int) M = 0 := by unfold intV; rw [e1, if_neg (by omega)]
      have e3 : intN R (m : Int) M = 0 := by unfold intN; rw [e1, if_neg (by omega)]
      rw [e1, e2, e3]
      have hd0 : decide (M < 0) = true := decide_eq_true hm0
      clear hok
      go_enter Try.func53, Try.ntmps53
      go_wp2_with (first | (go_at_call 62; refine (widths_any _ _).mono ?_; rintro e w1 ⟨rfl, rfl⟩; rw [hd]))
      exact bodyPost_ret (v := .tuple #[.int .i64 0, .int .i64 5]) (by simp [results, Try.results53, go_sem]) rfl ⟨rfl, by simpa using h, But.refl _ _⟩
    have hd0 : decide (M < 0) = false := decide_eq_false hm0
    have hm1 : 0 ≤ M := by omega
    have ewm : IntKind.u64.wrap M = M := by rw [IntKind.wrap_u64]; omega
    by_cases hsh : R.length < m
    · obtain ⟨f1, f2⟩ := get_short hsh
      have e1 : intE R (m : Int) M = 17 := by unfold intE; rw [if_neg hm0, q2, f2, if_pos (by omega)]
      have e2 : intV R (m : Int) M = 0 := by unfold intV; rw [e1, if_neg (by omega)]
      have e3 : intN R (m : Int) M = 0 := by unfold intN; rw [e1, if_neg (by omega)]
      rw [e1, e2, e3]
      clear hok
      go_enter Try.func53, Try.ntmps53
      go_wp2_with (first | (go_at_call 62; refine (widths_any _ _).mono ?_; rintro e w1 ⟨rfl, rfl⟩; rw [hd]) | (go_at_call 33; refine (rget_any _ _ _ R m _ hm.1 hm.2 hrow).mono ?_; rintro e w1 ⟨rfl, rfl⟩; rw [f1, f2]))
      exact bodyPost_ret (v := .tuple #[.int .i64 0, .int .i64 17]) (by simp [results, Try.results53, go_sem]) rfl ⟨rfl, by simpa using h, But.refl _ _⟩
    obtain ⟨f1, f2⟩ := get_full hsh
    by_cases hgt : M < ((getV R m : Nat) : Int)
    · have e1 : intE R (m : Int) M = 5 := by unfold intE; rw [if_neg hm0, q2, f2, if_neg (by omega), q1, if_pos hgt]
      have e2 : intV R (m : Int) M = 0 := by unfold intV; rw [e1, if_neg (by omega)]
      have e3 : intN R (m : Int) M = 0 := by unfold intN; rw [e1, if_neg (by omega)]
      rw [e1, e2, e3]
      have hd1 : decide (M < ((getV R m : Nat) : Int)) = true := decide_eq_true hgt
      clear hok f1 hsh
      go_enter Try.func53, Try.ntmps53
      go_wp2_with (first | (go_at_call 62; refine (widths_any _ _).mono ?_; rintro e w1 ⟨rfl, rfl⟩; rw [hd]) | (go_at_call 33; refine (rget_any _ _ _ R m _ hm.1 hm.2 hrow).mono ?_; rintro e w1 ⟨rfl, rfl⟩; rw [f2]))
      exact bodyPost_ret (v := .tuple #[.int .i64 0, .int .i64 5]) (by simp [results, Try.results53, go_sem]) rfl ⟨rfl, by simpa using h, But.refl _ _⟩
    · have e1 : intE R (m : Int) M = 0 := by unfold intE; rw [if_neg hm0, q2, f2, if_neg (by omega), q1, if_neg hgt]
      have e2 : intV R (m : Int) M = getV R m := by unfold intV; rw [if_pos e1, q1]
      have e3 : intN R (m : Int) M = m := by unfold intN; rw [if_pos e1, Int.toNat_natCast]
      rw [e1, e2, e3]
      have hd1 : decide (M < ((getV R m : Nat) : Int)) = false := decide_eq_false hgt
      have ewv : IntKind.i64.wrap ((getV R m : Nat) : Int) = ((getV R m : Nat) : Int) := by rw [IntKind.wrap_i64]; omega
      have hle : (m : Int) ≤ (R.length : Int) := by omega
      have hcap : (R.length : Int) ≤ (cap : Int) := by omega
      have h0 : (0 : Int) ≤ (m : Int) := by omega
      have hmR : m ≤ R.length := by omega
      clear hok hsh f1 h
      go_enter Try.func53, Try.ntmps53
      go_wp2_with (first | (go_at_call 62; refine (widths_any _ _).mono ?_; rintro e w1 ⟨rfl, rfl⟩; rw [hd]) | (go_at_call 33; refine (rget_any _ _ _ R m _ hm.1 hm.2 hrow).mono ?_; rintro e w1 ⟨rfl, rfl⟩; rw [f2]))
      all_goals refine bodyPost_ret (v := .tuple #[.int .i64 ((getV R m : Nat) : Int), .int .i64 0]) (by simp [results, Try.results53, go_sem]) rfl ⟨rfl, HH.out.shift hl HC.out hmR (by omega) (by omega), (But.refl (· = g) _).setCell (p := ⟨g, 0, none⟩) rfl _⟩
  · obtain ⟨q1, q2⟩ := look_not (L := R) hok
    have e1 : intE R k M = 5 := by unfold intE; rw [q2]; split <;> simp
    have e2 : intV R k M = 0 := by unfold intV; rw [e1, if_neg (by omega)]
    have e3 : intN R k M = 0 := by unfold intN; rw [e1, if_neg (by omega)]
    rw [e1, e2, e3]
    have hd : decide (okW k) = false := decide_eq_false hok
    clear hok
    go_enter Try.func53, Try.ntmps53
    go_wp2_with (first | (go_at_call 62; refine (widths_any _ _).mono ?_; rintro e w1 ⟨rfl, rfl⟩; rw [hd]))
    exact bodyPost_ret (v := .tuple #[.int .i64 0, .int .i64 5]) (by simp [results, Try.results53, go_sem]) rfl ⟨rfl, by simpa using h, But.refl _ _⟩
end Go.Proofs.Ytjncgpekmilpeaa
