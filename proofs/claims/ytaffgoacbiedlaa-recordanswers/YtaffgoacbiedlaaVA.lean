import Derived.Test.YtaffgoacbiedlaaT5
namespace Go.Proofs.Ytaffgoacbiedlaa
open Go.RowKit
set_option linter.unusedVariables false
set_option linter.unusedSimpArgs false

set_option maxRecDepth 100000 in
set_option maxHeartbeats 4000000 in
theorem raN0w (code : Int) (obj : Int) (hi lo : Nat) (da : Option Addr) (dn dc : Nat) (number : Int) (w : World) (f0 : wi code 0 65535 = false) (f1 : (code == 0) = false) :
    Calls Try.prog 21 #[.int .i64 0, .agg #[.int .i64 code, .int .i64 obj, .int .u64 (hi : Int), .int .u64 (lo : Int), .slice da dn dc, .int .i64 number]] w fun e w' => e = .returned (.tuple #[.slice none 0 0, .int .i64 1]) ∧ Below w.heap.size w w' := by
  have q0 : wi 0 0 10 = true := rfl
  have q4 := neqC obj (hi : Int) (lo : Int) 0 0 0
  have q6 : (code != 0) = true := by simpa using f1
  go_enter Try.func21, Try.ntmps21
  go_wp2_with (first | (go_at_call 39; refine (rwithin_any _ _ _ _).mono ?_; rintro e w9 ⟨rfl, hw9⟩; obtain rfl := hw9.symm))
  exact bodyPost_ret (v := .tuple #[.slice none 0 0, .int .i64 1]) (by simp [results, Try.results21, go_sem]) rfl ⟨rfl, below1 _ _⟩
set_option maxRecDepth 100000 in
set_option maxHeartbeats 4000000 in
theorem raN0c (code : Int) (obj : Int) (hi lo : Nat) (da : Option Addr) (dn dc : Nat) (number : Int) (w : World) (f0 : wi code 0 65535 = true) (f1 : (code == 0) = false) (f2 : cEq obj (hi : Int) (lo : Int) 0 0 0 = false) :
    Calls Try.prog 21 #[.int .i64 0, .agg #[.int .i64 code, .int .i64 obj, .int .u64 (hi : Int), .int .u64 (lo : Int), .slice da dn dc, .int .i64 number]] w fun e w' => e = .returned (.tuple #[.slice none 0 0, .int .i64 1]) ∧ Below w.heap.size w w' := by
  have q0 : wi 0 0 10 = true := rfl
  have q4 := neqC obj (hi : Int) (lo : Int) 0 0 0
  have q6 : (code != 0) = true := by simpa using f1
  go_enter Try.func21, Try.ntmps21
  go_wp2_with (first | (go_at_call 39; refine (rwithin_any _ _ _ _).mono ?_; rintro e w9 ⟨rfl, hw9⟩; obtain rfl := hw9.symm))
  exact bodyPost_ret (v := .tuple #[.slice none 0 0, .int .i64 1]) (by simp [results, Try.results21, go_sem]) rfl ⟨rfl, below1 _ _⟩
set_option maxRecDepth 100000 in
set_option maxHeartbeats 4000000 in
theorem raN0d (code : Int) (da : Option Addr) (dn dc : Nat) (number : Int) (w : World) (f0 : wi code 0 65535 = true) (f1 : 0 < dn) (f2 : (code == 0) = false) :
    Calls Try.prog 21 #[.int .i64 0, .agg #[.int .i64 code, .int .i64 0, .int .u64 0, .int .u64 0, .slice da dn dc, .int .i64 number]] w fun e w' => e = .returned (.tuple #[.slice none 0 0, .int .i64 1]) ∧ Below w.heap.size w w' := by
  have q0 : wi 0 0 10 = true := rfl
  have q2 : wi 0 0 4611686018427387904 = true := rfl
  have q4 := neqC 0 0 0 0 0 0
  have q5 : cEq 0 0 0 0 0 0 = true := rfl
  have q6 : (code != 0) = true := by simpa using f2
  have q8 : decide (0 < (dn : Int)) = true := by simp; omega
  have q9 : decide (0 < dn) = true := by simp; omega
  go_enter Try.func21, Try.ntmps21
  go_wp2_with (first | (go_at_call 39; refine (rwithin_any _ _ _ _).mono ?_; rintro e w9 ⟨rfl, hw9⟩; obtain rfl := hw9.symm))
  exact bodyPost_ret (v := .tuple #[.slice none 0 0, .int .i64 1]) (by simp [results, Try.results21, go_sem]) rfl ⟨rfl, below1 _ _⟩
set_option maxRecDepth 100000 in
set_option maxHeartbeats 4000000 in
theorem raN0n (code : Int) (da : Option Addr) (dn dc : Nat) (number : Int) (w : World) (f0 : wi code 0 65535 = true) (f1 : dn < 1) (f2 : (code == 0) = false) (f3 : (number == 0) = false) :
    Calls Try.prog 21 #[.int .i64 0, .agg #[.int .i64 code, .int .i64 0, .int .u64 0, .int .u64 0, .slice da dn dc, .int .i64 number]] w fun e w' => e = .returned (.tuple #[.slice none 0 0, .int .i64 1]) ∧ Below w.heap.size w w' := by
  have q0 : wi 0 0 10 = true := rfl
  have q2 : wi 0 0 4611686018427387904 = true := rfl
  have q4 := neqC 0 0 0 0 0 0
  have q5 : cEq 0 0 0 0 0 0 = true := rfl
  have q6 : (code != 0) = true := by simpa using f2
  have q7 : (number != 0) = true := by simpa using f3
  have q8 : decide (0 < (dn : Int)) = false := by simp; omega
  have q9 : decide (0 < dn) = false := by simp; omega
  go_enter Try.func21, Try.ntmps21
  go_wp2_with (first | (go_at_call 39; refine (rwithin_any _ _ _ _).mono ?_; rintro e w9 ⟨rfl, hw9⟩; obtain rfl := hw9.symm))
  exact bodyPost_ret (v := .tuple #[.slice none 0 0, .int .i64 1]) (by simp [results, Try.results21, go_sem]) rfl ⟨rfl, below1 _ _⟩
set_option maxRecDepth 100000 in
set_option maxHeartbeats 4000000 in
theorem raN1w (code : Int) (obj : Int) (hi lo : Nat) (da : Option Addr) (dn dc : Nat) (number : Int) (w : World) (f0 : wi code 0 65535 = false) (f1 : (code == 0) = false) :
    Calls Try.prog 21 #[.int .i64 1, .agg #[.int .i64 code, .int .i64 obj, .int .u64 (hi : Int), .int .u64 (lo : Int), .slice da dn dc, .int .i64 number]] w fun e w' => e = .returned (.tuple #[.slice none 0 0, .int .i64 1]) ∧ Below w.heap.size w w' := by
  have q0 : wi 1 0 10 = true := rfl
  have q4 := neqC obj (hi : Int) (lo : Int) 0 0 0
  have q6 : (code != 0) = true := by simpa using f1
  go_enter Try.func21, Try.ntmps21
  go_wp2_with (first | (go_at_call 39; refine (rwithin_any _ _ _ _).mono ?_; rintro e w9 ⟨rfl, hw9⟩; obtain rfl := hw9.symm))
  exact bodyPost_ret (v := .tuple #[.slice none 0 0, .int .i64 1]) (by simp [results, Try.results21, go_sem]) rfl ⟨rfl, below1 _ _⟩
set_option maxRecDepth 100000 in
set_option maxHeartbeats 4000000 in
theorem raN1c (code : Int) (obj : Int) (hi lo : Nat) (da : Option Addr) (dn dc : Nat) (number : Int) (w : World) (f0 : wi code 0 65535 = true) (f1 : (code == 0) = false) (f2 : cEq obj (hi : Int) (lo : Int) 0 0 0 = false) :
    Calls Try.prog 21 #[.int .i64 1, .agg #[.int .i64 code, .int .i64 obj, .int .u64 (hi : Int), .int .u64 (lo : Int), .slice da dn dc, .int .i64 number]] w fun e w' => e = .returned (.tuple #[.slice none 0 0, .int .i64 1]) ∧ Below w.heap.size w w' := by
  have q0 : wi 1 0 10 = true := rfl
  have q4 := neqC obj (hi : Int) (lo : Int) 0 0 0
  have q6 : (code != 0) = true := by simpa using f1
  go_enter Try.func21, Try.ntmps21
  go_wp2_with (first | (go_at_call 39; refine (rwithin_any _ _ _ _).mono ?_; rintro e w9 ⟨rfl, hw9⟩; obtain rfl := hw9.symm))
  exact bodyPost_ret (v := .tuple #[.slice none 0 0, .int .i64 1]) (by simp [results, Try.results21, go_sem]) rfl ⟨rfl, below1 _ _⟩
set_option maxRecDepth 100000 in
set_option maxHeartbeats 4000000 in
theorem raN1d (code : Int) (da : Option Addr) (dn dc : Nat) (number : Int) (w : World) (f0 : wi code 0 65535 = true) (f1 : 0 < dn) (f2 : (code == 0) = false) :
    Calls Try.prog 21 #[.int .i64 1, .agg #[.int .i64 code, .int .i64 0, .int .u64 0, .int .u64 0, .slice da dn dc, .int .i64 number]] w fun e w' => e = .returned (.tuple #[.slice none 0 0, .int .i64 1]) ∧ Below w.heap.size w w' := by
  have q0 : wi 1 0 10 = true := rfl
  have q2 : wi 0 0 4611686018427387904 = true := rfl
  have q4 := neqC 0 0 0 0 0 0
  have q5 : cEq 0 0 0 0 0 0 = true := rfl
  have q6 : (code != 0) = true := by simpa using f2
  have q8 : decide (0 < (dn : Int)) = true := by simp; omega
  have q9 : decide (0 < dn) = true := by simp; omega
  go_enter Try.func21, Try.ntmps21
  go_wp2_with (first | (go_at_call 39; refine (rwithin_any _ _ _ _).mono ?_; rintro e w9 ⟨rfl, hw9⟩; obtain rfl := hw9.symm))
  exact bodyPost_ret (v := .tuple #[.slice none 0 0, .int .i64 1]) (by simp [results, Try.results21, go_sem]) rfl ⟨rfl, below1 _ _⟩
set_option maxRecDepth 100000 in
set_option maxHeartbeats 4000000 in
theorem raN1n (code : Int) (da : Option Addr) (dn dc : Nat) (number : Int) (w : World) (f0 : wi code 0 65535 = true) (f1 : dn < 1) (f2 : (code == 0) = false) (f3 : (number == 0) = false) :
    Calls Try.prog 21 #[.int .i64 1, .agg #[.int .i64 code, .int .i64 0, .int .u64 0, .int .u64 0, .slice da dn dc, .int .i64 number]] w fun e w' => e = .returned (.tuple #[.slice none 0 0, .int .i64 1]) ∧ Below w.heap.size w w' := by
  have q0 : wi 1 0 10 = true := rfl
  have q2 : wi 0 0 4611686018427387904 = true := rfl
  have q4 := neqC 0 0 0 0 0 0
  have q5 : cEq 0 0 0 0 0 0 = true := rfl
  have q6 : (code != 0) = true := by simpa using f2
  have q7 : (number != 0) = true := by simpa using f3
  have q8 : decide (0 < (dn : Int)) = false := by simp; omega
  have q9 : decide (0 < dn) = false := by simp; omega
  go_enter Try.func21, Try.ntmps21
  go_wp2_with (first | (go_at_call 39; refine (rwithin_any _ _ _ _).mono ?_; rintro e w9 ⟨rfl, hw9⟩; obtain rfl := hw9.symm))
  exact bodyPost_ret (v := .tuple #[.slice none 0 0, .int .i64 1]) (by simp [results, Try.results21, go_sem]) rfl ⟨rfl, below1 _ _⟩
set_option maxRecDepth 100000 in
set_option maxHeartbeats 4000000 in
theorem raN3w (code : Int) (obj : Int) (hi lo : Nat) (da : Option Addr) (dn dc : Nat) (number : Int) (w : World) (f0 : wi code 0 65535 = false) (f1 : (code == 0) = false) :
    Calls Try.prog 21 #[.int .i64 3, .agg #[.int .i64 code, .int .i64 obj, .int .u64 (hi : Int), .int .u64 (lo : Int), .slice da dn dc, .int .i64 number]] w fun e w' => e = .returned (.tuple #[.slice none 0 0, .int .i64 1]) ∧ Below w.heap.size w w' := by
  have q0 : wi 3 0 10 = true := rfl
  have q4 := neqC obj (hi : Int) (lo : Int) 0 0 0
  have q6 : (code != 0) = true := by simpa using f1
  go_enter Try.func21, Try.ntmps21
  go_wp2_with (first | (go_at_call 39; refine (rwithin_any _ _ _ _).mono ?_; rintro e w9 ⟨rfl, hw9⟩; obtain rfl := hw9.symm))
  exact bodyPost_ret (v := .tuple #[.slice none 0 0, .int .i64 1]) (by simp [results, Try.results21, go_sem]) rfl ⟨rfl, below1 _ _⟩
set_option maxRecDepth 100000 in
set_option maxHeartbeats 4000000 in
theorem raN3c (code : Int) (obj : Int) (hi lo : Nat) (da : Option Addr) (dn dc : Nat) (number : Int) (w : World) (f0 : wi code 0 65535 = true) (f1 : (code == 0) = false) (f2 : cEq obj (hi : Int) (lo : Int) 0 0 0 = false) :
    Calls Try.prog 21 #[.int .i64 3, .agg #[.int .i64 code, .int .i64 obj, .int .u64 (hi : Int), .int .u64 (lo : Int), .slice da dn dc, .int .i64 number]] w fun e w' => e = .returned (.tuple #[.slice none 0 0, .int .i64 1]) ∧ Below w.heap.size w w' := by
  have q0 : wi 3 0 10 = true := rfl
  have q4 := neqC obj (hi : Int) (lo : Int) 0 0 0
  have q6 : (code != 0) = true := by simpa using f1
  go_enter Try.func21, Try.ntmps21
  go_wp2_with (first | (go_at_call 39; refine (rwithin_any _ _ _ _).mono ?_; rintro e w9 ⟨rfl, hw9⟩; obtain rfl := hw9.symm))
  exact bodyPost_ret (v := .tuple #[.slice none 0 0, .int .i64 1]) (by simp [results, Try.results21, go_sem]) rfl ⟨rfl, below1 _ _⟩
set_option maxRecDepth 100000 in
set_option maxHeartbeats 4000000 in
theorem raN3d (code : Int) (da : Option Addr) (dn dc : Nat) (number : Int) (w : World) (f0 : wi code 0 65535 = true) (f1 : 0 < dn) (f2 : (code == 0) = false) :
    Calls Try.prog 21 #[.int .i64 3, .agg #[.int .i64 code, .int .i64 0, .int .u64 0, .int .u64 0, .slice da dn dc, .int .i64 number]] w fun e w' => e = .returned (.tuple #[.slice none 0 0, .int .i64 1]) ∧ Below w.heap.size w w' := by
  have q0 : wi 3 0 10 = true := rfl
  have q2 : wi 0 0 4611686018427387904 = true := rfl
  have q4 := neqC 0 0 0 0 0 0
  have q5 : cEq 0 0 0 0 0 0 = true := rfl
  have q6 : (code != 0) = true := by simpa using f2
  have q8 : decide (0 < (dn : Int)) = true := by simp; omega
  have q9 : decide (0 < dn) = true := by simp; omega
  go_enter Try.func21, Try.ntmps21
  go_wp2_with (first | (go_at_call 39; refine (rwithin_any _ _ _ _).mono ?_; rintro e w9 ⟨rfl, hw9⟩; obtain rfl := hw9.symm))
  exact bodyPost_ret (v := .tuple #[.slice none 0 0, .int .i64 1]) (by simp [results, Try.results21, go_sem]) rfl ⟨rfl, below1 _ _⟩
set_option maxRecDepth 100000 in
set_option maxHeartbeats 4000000 in
theorem raN3n (code : Int) (da : Option Addr) (dn dc : Nat) (number : Int) (w : World) (f0 : wi code 0 65535 = true) (f1 : dn < 1) (f2 : (code == 0) = false) (f3 : (number == 0) = false) :
    Calls Try.prog 21 #[.int .i64 3, .agg #[.int .i64 code, .int .i64 0, .int .u64 0, .int .u64 0, .slice da dn dc, .int .i64 number]] w fun e w' => e = .returned (.tuple #[.slice none 0 0, .int .i64 1]) ∧ Below w.heap.size w w' := by
  have q0 : wi 3 0 10 = true := rfl
  have q2 : wi 0 0 4611686018427387904 = true := rfl
  have q4 := neqC 0 0 0 0 0 0
  have q5 : cEq 0 0 0 0 0 0 = true := rfl
  have q6 : (code != 0) = true := by simpa using f2
  have q7 : (number != 0) = true := by simpa using f3
  have q8 : decide (0 < (dn : Int)) = false := by simp; omega
  have q9 : decide (0 < dn) = false := by simp; omega
  go_enter Try.func21, Try.ntmps21
  go_wp2_with (first | (go_at_call 39; refine (rwithin_any _ _ _ _).mono ?_; rintro e w9 ⟨rfl, hw9⟩; obtain rfl := hw9.symm))
  exact bodyPost_ret (v := .tuple #[.slice none 0 0, .int .i64 1]) (by simp [results, Try.results21, go_sem]) rfl ⟨rfl, below1 _ _⟩
end Go.Proofs.Ytaffgoacbiedlaa
