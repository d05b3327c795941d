import Derived.Test.YtaffgoacbiedlaaT5
namespace Go.Proofs.Ytaffgoacbiedlaa
open Go.RowKit
set_option linter.unusedVariables false
set_option linter.unusedSimpArgs false

set_option maxRecDepth 100000 in
set_option maxHeartbeats 4000000 in
theorem raN5w (code : Int) (obj : Int) (hi lo : Nat) (da : Option Addr) (dn dc : Nat) (number : Int) (w : World) (f0 : wi code 0 65535 = false) (f1 : (code == 0) = false) :
    Calls Try.prog 21 #[.int .i64 5, .agg #[.int .i64 code, .int .i64 obj, .int .u64 (hi : Int), .int .u64 (lo : Int), .slice da dn dc, .int .i64 number]] w fun e w' => e = .returned (.tuple #[.slice none 0 0, .int .i64 1]) ∧ Below w.heap.size w w' := by
  have q0 : wi 5 0 10 = true := rfl
  have q4 := neqC obj (hi : Int) (lo : Int) 0 0 0
  have q6 : (code != 0) = true := by simpa using f1
  go_enter Try.func21, Try.ntmps21
  go_wp2_with (first | (go_at_call 39; refine (rwithin_any _ _ _ _).mono ?_; rintro e w9 ⟨rfl, hw9⟩; obtain rfl := hw9.symm))
  exact bodyPost_ret (v := .tuple #[.slice none 0 0, .int .i64 1]) (by simp [results, Try.results21, go_sem]) rfl ⟨rfl, below1 _ _⟩
set_option maxRecDepth 100000 in
set_option maxHeartbeats 4000000 in
theorem raN5c (code : Int) (obj : Int) (hi lo : Nat) (da : Option Addr) (dn dc : Nat) (number : Int) (w : World) (f0 : wi code 0 65535 = true) (f1 : (code == 0) = false) (f2 : cEq obj (hi : Int) (lo : Int) 0 0 0 = false) :
    Calls Try.prog 21 #[.int .i64 5, .agg #[.int .i64 code, .int .i64 obj, .int .u64 (hi : Int), .int .u64 (lo : Int), .slice da dn dc, .int .i64 number]] w fun e w' => e = .returned (.tuple #[.slice none 0 0, .int .i64 1]) ∧ Below w.heap.size w w' := by
  have q0 : wi 5 0 10 = true := rfl
  have q4 := neqC obj (hi : Int) (lo : Int) 0 0 0
  have q6 : (code != 0) = true := by simpa using f1
  go_enter Try.func21, Try.ntmps21
  go_wp2_with (first | (go_at_call 39; refine (rwithin_any _ _ _ _).mono ?_; rintro e w9 ⟨rfl, hw9⟩; obtain rfl := hw9.symm))
  exact bodyPost_ret (v := .tuple #[.slice none 0 0, .int .i64 1]) (by simp [results, Try.results21, go_sem]) rfl ⟨rfl, below1 _ _⟩
set_option maxRecDepth 100000 in
set_option maxHeartbeats 4000000 in
theorem raN5d (code : Int) (da : Option Addr) (dn dc : Nat) (number : Int) (w : World) (f0 : wi code 0 65535 = true) (f1 : 0 < dn) (f2 : (code == 0) = false) :
    Calls Try.prog 21 #[.int .i64 5, .agg #[.int .i64 code, .int .i64 0, .int .u64 0, .int .u64 0, .slice da dn dc, .int .i64 number]] w fun e w' => e = .returned (.tuple #[.slice none 0 0, .int .i64 1]) ∧ Below w.heap.size w w' := by
  have q0 : wi 5 0 10 = true := rfl
  have q2 : wi 0 0 4611686018427387904 = true := rfl
  have q4 := neqC 0 0 0 0 0 0
  have q5 : cEq 0 0 0 0 0 0 = true := rfl
  have q6 : (code != 0) = true := by simpa using f2
  have q8 : decide (0 < (dn : Int)) = true := by simp; omega
  have q9 : decide (0 < dn) = true := by simp; omega
  go_enter Try.func21, Try.ntmps21
  go_wp2_with (first | (go_at_call 39; refine (rwithin_any _ _ _ _).mono ?_; rintro e w9 ⟨rfl, hw9⟩; obtain rfl := hw9.symm))
  exact bodyPost_ret (v := .tuple #[.slice none 0 0, .int .i64 1]) (by simp [results, Try.results21, go_sem]) rfl ⟨rfl, below1 _ _⟩
set_option maxRecDepth 100000 in
set_option maxHeartbeats 4000000 in
theorem raN5n (code : Int) (da : Option Addr) (dn dc : Nat) (number : Int) (w : World) (f0 : wi code 0 65535 = true) (f1 : dn < 1) (f2 : (code == 0) = false) (f3 : (number == 0) = false) :
    Calls Try.prog 21 #[.int .i64 5, .agg #[.int .i64 code, .int .i64 0, .int .u64 0, .int .u64 0, .slice da dn dc, .int .i64 number]] w fun e w' => e = .returned (.tuple #[.slice none 0 0, .int .i64 1]) ∧ Below w.heap.size w w' := by
  have q0 : wi 5 0 10 = true := rfl
  have q2 : wi 0 0 4611686018427387904 = true := rfl
  have q4 := neqC 0 0 0 0 0 0
  have q5 : cEq 0 0 0 0 0 0 = true := rfl
  have q6 : (code != 0) = true := by simpa using f2
  have q7 : (number != 0) = true := by simpa using f3
  have q8 : decide (0 < (dn : Int)) = false := by simp; omega
  have q9 : decide (0 < dn) = false := by simp; omega
  go_enter Try.func21, Try.ntmps21
  go_wp2_with (first | (go_at_call 39; refine (rwithin_any _ _ _ _).mono ?_; rintro e w9 ⟨rfl, hw9⟩; obtain rfl := hw9.symm))
  exact bodyPost_ret (v := .tuple #[.slice none 0 0, .int .i64 1]) (by simp [results, Try.results21, go_sem]) rfl ⟨rfl, below1 _ _⟩
set_option maxRecDepth 100000 in
set_option maxHeartbeats 4000000 in
theorem raN9w (code : Int) (obj : Int) (hi lo : Nat) (da : Option Addr) (dn dc : Nat) (number : Int) (w : World) (f0 : wi code 0 65535 = false) (f1 : (code == 0) = false) :
    Calls Try.prog 21 #[.int .i64 9, .agg #[.int .i64 code, .int .i64 obj, .int .u64 (hi : Int), .int .u64 (lo : Int), .slice da dn dc, .int .i64 number]] w fun e w' => e = .returned (.tuple #[.slice none 0 0, .int .i64 1]) ∧ Below w.heap.size w w' := by
  have q0 : wi 9 0 10 = true := rfl
  have q4 := neqC obj (hi : Int) (lo : Int) 0 0 0
  have q6 : (code != 0) = true := by simpa using f1
  go_enter Try.func21, Try.ntmps21
  go_wp2_with (first | (go_at_call 39; refine (rwithin_any _ _ _ _).mono ?_; rintro e w9 ⟨rfl, hw9⟩; obtain rfl := hw9.symm))
  exact bodyPost_ret (v := .tuple #[.slice none 0 0, .int .i64 1]) (by simp [results, Try.results21, go_sem]) rfl ⟨rfl, below1 _ _⟩
set_option maxRecDepth 100000 in
set_option maxHeartbeats 4000000 in
theorem raN9c (code : Int) (obj : Int) (hi lo : Nat) (da : Option Addr) (dn dc : Nat) (number : Int) (w : World) (f0 : wi code 0 65535 = true) (f1 : (code == 0) = false) (f2 : cEq obj (hi : Int) (lo : Int) 0 0 0 = false) :
    Calls Try.prog 21 #[.int .i64 9, .agg #[.int .i64 code, .int .i64 obj, .int .u64 (hi : Int), .int .u64 (lo : Int), .slice da dn dc, .int .i64 number]] w fun e w' => e = .returned (.tuple #[.slice none 0 0, .int .i64 1]) ∧ Below w.heap.size w w' := by
  have q0 : wi 9 0 10 = true := rfl
  have q4 := neqC obj (hi : Int) (lo : Int) 0 0 0
  have q6 : (code != 0) = true := by simpa using f1
  go_enter Try.func21, Try.ntmps21
  go_wp2_with (first | (go_at_call 39; refine (rwithin_any _ _ _ _).mono ?_; rintro e w9 ⟨rfl, hw9⟩; obtain rfl := hw9.symm))
  exact bodyPost_ret (v := .tuple #[.slice none 0 0, .int .i64 1]) (by simp [results, Try.results21, go_sem]) rfl ⟨rfl, below1 _ _⟩
set_option maxRecDepth 100000 in
set_option maxHeartbeats 4000000 in
theorem raN9d (code : Int) (da : Option Addr) (dn dc : Nat) (number : Int) (w : World) (f0 : wi code 0 65535 = true) (f1 : 0 < dn) (f2 : (code == 0) = false) :
    Calls Try.prog 21 #[.int .i64 9, .agg #[.int .i64 code, .int .i64 0, .int .u64 0, .int .u64 0, .slice da dn dc, .int .i64 number]] w fun e w' => e = .returned (.tuple #[.slice none 0 0, .int .i64 1]) ∧ Below w.heap.size w w' := by
  have q0 : wi 9 0 10 = true := rfl
  have q2 : wi 0 0 4611686018427387904 = true := rfl
  have q4 := neqC 0 0 0 0 0 0
  have q5 : cEq 0 0 0 0 0 0 = true := rfl
  have q6 : (code != 0) = true := by simpa using f2
  have q8 : decide (0 < (dn : Int)) = true := by simp; omega
  have q9 : decide (0 < dn) = true := by simp; omega
  go_enter Try.func21, Try.ntmps21
  go_wp2_with (first | (go_at_call 39; refine (rwithin_any _ _ _ _).mono ?_; rintro e w9 ⟨rfl, hw9⟩; obtain rfl := hw9.symm))
  exact bodyPost_ret (v := .tuple #[.slice none 0 0, .int .i64 1]) (by simp [results, Try.results21, go_sem]) rfl ⟨rfl, below1 _ _⟩
set_option maxRecDepth 100000 in
set_option maxHeartbeats 4000000 in
theorem raN9n (code : Int) (da : Option Addr) (dn dc : Nat) (number : Int) (w : World) (f0 : wi code 0 65535 = true) (f1 : dn < 1) (f2 : (code == 0) = false) (f3 : (number == 0) = false) :
    Calls Try.prog 21 #[.int .i64 9, .agg #[.int .i64 code, .int .i64 0, .int .u64 0, .int .u64 0, .slice da dn dc, .int .i64 number]] w fun e w' => e = .returned (.tuple #[.slice none 0 0, .int .i64 1]) ∧ Below w.heap.size w w' := by
  have q0 : wi 9 0 10 = true := rfl
  have q2 : wi 0 0 4611686018427387904 = true := rfl
  have q4 := neqC 0 0 0 0 0 0
  have q5 : cEq 0 0 0 0 0 0 = true := rfl
  have q6 : (code != 0) = true := by simpa using f2
  have q7 : (number != 0) = true := by simpa using f3
  have q8 : decide (0 < (dn : Int)) = false := by simp; omega
  have q9 : decide (0 < dn) = false := by simp; omega
  go_enter Try.func21, Try.ntmps21
  go_wp2_with (first | (go_at_call 39; refine (rwithin_any _ _ _ _).mono ?_; rintro e w9 ⟨rfl, hw9⟩; obtain rfl := hw9.symm))
  exact bodyPost_ret (v := .tuple #[.slice none 0 0, .int .i64 1]) (by simp [results, Try.results21, go_sem]) rfl ⟨rfl, below1 _ _⟩
set_option maxRecDepth 100000 in
set_option maxHeartbeats 4000000 in
theorem raNxw (x : Int) (code : Int) (obj : Int) (hi lo : Nat) (da : Option Addr) (dn dc : Nat) (number : Int) (w : World) (f0 : wi x 0 10 = true) (f1 : wi code 0 65535 = false) (f2 : (x == 0) = false) (f3 : (x == 1) = false) (f4 : (x == 3) = false) (f5 : (x == 5) = false) (f6 : (x == 9) = false) (f7 : (x != 5) = true) (f8 : (x != 9) = true) (f9 : (code == 0) = false) :
    Calls Try.prog 21 #[.int .i64 x, .agg #[.int .i64 code, .int .i64 obj, .int .u64 (hi : Int), .int .u64 (lo : Int), .slice da dn dc, .int .i64 number]] w fun e w' => e = .returned (.tuple #[.slice none 0 0, .int .i64 1]) ∧ Below w.heap.size w w' := by
  have q4 := neqC obj (hi : Int) (lo : Int) 0 0 0
  have q6 : (code != 0) = true := by simpa using f9
  go_enter Try.func21, Try.ntmps21
  go_wp2_with (first | (go_at_call 39; refine (rwithin_any _ _ _ _).mono ?_; rintro e w9 ⟨rfl, hw9⟩; obtain rfl := hw9.symm))
  exact bodyPost_ret (v := .tuple #[.slice none 0 0, .int .i64 1]) (by simp [results, Try.results21, go_sem]) rfl ⟨rfl, below1 _ _⟩
set_option maxRecDepth 100000 in
set_option maxHeartbeats 4000000 in
theorem raNxc (x : Int) (code : Int) (obj : Int) (hi lo : Nat) (da : Option Addr) (dn dc : Nat) (number : Int) (w : World) (f0 : wi x 0 10 = true) (f1 : wi code 0 65535 = true) (f2 : (x == 0) = false) (f3 : (x == 1) = false) (f4 : (x == 3) = false) (f5 : (x == 5) = false) (f6 : (x == 9) = false) (f7 : (x != 5) = true) (f8 : (x != 9) = true) (f9 : (code == 0) = false) (f10 : cEq obj (hi : Int) (lo : Int) 0 0 0 = false) :
    Calls Try.prog 21 #[.int .i64 x, .agg #[.int .i64 code, .int .i64 obj, .int .u64 (hi : Int), .int .u64 (lo : Int), .slice da dn dc, .int .i64 number]] w fun e w' => e = .returned (.tuple #[.slice none 0 0, .int .i64 1]) ∧ Below w.heap.size w w' := by
  have q4 := neqC obj (hi : Int) (lo : Int) 0 0 0
  have q6 : (code != 0) = true := by simpa using f9
  go_enter Try.func21, Try.ntmps21
  go_wp2_with (first | (go_at_call 39; refine (rwithin_any _ _ _ _).mono ?_; rintro e w9 ⟨rfl, hw9⟩; obtain rfl := hw9.symm))
  exact bodyPost_ret (v := .tuple #[.slice none 0 0, .int .i64 1]) (by simp [results, Try.results21, go_sem]) rfl ⟨rfl, below1 _ _⟩
set_option maxRecDepth 100000 in
set_option maxHeartbeats 4000000 in
theorem raNxd (x : Int) (code : Int) (da : Option Addr) (dn dc : Nat) (number : Int) (w : World) (f0 : wi x 0 10 = true) (f1 : wi code 0 65535 = true) (f2 : 0 < dn) (f3 : (x == 0) = false) (f4 : (x == 1) = false) (f5 : (x == 3) = false) (f6 : (x == 5) = false) (f7 : (x == 9) = false) (f8 : (x != 5) = true) (f9 : (x != 9) = true) (f10 : (code == 0) = false) :
    Calls Try.prog 21 #[.int .i64 x, .agg #[.int .i64 code, .int .i64 0, .int .u64 0, .int .u64 0, .slice da dn dc, .int .i64 number]] w fun e w' => e = .returned (.tuple #[.slice none 0 0, .int .i64 1]) ∧ Below w.heap.size w w' := by
  have q2 : wi 0 0 4611686018427387904 = true := rfl
  have q4 := neqC 0 0 0 0 0 0
  have q5 : cEq 0 0 0 0 0 0 = true := rfl
  have q6 : (code != 0) = true := by simpa using f10
  have q8 : decide (0 < (dn : Int)) = true := by simp; omega
  have q9 : decide (0 < dn) = true := by simp; omega
  go_enter Try.func21, Try.ntmps21
  go_wp2_with (first | (go_at_call 39; refine (rwithin_any _ _ _ _).mono ?_; rintro e w9 ⟨rfl, hw9⟩; obtain rfl := hw9.symm))
  exact bodyPost_ret (v := .tuple #[.slice none 0 0, .int .i64 1]) (by simp [results, Try.results21, go_sem]) rfl ⟨rfl, below1 _ _⟩
set_option maxRecDepth 100000 in
set_option maxHeartbeats 4000000 in
theorem raNxn (x : Int) (code : Int) (da : Option Addr) (dn dc : Nat) (number : Int) (w : World) (f0 : wi x 0 10 = true) (f1 : wi code 0 65535 = true) (f2 : dn < 1) (f3 : (x == 0) = false) (f4 : (x == 1) = false) (f5 : (x == 3) = false) (f6 : (x == 5) = false) (f7 : (x == 9) = false) (f8 : (x != 5) = true) (f9 : (x != 9) = true) (f10 : (code == 0) = false) (f11 : (number == 0) = false) :
    Calls Try.prog 21 #[.int .i64 x, .agg #[.int .i64 code, .int .i64 0, .int .u64 0, .int .u64 0, .slice da dn dc, .int .i64 number]] w fun e w' => e = .returned (.tuple #[.slice none 0 0, .int .i64 1]) ∧ Below w.heap.size w w' := by
  have q2 : wi 0 0 4611686018427387904 = true := rfl
  have q4 := neqC 0 0 0 0 0 0
  have q5 : cEq 0 0 0 0 0 0 = true := rfl
  have q6 : (code != 0) = true := by simpa using f10
  have q7 : (number != 0) = true := by simpa using f11
  have q8 : decide (0 < (dn : Int)) = false := by simp; omega
  have q9 : decide (0 < dn) = false := by simp; omega
  go_enter Try.func21, Try.ntmps21
  go_wp2_with (first | (go_at_call 39; refine (rwithin_any _ _ _ _).mono ?_; rintro e w9 ⟨rfl, hw9⟩; obtain rfl := hw9.symm))
  exact bodyPost_ret (v := .tuple #[.slice none 0 0, .int .i64 1]) (by simp [results, Try.results21, go_sem]) rfl ⟨rfl, below1 _ _⟩
end Go.Proofs.Ytaffgoacbiedlaa
