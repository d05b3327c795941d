import Derived.Test.YtaffgoacbiedlaaT5
namespace Go.Proofs.Ytaffgoacbiedlaa
open Go.RowKit
set_option linter.unusedVariables false
set_option linter.unusedSimpArgs false

theorem rput0 (v : Int) (k : Nat) (w : World) (hk : k ≤ 8) : Calls Try.prog 36 #[.slice none 0 0, .int .i64 v, .int .i64 (k : Int)] w fun e w' => ∃ a' c', e = .returned (.slice a' k c') ∧ Own w' w.heap.size a' k c' (beL v k) ∧ Below w.heap.size w w' := by
  refine (rput_any none 0 0 [] v k w w.heap.size (Own.nil _ _) (Nat.le_refl _) hk (by omega)).mono ?_
  rintro e w' ⟨a', c', rfl, hown, hgr⟩
  rw [Nat.zero_add, List.nil_append] at hown
  rw [Nat.zero_add]
  exact ⟨a', c', rfl, hown, But.below (Below.refl _ _) hgr.but (fun k hk => by obtain ⟨z, hz, _⟩ := hk; cases hz)⟩
set_option maxRecDepth 100000 in
set_option maxHeartbeats 4000000 in
theorem raN0g (code : Int) (da : Option Addr) (dn dc : Nat) (w : World) (f0 : wi code 0 65535 = true) (f1 : dn < 1) (f2 : (code == 0) = false) :
    Calls Try.prog 21 #[.int .i64 0, .agg #[.int .i64 code, .int .i64 0, .int .u64 0, .int .u64 0, .slice da dn dc, .int .i64 0]] w fun e w' => ∃ a n c', e = .returned (.tuple #[.slice a n c', .int .i64 0]) ∧ Own w' w.heap.size a n c' (beL code 2) ∧ Below w.heap.size w w' := by
  have q0 : wi 0 0 10 = true := rfl
  have q2 : wi 0 0 4611686018427387904 = true := rfl
  have q3 : wi 0 0 65535 = true := rfl
  have q4 := neqC 0 0 0 0 0 0
  have q5 : cEq 0 0 0 0 0 0 = true := rfl
  have q6 : (code != 0) = true := by simpa using f2
  have q8 : decide (0 < (dn : Int)) = false := by simp; omega
  have q9 : decide (0 < dn) = false := by simp; omega
  have q10 : decide (1024 < (dn : Int)) = false := by simp; omega
  have q11 : decide (1024 < dn) = false := by simp; omega
  go_enter Try.func21, Try.ntmps21
  go_wp2_with (first | (go_at_call 39; refine (rwithin_any _ _ _ _).mono ?_; rintro e w9 ⟨rfl, hw9⟩; obtain rfl := hw9.symm) | (go_at_call 36; refine (rput0 code 2 _ (by omega)).mono ?_; rintro e w2 ⟨a2, c2, rfl, hown2, hb2⟩; have HO2 := hid (hown2.mono (show w.heap.size ≤ _ by simp)); have HB2 := hid (below_call (below1 w _) hb2); clear hown2 hb2))
  exact bodyPost_ret (v := .tuple #[.slice a2 2 c2, .int .i64 0]) (by simp [results, Try.results21, go_sem]) rfl ⟨a2, 2, c2, rfl, HO2.out, HB2.out⟩
set_option maxRecDepth 100000 in
set_option maxHeartbeats 4000000 in
theorem raN1g (code : Int) (da : Option Addr) (dn dc : Nat) (w : World) (f0 : wi code 0 65535 = true) (f1 : dn < 1) (f2 : (code == 0) = false) :
    Calls Try.prog 21 #[.int .i64 1, .agg #[.int .i64 code, .int .i64 0, .int .u64 0, .int .u64 0, .slice da dn dc, .int .i64 0]] w fun e w' => ∃ a n c', e = .returned (.tuple #[.slice a n c', .int .i64 0]) ∧ Own w' w.heap.size a n c' (beL code 2) ∧ Below w.heap.size w w' := by
  have q0 : wi 1 0 10 = true := rfl
  have q2 : wi 0 0 4611686018427387904 = true := rfl
  have q3 : wi 0 0 65535 = true := rfl
  have q4 := neqC 0 0 0 0 0 0
  have q5 : cEq 0 0 0 0 0 0 = true := rfl
  have q6 : (code != 0) = true := by simpa using f2
  have q8 : decide (0 < (dn : Int)) = false := by simp; omega
  have q9 : decide (0 < dn) = false := by simp; omega
  have q10 : decide (1024 < (dn : Int)) = false := by simp; omega
  have q11 : decide (1024 < dn) = false := by simp; omega
  go_enter Try.func21, Try.ntmps21
  go_wp2_with (first | (go_at_call 39; refine (rwithin_any _ _ _ _).mono ?_; rintro e w9 ⟨rfl, hw9⟩; obtain rfl := hw9.symm) | (go_at_call 36; refine (rput0 code 2 _ (by omega)).mono ?_; rintro e w2 ⟨a2, c2, rfl, hown2, hb2⟩; have HO2 := hid (hown2.mono (show w.heap.size ≤ _ by simp)); have HB2 := hid (below_call (below1 w _) hb2); clear hown2 hb2))
  exact bodyPost_ret (v := .tuple #[.slice a2 2 c2, .int .i64 0]) (by simp [results, Try.results21, go_sem]) rfl ⟨a2, 2, c2, rfl, HO2.out, HB2.out⟩
set_option maxRecDepth 100000 in
set_option maxHeartbeats 4000000 in
theorem raN3g (code : Int) (da : Option Addr) (dn dc : Nat) (w : World) (f0 : wi code 0 65535 = true) (f1 : dn < 1) (f2 : (code == 0) = false) :
    Calls Try.prog 21 #[.int .i64 3, .agg #[.int .i64 code, .int .i64 0, .int .u64 0, .int .u64 0, .slice da dn dc, .int .i64 0]] w fun e w' => ∃ a n c', e = .returned (.tuple #[.slice a n c', .int .i64 0]) ∧ Own w' w.heap.size a n c' (beL code 2) ∧ Below w.heap.size w w' := by
  have q0 : wi 3 0 10 = true := rfl
  have q2 : wi 0 0 4611686018427387904 = true := rfl
  have q3 : wi 0 0 65535 = true := rfl
  have q4 := neqC 0 0 0 0 0 0
  have q5 : cEq 0 0 0 0 0 0 = true := rfl
  have q6 : (code != 0) = true := by simpa using f2
  have q8 : decide (0 < (dn : Int)) = false := by simp; omega
  have q9 : decide (0 < dn) = false := by simp; omega
  have q10 : decide (1024 < (dn : Int)) = false := by simp; omega
  have q11 : decide (1024 < dn) = false := by simp; omega
  go_enter Try.func21, Try.ntmps21
  go_wp2_with (first | (go_at_call 39; refine (rwithin_any _ _ _ _).mono ?_; rintro e w9 ⟨rfl, hw9⟩; obtain rfl := hw9.symm) | (go_at_call 36; refine (rput0 code 2 _ (by omega)).mono ?_; rintro e w2 ⟨a2, c2, rfl, hown2, hb2⟩; have HO2 := hid (hown2.mono (show w.heap.size ≤ _ by simp)); have HB2 := hid (below_call (below1 w _) hb2); clear hown2 hb2))
  exact bodyPost_ret (v := .tuple #[.slice a2 2 c2, .int .i64 0]) (by simp [results, Try.results21, go_sem]) rfl ⟨a2, 2, c2, rfl, HO2.out, HB2.out⟩
set_option maxRecDepth 100000 in
set_option maxHeartbeats 4000000 in
theorem raN5g (code : Int) (da : Option Addr) (dn dc : Nat) (w : World) (f0 : wi code 0 65535 = true) (f1 : dn < 1) (f2 : (code == 0) = false) :
    Calls Try.prog 21 #[.int .i64 5, .agg #[.int .i64 code, .int .i64 0, .int .u64 0, .int .u64 0, .slice da dn dc, .int .i64 0]] w fun e w' => ∃ a n c', e = .returned (.tuple #[.slice a n c', .int .i64 0]) ∧ Own w' w.heap.size a n c' (beL code 2) ∧ Below w.heap.size w w' := by
  have q0 : wi 5 0 10 = true := rfl
  have q2 : wi 0 0 4611686018427387904 = true := rfl
  have q3 : wi 0 0 65535 = true := rfl
  have q4 := neqC 0 0 0 0 0 0
  have q5 : cEq 0 0 0 0 0 0 = true := rfl
  have q6 : (code != 0) = true := by simpa using f2
  have q8 : decide (0 < (dn : Int)) = false := by simp; omega
  have q9 : decide (0 < dn) = false := by simp; omega
  have q10 : decide (1024 < (dn : Int)) = false := by simp; omega
  have q11 : decide (1024 < dn) = false := by simp; omega
  go_enter Try.func21, Try.ntmps21
  go_wp2_with (first | (go_at_call 39; refine (rwithin_any _ _ _ _).mono ?_; rintro e w9 ⟨rfl, hw9⟩; obtain rfl := hw9.symm) | (go_at_call 36; refine (rput0 code 2 _ (by omega)).mono ?_; rintro e w2 ⟨a2, c2, rfl, hown2, hb2⟩; have HO2 := hid (hown2.mono (show w.heap.size ≤ _ by simp)); have HB2 := hid (below_call (below1 w _) hb2); clear hown2 hb2))
  exact bodyPost_ret (v := .tuple #[.slice a2 2 c2, .int .i64 0]) (by simp [results, Try.results21, go_sem]) rfl ⟨a2, 2, c2, rfl, HO2.out, HB2.out⟩
set_option maxRecDepth 100000 in
set_option maxHeartbeats 4000000 in
theorem raN9g (code : Int) (da : Option Addr) (dn dc : Nat) (w : World) (f0 : wi code 0 65535 = true) (f1 : dn < 1) (f2 : (code == 0) = false) :
    Calls Try.prog 21 #[.int .i64 9, .agg #[.int .i64 code, .int .i64 0, .int .u64 0, .int .u64 0, .slice da dn dc, .int .i64 0]] w fun e w' => ∃ a n c', e = .returned (.tuple #[.slice a n c', .int .i64 0]) ∧ Own w' w.heap.size a n c' (beL code 2) ∧ Below w.heap.size w w' := by
  have q0 : wi 9 0 10 = true := rfl
  have q2 : wi 0 0 4611686018427387904 = true := rfl
  have q3 : wi 0 0 65535 = true := rfl
  have q4 := neqC 0 0 0 0 0 0
  have q5 : cEq 0 0 0 0 0 0 = true := rfl
  have q6 : (code != 0) = true := by simpa using f2
  have q8 : decide (0 < (dn : Int)) = false := by simp; omega
  have q9 : decide (0 < dn) = false := by simp; omega
  have q10 : decide (1024 < (dn : Int)) = false := by simp; omega
  have q11 : decide (1024 < dn) = false := by simp; omega
  go_enter Try.func21, Try.ntmps21
  go_wp2_with (first | (go_at_call 39; refine (rwithin_any _ _ _ _).mono ?_; rintro e w9 ⟨rfl, hw9⟩; obtain rfl := hw9.symm) | (go_at_call 36; refine (rput0 code 2 _ (by omega)).mono ?_; rintro e w2 ⟨a2, c2, rfl, hown2, hb2⟩; have HO2 := hid (hown2.mono (show w.heap.size ≤ _ by simp)); have HB2 := hid (below_call (below1 w _) hb2); clear hown2 hb2))
  exact bodyPost_ret (v := .tuple #[.slice a2 2 c2, .int .i64 0]) (by simp [results, Try.results21, go_sem]) rfl ⟨a2, 2, c2, rfl, HO2.out, HB2.out⟩
set_option maxRecDepth 100000 in
set_option maxHeartbeats 4000000 in
theorem raNxg (x : Int) (code : Int) (da : Option Addr) (dn dc : Nat) (w : World) (f0 : wi x 0 10 = true) (f1 : wi code 0 65535 = true) (f2 : dn < 1) (f3 : (x == 0) = false) (f4 : (x == 1) = false) (f5 : (x == 3) = false) (f6 : (x == 5) = false) (f7 : (x == 9) = false) (f8 : (x != 5) = true) (f9 : (x != 9) = true) (f10 : (code == 0) = false) :
    Calls Try.prog 21 #[.int .i64 x, .agg #[.int .i64 code, .int .i64 0, .int .u64 0, .int .u64 0, .slice da dn dc, .int .i64 0]] w fun e w' => ∃ a n c', e = .returned (.tuple #[.slice a n c', .int .i64 0]) ∧ Own w' w.heap.size a n c' (beL code 2) ∧ Below w.heap.size w w' := by
  have q2 : wi 0 0 4611686018427387904 = true := rfl
  have q3 : wi 0 0 65535 = true := rfl
  have q4 := neqC 0 0 0 0 0 0
  have q5 : cEq 0 0 0 0 0 0 = true := rfl
  have q6 : (code != 0) = true := by simpa using f10
  have q8 : decide (0 < (dn : Int)) = false := by simp; omega
  have q9 : decide (0 < dn) = false := by simp; omega
  have q10 : decide (1024 < (dn : Int)) = false := by simp; omega
  have q11 : decide (1024 < dn) = false := by simp; omega
  go_enter Try.func21, Try.ntmps21
  go_wp2_with (first | (go_at_call 39; refine (rwithin_any _ _ _ _).mono ?_; rintro e w9 ⟨rfl, hw9⟩; obtain rfl := hw9.symm) | (go_at_call 36; refine (rput0 code 2 _ (by omega)).mono ?_; rintro e w2 ⟨a2, c2, rfl, hown2, hb2⟩; have HO2 := hid (hown2.mono (show w.heap.size ≤ _ by simp)); have HB2 := hid (below_call (below1 w _) hb2); clear hown2 hb2))
  exact bodyPost_ret (v := .tuple #[.slice a2 2 c2, .int .i64 0]) (by simp [results, Try.results21, go_sem]) rfl ⟨a2, 2, c2, rfl, HO2.out, HB2.out⟩
set_option maxRecDepth 100000 in
set_option maxHeartbeats 4000000 in
theorem raZ1vg (o : Nat) (hi lo : Nat) (da : Option Addr) (dn dc : Nat) (w : World) (f0 : dn < 1) (f1 : wi (o : Int) 0 4611686018427387904 = true) (f2 : cEq (o : Int) (hi : Int) (lo : Int) 0 0 0 = false) (h1 : hi < 18446744073709551616) (h2 : lo < 18446744073709551616) :
    Calls Try.prog 21 #[.int .i64 1, .agg #[.int .i64 0, .int .i64 (o : Int), .int .u64 (hi : Int), .int .u64 (lo : Int), .slice da dn dc, .int .i64 0]] w fun e w' => ∃ a n c', e = .returned (.tuple #[.slice a n c', .int .i64 0]) ∧ Own w' w.heap.size a n c' (beL 0 2 ++ (leL o 8 ++ leL lo 8 ++ leL hi 8)) ∧ Below w.heap.size w w' := by
  have q0 : wi 1 0 10 = true := rfl
  have q1 : wi 0 0 65535 = true := rfl
  have q3 : wi 0 0 65535 = true := rfl
  have q4 := neqC (o : Int) (hi : Int) (lo : Int) 0 0 0
  have q8 : decide (0 < (dn : Int)) = false := by simp; omega
  have q9 : decide (0 < dn) = false := by simp; omega
  have q10 : decide (1024 < (dn : Int)) = false := by simp; omega
  have q11 : decide (1024 < dn) = false := by simp; omega
  go_enter Try.func21, Try.ntmps21
  go_wp2_with (first | (go_at_call 39; refine (rwithin_any _ _ _ _).mono ?_; rintro e w9 ⟨rfl, hw9⟩; obtain rfl := hw9.symm) | (go_at_call 36; refine (rput0 0 2 _ (by omega)).mono ?_; rintro e w2 ⟨a2, c2, rfl, hown2, hb2⟩; have HO2 := hid (hown2.mono (show w.heap.size ≤ _ by simp)); have HB2 := hid (below_call (below1 w _) hb2); have X2 := (Bx.new w [.int .i64 0, .int .i64 (o : Int), .int .u64 (hi : Int), .int .u64 (lo : Int), .slice da dn dc, .int .i64 0] 30).later hb2; have z1 : w2.cell? ⟨w.heap.size, 1, none⟩ = some (.int .i64 (o : Int)) := X2.cell 1 rfl; have z2 : w2.cell? ⟨w.heap.size, 2, none⟩ = some (.int .u64 (hi : Int)) := X2.cell 2 rfl; have z3 : w2.cell? ⟨w.heap.size, 3, none⟩ = some (.int .u64 (lo : Int)) := X2.cell 3 rfl; clear X2; clear hown2 hb2) | (go_at_call 37; refine (capped_any a2 2 c2 (beL 0 2) o hi lo _ w.heap.size HO2.out HB2.out.size (by omega) h1 h2).mono ?_; rintro e w3 ⟨a3, c3, rfl, hown3, hgr3⟩; have HO3 := hid hown3; have HB3 := hid (But.below HB2.out hgr3.but (fun k hk => HO2.out.blk k hk)); clear hown3 hgr3))
  exact bodyPost_ret (v := .tuple #[.slice a3 26 c3, .int .i64 0]) (by simp [results, Try.results21, go_sem]) rfl ⟨a3, 26, c3, rfl, HO3.out, HB3.out⟩
set_option maxRecDepth 100000 in
set_option maxHeartbeats 4000000 in
theorem raZ1zg (da : Option Addr) (dn dc : Nat) (w : World) (f0 : dn < 1) :
    Calls Try.prog 21 #[.int .i64 1, .agg #[.int .i64 0, .int .i64 0, .int .u64 0, .int .u64 0, .slice da dn dc, .int .i64 0]] w fun e w' => ∃ a n c', e = .returned (.tuple #[.slice a n c', .int .i64 0]) ∧ Own w' w.heap.size a n c' (beL 0 2 ++ (leL 0 8 ++ leL 0 8 ++ leL 0 8)) ∧ Below w.heap.size w w' := by
  have q0 : wi 1 0 10 = true := rfl
  have q1 : wi 0 0 65535 = true := rfl
  have q2 : wi 0 0 4611686018427387904 = true := rfl
  have q3 : wi 0 0 65535 = true := rfl
  have q4 := neqC 0 0 0 0 0 0
  have q5 : cEq 0 0 0 0 0 0 = true := rfl
  have q8 : decide (0 < (dn : Int)) = false := by simp; omega
  have q9 : decide (0 < dn) = false := by simp; omega
  have q10 : decide (1024 < (dn : Int)) = false := by simp; omega
  have q11 : decide (1024 < dn) = false := by simp; omega
  go_enter Try.func21, Try.ntmps21
  go_wp2_with (first | (go_at_call 39; refine (rwithin_any _ _ _ _).mono ?_; rintro e w9 ⟨rfl, hw9⟩; obtain rfl := hw9.symm) | (go_at_call 36; refine (rput0 0 2 _ (by omega)).mono ?_; rintro e w2 ⟨a2, c2, rfl, hown2, hb2⟩; have HO2 := hid (hown2.mono (show w.heap.size ≤ _ by simp)); have HB2 := hid (below_call (below1 w _) hb2); have X2 := (Bx.new w [.int .i64 0, .int .i64 0, .int .u64 0, .int .u64 0, .slice da dn dc, .int .i64 0] 30).later hb2; have z1 : w2.cell? ⟨w.heap.size, 1, none⟩ = some (.int .i64 0) := X2.cell 1 rfl; have z2 : w2.cell? ⟨w.heap.size, 2, none⟩ = some (.int .u64 0) := X2.cell 2 rfl; have z3 : w2.cell? ⟨w.heap.size, 3, none⟩ = some (.int .u64 0) := X2.cell 3 rfl; clear X2; clear hown2 hb2) | (go_at_call 37; refine (capped_any a2 2 c2 (beL 0 2) 0 0 0 _ w.heap.size HO2.out HB2.out.size (by omega) (by omega) (by omega)).mono ?_; rintro e w3 ⟨a3, c3, rfl, hown3, hgr3⟩; have HO3 := hid hown3; have HB3 := hid (But.below HB2.out hgr3.but (fun k hk => HO2.out.blk k hk)); clear hown3 hgr3))
  exact bodyPost_ret (v := .tuple #[.slice a3 26 c3, .int .i64 0]) (by simp [results, Try.results21, go_sem]) rfl ⟨a3, 26, c3, rfl, HO3.out, HB3.out⟩
set_option maxRecDepth 100000 in
set_option maxHeartbeats 4000000 in
theorem raZ3vg (o : Nat) (hi lo : Nat) (da : Option Addr) (dn dc : Nat) (w : World) (f0 : dn < 1) (f1 : wi (o : Int) 0 4611686018427387904 = true) (f2 : cEq (o : Int) (hi : Int) (lo : Int) 0 0 0 = false) (h1 : hi < 18446744073709551616) (h2 : lo < 18446744073709551616) :
    Calls Try.prog 21 #[.int .i64 3, .agg #[.int .i64 0, .int .i64 (o : Int), .int .u64 (hi : Int), .int .u64 (lo : Int), .slice da dn dc, .int .i64 0]] w fun e w' => ∃ a n c', e = .returned (.tuple #[.slice a n c', .int .i64 0]) ∧ Own w' w.heap.size a n c' (beL 0 2 ++ (leL o 8 ++ leL lo 8 ++ leL hi 8)) ∧ Below w.heap.size w w' := by
  have q0 : wi 3 0 10 = true := rfl
  have q1 : wi 0 0 65535 = true := rfl
  have q3 : wi 0 0 65535 = true := rfl
  have q4 := neqC (o : Int) (hi : Int) (lo : Int) 0 0 0
  have q8 : decide (0 < (dn : Int)) = false := by simp; omega
  have q9 : decide (0 < dn) = false := by simp; omega
  have q10 : decide (1024 < (dn : Int)) = false := by simp; omega
  have q11 : decide (1024 < dn) = false := by simp; omega
  go_enter Try.func21, Try.ntmps21
  go_wp2_with (first | (go_at_call 39; refine (rwithin_any _ _ _ _).mono ?_; rintro e w9 ⟨rfl, hw9⟩; obtain rfl := hw9.symm) | (go_at_call 36; refine (rput0 0 2 _ (by omega)).mono ?_; rintro e w2 ⟨a2, c2, rfl, hown2, hb2⟩; have HO2 := hid (hown2.mono (show w.heap.size ≤ _ by simp)); have HB2 := hid (below_call (below1 w _) hb2); have X2 := (Bx.new w [.int .i64 0, .int .i64 (o : Int), .int .u64 (hi : Int), .int .u64 (lo : Int), .slice da dn dc, .int .i64 0] 30).later hb2; have z1 : w2.cell? ⟨w.heap.size, 1, none⟩ = some (.int .i64 (o : Int)) := X2.cell 1 rfl; have z2 : w2.cell? ⟨w.heap.size, 2, none⟩ = some (.int .u64 (hi : Int)) := X2.cell 2 rfl; have z3 : w2.cell? ⟨w.heap.size, 3, none⟩ = some (.int .u64 (lo : Int)) := X2.cell 3 rfl; clear X2; clear hown2 hb2) | (go_at_call 37; refine (capped_any a2 2 c2 (beL 0 2) o hi lo _ w.heap.size HO2.out HB2.out.size (by omega) h1 h2).mono ?_; rintro e w3 ⟨a3, c3, rfl, hown3, hgr3⟩; have HO3 := hid hown3; have HB3 := hid (But.below HB2.out hgr3.but (fun k hk => HO2.out.blk k hk)); clear hown3 hgr3))
  exact bodyPost_ret (v := .tuple #[.slice a3 26 c3, .int .i64 0]) (by simp [results, Try.results21, go_sem]) rfl ⟨a3, 26, c3, rfl, HO3.out, HB3.out⟩
set_option maxRecDepth 100000 in
set_option maxHeartbeats 4000000 in
theorem raZ3zg (da : Option Addr) (dn dc : Nat) (w : World) (f0 : dn < 1) :
    Calls Try.prog 21 #[.int .i64 3, .agg #[.int .i64 0, .int .i64 0, .int .u64 0, .int .u64 0, .slice da dn dc, .int .i64 0]] w fun e w' => ∃ a n c', e = .returned (.tuple #[.slice a n c', .int .i64 0]) ∧ Own w' w.heap.size a n c' (beL 0 2 ++ (leL 0 8 ++ leL 0 8 ++ leL 0 8)) ∧ Below w.heap.size w w' := by
  have q0 : wi 3 0 10 = true := rfl
  have q1 : wi 0 0 65535 = true := rfl
  have q2 : wi 0 0 4611686018427387904 = true := rfl
  have q3 : wi 0 0 65535 = true := rfl
  have q4 := neqC 0 0 0 0 0 0
  have q5 : cEq 0 0 0 0 0 0 = true := rfl
  have q8 : decide (0 < (dn : Int)) = false := by simp; omega
  have q9 : decide (0 < dn) = false := by simp; omega
  have q10 : decide (1024 < (dn : Int)) = false := by simp; omega
  have q11 : decide (1024 < dn) = false := by simp; omega
  go_enter Try.func21, Try.ntmps21
  go_wp2_with (first | (go_at_call 39; refine (rwithin_any _ _ _ _).mono ?_; rintro e w9 ⟨rfl, hw9⟩; obtain rfl := hw9.symm) | (go_at_call 36; refine (rput0 0 2 _ (by omega)).mono ?_; rintro e w2 ⟨a2, c2, rfl, hown2, hb2⟩; have HO2 := hid (hown2.mono (show w.heap.size ≤ _ by simp)); have HB2 := hid (below_call (below1 w _) hb2); have X2 := (Bx.new w [.int .i64 0, .int .i64 0, .int .u64 0, .int .u64 0, .slice da dn dc, .int .i64 0] 30).later hb2; have z1 : w2.cell? ⟨w.heap.size, 1, none⟩ = some (.int .i64 0) := X2.cell 1 rfl; have z2 : w2.cell? ⟨w.heap.size, 2, none⟩ = some (.int .u64 0) := X2.cell 2 rfl; have z3 : w2.cell? ⟨w.heap.size, 3, none⟩ = some (.int .u64 0) := X2.cell 3 rfl; clear X2; clear hown2 hb2) | (go_at_call 37; refine (capped_any a2 2 c2 (beL 0 2) 0 0 0 _ w.heap.size HO2.out HB2.out.size (by omega) (by omega) (by omega)).mono ?_; rintro e w3 ⟨a3, c3, rfl, hown3, hgr3⟩; have HO3 := hid hown3; have HB3 := hid (But.below HB2.out hgr3.but (fun k hk => HO2.out.blk k hk)); clear hown3 hgr3))
  exact bodyPost_ret (v := .tuple #[.slice a3 26 c3, .int .i64 0]) (by simp [results, Try.results21, go_sem]) rfl ⟨a3, 26, c3, rfl, HO3.out, HB3.out⟩
set_option maxRecDepth 100000 in
set_option maxHeartbeats 4000000 in
theorem raZ5gv (da : Option Addr) (dn dc : Nat) (w : World) (f0 : 0 < dn) (f1 : dn ≤ 1024) (D : List Nat) (hD : Row w da dn dc D) :
    Calls Try.prog 21 #[.int .i64 5, .agg #[.int .i64 0, .int .i64 0, .int .u64 0, .int .u64 0, .slice da dn dc, .int .i64 0]] w fun e w' => ∃ a n c', e = .returned (.tuple #[.slice a n c', .int .i64 0]) ∧ Own w' w.heap.size a n c' (beL 0 2 ++ D) ∧ Below w.heap.size w w' := by
  have HD := hid hD
  clear hD
  have q0 : wi 5 0 10 = true := rfl
  have q1 : wi 0 0 65535 = true := rfl
  have q2 : wi 0 0 4611686018427387904 = true := rfl
  have q3 : wi 0 0 65535 = true := rfl
  have q4 := neqC 0 0 0 0 0 0
  have q5 : cEq 0 0 0 0 0 0 = true := rfl
  have q8 : decide (0 < (dn : Int)) = true := by simp; omega
  have q9 : decide (0 < dn) = true := by simp; omega
  have q10 : decide (1024 < (dn : Int)) = false := by simp; omega
  have q11 : decide (1024 < dn) = false := by simp; omega
  go_enter Try.func21, Try.ntmps21
  go_wp2_with (first | (go_at_call 39; refine (rwithin_any _ _ _ _).mono ?_; rintro e w9 ⟨rfl, hw9⟩; obtain rfl := hw9.symm) | (go_at_call 36; refine (rput0 0 2 _ (by omega)).mono ?_; rintro e w2 ⟨a2, c2, rfl, hown2, hb2⟩; have HO2 := hid (hown2.mono (show w.heap.size ≤ _ by simp)); have HB2 := hid (below_call (below1 w _) hb2); have X2 := (Bx.new w [.int .i64 0, .int .i64 0, .int .u64 0, .int .u64 0, .slice da dn dc, .int .i64 0] 30).later hb2; have z4 : w2.cell? ⟨w.heap.size, 4, none⟩ = some (.slice da dn dc) := X2.cell 4 rfl; clear X2; obtain ⟨a3, c3, w3, hrun, hown3, hgr3⟩ := append_any HO2.out (HD.out.later HB2.out) HB2.out.size (by omega); have HRUN := hid hrun; have HO3 := hid hown3; have HB3 := hid (But.below HB2.out hgr3.but (fun k hk => HO2.out.blk k hk)); clear hrun hown3 hgr3; clear hown2 hb2) | (at_builtin; refine wpList_append_known rfl _ _ 28 rfl _ _ rfl rfl _ w3 HRUN.out ?_))
  exact bodyPost_ret (v := .tuple #[.slice a3 (2 + dn) c3, .int .i64 0]) (by simp [results, Try.results21, go_sem]) rfl ⟨a3, 2 + dn, c3, rfl, HO3.out, HB3.out⟩
set_option maxRecDepth 100000 in
set_option maxHeartbeats 4000000 in
theorem raZ5gz (da : Option Addr) (dn dc : Nat) (w : World) (f0 : dn < 1) (D : List Nat) (hD : Row w da dn dc D) :
    Calls Try.prog 21 #[.int .i64 5, .agg #[.int .i64 0, .int .i64 0, .int .u64 0, .int .u64 0, .slice da dn dc, .int .i64 0]] w fun e w' => ∃ a n c', e = .returned (.tuple #[.slice a n c', .int .i64 0]) ∧ Own w' w.heap.size a n c' (beL 0 2 ++ D) ∧ Below w.heap.size w w' := by
  have HD := hid hD
  clear hD
  have q0 : wi 5 0 10 = true := rfl
  have q1 : wi 0 0 65535 = true := rfl
  have q2 : wi 0 0 4611686018427387904 = true := rfl
  have q3 : wi 0 0 65535 = true := rfl
  have q4 := neqC 0 0 0 0 0 0
  have q5 : cEq 0 0 0 0 0 0 = true := rfl
  have q8 : decide (0 < (dn : Int)) = false := by simp; omega
  have q9 : decide (0 < dn) = false := by simp; omega
  have q10 : decide (1024 < (dn : Int)) = false := by simp; omega
  have q11 : decide (1024 < dn) = false := by simp; omega
  go_enter Try.func21, Try.ntmps21
  go_wp2_with (first | (go_at_call 39; refine (rwithin_any _ _ _ _).mono ?_; rintro e w9 ⟨rfl, hw9⟩; obtain rfl := hw9.symm) | (go_at_call 36; refine (rput0 0 2 _ (by omega)).mono ?_; rintro e w2 ⟨a2, c2, rfl, hown2, hb2⟩; have HO2 := hid (hown2.mono (show w.heap.size ≤ _ by simp)); have HB2 := hid (below_call (below1 w _) hb2); have X2 := (Bx.new w [.int .i64 0, .int .i64 0, .int .u64 0, .int .u64 0, .slice da dn dc, .int .i64 0] 30).later hb2; have z4 : w2.cell? ⟨w.heap.size, 4, none⟩ = some (.slice da dn dc) := X2.cell 4 rfl; clear X2; obtain ⟨a3, c3, w3, hrun, hown3, hgr3⟩ := append_any HO2.out (HD.out.later HB2.out) HB2.out.size (by omega); have HRUN := hid hrun; have HO3 := hid hown3; have HB3 := hid (But.below HB2.out hgr3.but (fun k hk => HO2.out.blk k hk)); clear hrun hown3 hgr3; clear hown2 hb2) | (at_builtin; refine wpList_append_known rfl _ _ 28 rfl _ _ rfl rfl _ w3 HRUN.out ?_))
  exact bodyPost_ret (v := .tuple #[.slice a3 (2 + dn) c3, .int .i64 0]) (by simp [results, Try.results21, go_sem]) rfl ⟨a3, 2 + dn, c3, rfl, HO3.out, HB3.out⟩
set_option maxRecDepth 100000 in
set_option maxHeartbeats 4000000 in
theorem raZ9gv (da : Option Addr) (dn dc : Nat) (m : Nat) (w : World) (f0 : dn < 1) (f1 : wi (m : Int) 0 65535 = true) (f2 : ((m : Int) == 0) = false) :
    Calls Try.prog 21 #[.int .i64 9, .agg #[.int .i64 0, .int .i64 0, .int .u64 0, .int .u64 0, .slice da dn dc, .int .i64 (m : Int)]] w fun e w' => ∃ a n c', e = .returned (.tuple #[.slice a n c', .int .i64 0]) ∧ Own w' w.heap.size a n c' (beL 0 2 ++ beL (m : Int) 2) ∧ Below w.heap.size w w' := by
  have mk0 := hid True.intro
  have q0 : wi 9 0 10 = true := rfl
  have q1 : wi 0 0 65535 = true := rfl
  have q2 : wi 0 0 4611686018427387904 = true := rfl
  have q4 := neqC 0 0 0 0 0 0
  have q5 : cEq 0 0 0 0 0 0 = true := rfl
  have q7 : ((m : Int) != 0) = true := by simpa using f2
  have q8 : decide (0 < (dn : Int)) = false := by simp; omega
  have q9 : decide (0 < dn) = false := by simp; omega
  have q10 : decide (1024 < (dn : Int)) = false := by simp; omega
  have q11 : decide (1024 < dn) = false := by simp; omega
  go_enter Try.func21, Try.ntmps21
  go_wp2_with (first | (go_at_call 39; refine (rwithin_any _ _ _ _).mono ?_; rintro e w9 ⟨rfl, hw9⟩; obtain rfl := hw9.symm) | (clear mk1; go_at_call 36; refine (rput_any a2 2 c2 (beL 0 2) (m : Int) 2 _ w.heap.size HO2.out HB2.out.size (by omega) (by omega)).mono ?_; rintro e w3 ⟨a3, c3, rfl, hown3, hgr3⟩; have HO3 := hid hown3; have HB3 := hid (But.below HB2.out hgr3.but (fun k hk => HO2.out.blk k hk)); clear hown3 hgr3) | (clear mk0; go_at_call 36; refine (rput0 0 2 _ (by omega)).mono ?_; rintro e w2 ⟨a2, c2, rfl, hown2, hb2⟩; have HO2 := hid (hown2.mono (show w.heap.size ≤ _ by simp)); have HB2 := hid (below_call (below1 w _) hb2); have X2 := (Bx.new w [.int .i64 0, .int .i64 0, .int .u64 0, .int .u64 0, .slice da dn dc, .int .i64 (m : Int)] 30).later hb2; have z5 : w2.cell? ⟨w.heap.size, 5, none⟩ = some (.int .i64 (m : Int)) := X2.cell 5 rfl; clear X2; have mk1 := hid True.intro; clear hown2 hb2))
  exact bodyPost_ret (v := .tuple #[.slice a3 4 c3, .int .i64 0]) (by simp [results, Try.results21, go_sem]) rfl ⟨a3, 4, c3, rfl, HO3.out, HB3.out⟩
set_option maxRecDepth 100000 in
set_option maxHeartbeats 4000000 in
theorem raZ9gz (da : Option Addr) (dn dc : Nat) (w : World) (f0 : dn < 1) :
    Calls Try.prog 21 #[.int .i64 9, .agg #[.int .i64 0, .int .i64 0, .int .u64 0, .int .u64 0, .slice da dn dc, .int .i64 0]] w fun e w' => ∃ a n c', e = .returned (.tuple #[.slice a n c', .int .i64 0]) ∧ Own w' w.heap.size a n c' (beL 0 2 ++ beL 0 2) ∧ Below w.heap.size w w' := by
  have mk0 := hid True.intro
  have q0 : wi 9 0 10 = true := rfl
  have q1 : wi 0 0 65535 = true := rfl
  have q2 : wi 0 0 4611686018427387904 = true := rfl
  have q3 : wi 0 0 65535 = true := rfl
  have q4 := neqC 0 0 0 0 0 0
  have q5 : cEq 0 0 0 0 0 0 = true := rfl
  have q8 : decide (0 < (dn : Int)) = false := by simp; omega
  have q9 : decide (0 < dn) = false := by simp; omega
  have q10 : decide (1024 < (dn : Int)) = false := by simp; omega
  have q11 : decide (1024 < dn) = false := by simp; omega
  go_enter Try.func21, Try.ntmps21
  go_wp2_with (first | (go_at_call 39; refine (rwithin_any _ _ _ _).mono ?_; rintro e w9 ⟨rfl, hw9⟩; obtain rfl := hw9.symm) | (clear mk1; go_at_call 36; refine (rput_any a2 2 c2 (beL 0 2) 0 2 _ w.heap.size HO2.out HB2.out.size (by omega) (by omega)).mono ?_; rintro e w3 ⟨a3, c3, rfl, hown3, hgr3⟩; have HO3 := hid hown3; have HB3 := hid (But.below HB2.out hgr3.but (fun k hk => HO2.out.blk k hk)); clear hown3 hgr3) | (clear mk0; go_at_call 36; refine (rput0 0 2 _ (by omega)).mono ?_; rintro e w2 ⟨a2, c2, rfl, hown2, hb2⟩; have HO2 := hid (hown2.mono (show w.heap.size ≤ _ by simp)); have HB2 := hid (below_call (below1 w _) hb2); have X2 := (Bx.new w [.int .i64 0, .int .i64 0, .int .u64 0, .int .u64 0, .slice da dn dc, .int .i64 0] 30).later hb2; have z5 : w2.cell? ⟨w.heap.size, 5, none⟩ = some (.int .i64 0) := X2.cell 5 rfl; clear X2; have mk1 := hid True.intro; clear hown2 hb2))
  exact bodyPost_ret (v := .tuple #[.slice a3 4 c3, .int .i64 0]) (by simp [results, Try.results21, go_sem]) rfl ⟨a3, 4, c3, rfl, HO3.out, HB3.out⟩
set_option maxRecDepth 100000 in
set_option maxHeartbeats 4000000 in
theorem raZxg (x : Int) (da : Option Addr) (dn dc : Nat) (w : World) (f0 : wi x 0 10 = true) (f1 : dn < 1) (f2 : (x == 0) = false) (f3 : (x == 1) = false) (f4 : (x == 3) = false) (f5 : (x == 5) = false) (f6 : (x == 9) = false) (f7 : (x != 5) = true) (f8 : (x != 9) = true) :
    Calls Try.prog 21 #[.int .i64 x, .agg #[.int .i64 0, .int .i64 0, .int .u64 0, .int .u64 0, .slice da dn dc, .int .i64 0]] w fun e w' => ∃ a n c', e = .returned (.tuple #[.slice a n c', .int .i64 0]) ∧ Own w' w.heap.size a n c' (beL 0 2) ∧ Below w.heap.size w w' := by
  have q1 : wi 0 0 65535 = true := rfl
  have q2 : wi 0 0 4611686018427387904 = true := rfl
  have q3 : wi 0 0 65535 = true := rfl
  have q4 := neqC 0 0 0 0 0 0
  have q5 : cEq 0 0 0 0 0 0 = true := rfl
  have q8 : decide (0 < (dn : Int)) = false := by simp; omega
  have q9 : decide (0 < dn) = false := by simp; omega
  have q10 : decide (1024 < (dn : Int)) = false := by simp; omega
  have q11 : decide (1024 < dn) = false := by simp; omega
  go_enter Try.func21, Try.ntmps21
  go_wp2_with (first | (go_at_call 39; refine (rwithin_any _ _ _ _).mono ?_; rintro e w9 ⟨rfl, hw9⟩; obtain rfl := hw9.symm) | (go_at_call 36; refine (rput0 0 2 _ (by omega)).mono ?_; rintro e w2 ⟨a2, c2, rfl, hown2, hb2⟩; have HO2 := hid (hown2.mono (show w.heap.size ≤ _ by simp)); have HB2 := hid (below_call (below1 w _) hb2); clear hown2 hb2))
  exact bodyPost_ret (v := .tuple #[.slice a2 2 c2, .int .i64 0]) (by simp [results, Try.results21, go_sem]) rfl ⟨a2, 2, c2, rfl, HO2.out, HB2.out⟩
end Go.Proofs.Ytaffgoacbiedlaa
