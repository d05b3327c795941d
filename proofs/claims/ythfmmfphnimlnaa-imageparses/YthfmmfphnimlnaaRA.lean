import Derived.Test.YthfmmfphnimlnaaIB
namespace Go.Proofs.Ythfmmfphnimlnaa
open Go.RowKit
set_option linter.unusedVariables false
set_option linter.unusedSimpArgs false
theorem rwithin_any (n a b : Int) (w : World) : Calls Try.prog 20 #[.int .i64 n, .int .i64 a, .int .i64 b] w fun e w' => e = .returned (.bool (wi n a b)) ∧ w' = w := by
  by_cases h1 : a ≤ n
  · have d1 : decide (a ≤ n) = true := decide_eq_true h1
    have e1 : wi n a b = decide (n ≤ b) := by unfold wi; rw [d1, Bool.true_and]
    rw [e1]; clear e1
    go_enter Try.func20, Try.ntmps20
    go_wp2
    go_ret
    exact ⟨rfl, rfl⟩
  · have d1 : decide (a ≤ n) = false := decide_eq_false h1
    have e1 : wi n a b = false := by unfold wi; rw [d1, Bool.false_and]
    rw [e1]; clear e1
    go_enter Try.func20, Try.ntmps20
    go_wp2
    go_ret
    exact ⟨rfl, rfl⟩
set_option maxRecDepth 100000 in
set_option maxHeartbeats 2000000 in
theorem rconfig_any (c : Cf) (w : World) : Calls Try.prog 13 #[c.v] w fun e w' => e = .returned (.bool (cfgB c)) ∧ Below w.heap.size w w' := by
  obtain ⟨c0, c1, c2, c3, c4, c5, c6, c7, c8, c9⟩ := c
  unfold cfgB Cf.v
  simp only
  have HW := hid rwithin_any
  generalize h0 : wi c0 1 128 = b0
  generalize h1 : wi c1 1 64 = b1
  generalize h2 : wi c2 1 256 = b2
  generalize h3 : wi c3 1 256 = b3
  generalize h4 : wi c4 1 256 = b4
  generalize h5 : wi c5 1 32 = b5
  generalize h6 : wi c6 1 32 = b6
  generalize h7 : wi c7 0 16 = b7
  generalize h8 : wi c8 1 4 = b8
  generalize h9 : wi c9 0 64 = b9
  have HB := hid (below1 w (Obj.cells #[.int .i64 c0, .int .i64 c1, .int .i64 c2, .int .i64 c3, .int .i64 c4, .int .i64 c5, .int .i64 c6, .int .i64 c7, .int .i64 c8, .int .i64 c9] 23))
  go_enter Try.func13, Try.ntmps13
  rcases Bool.eq_false_or_eq_true b0 with e0 | e0 <;> subst e0
  rotate_left
  · (go_wp2_with (first | (go_at_call 20; refine (HW.out _ _ _ _).mono ?_; rintro e w1 ⟨rfl, rfl⟩; first | rw [h0] | rw [h1] | rw [h2] | rw [h3] | rw [h4] | rw [h5] | rw [h6] | rw [h7] | rw [h8] | rw [h9])); go_ret; exact ⟨rfl, HB.out⟩)
  rcases Bool.eq_false_or_eq_true b1 with e1 | e1 <;> subst e1
  rotate_left
  · (go_wp2_with (first | (go_at_call 20; refine (HW.out _ _ _ _).mono ?_; rintro e w1 ⟨rfl, rfl⟩; first | rw [h0] | rw [h1] | rw [h2] | rw [h3] | rw [h4] | rw [h5] | rw [h6] | rw [h7] | rw [h8] | rw [h9])); go_ret; exact ⟨rfl, HB.out⟩)
  rcases Bool.eq_false_or_eq_true b2 with e2 | e2 <;> subst e2
  rotate_left
  · (go_wp2_with (first | (go_at_call 20; refine (HW.out _ _ _ _).mono ?_; rintro e w1 ⟨rfl, rfl⟩; first | rw [h0] | rw [h1] | rw [h2] | rw [h3] | rw [h4] | rw [h5] | rw [h6] | rw [h7] | rw [h8] | rw [h9])); go_ret; exact ⟨rfl, HB.out⟩)
  rcases Bool.eq_false_or_eq_true b3 with e3 | e3 <;> subst e3
  rotate_left
  · (go_wp2_with (first | (go_at_call 20; refine (HW.out _ _ _ _).mono ?_; rintro e w1 ⟨rfl, rfl⟩; first | rw [h0] | rw [h1] | rw [h2] | rw [h3] | rw [h4] | rw [h5] | rw [h6] | rw [h7] | rw [h8] | rw [h9])); go_ret; exact ⟨rfl, HB.out⟩)
  rcases Bool.eq_false_or_eq_true b4 with e4 | e4 <;> subst e4
  rotate_left
  · (go_wp2_with (first | (go_at_call 20; refine (HW.out _ _ _ _).mono ?_; rintro e w1 ⟨rfl, rfl⟩; first | rw [h0] | rw [h1] | rw [h2] | rw [h3] | rw [h4] | rw [h5] | rw [h6] | rw [h7] | rw [h8] | rw [h9])); go_ret; exact ⟨rfl, HB.out⟩)
  rcases Bool.eq_false_or_eq_true b5 with e5 | e5 <;> subst e5
  rotate_left
  · (go_wp2_with (first | (go_at_call 20; refine (HW.out _ _ _ _).mono ?_; rintro e w1 ⟨rfl, rfl⟩; first | rw [h0] | rw [h1] | rw [h2] | rw [h3] | rw [h4] | rw [h5] | rw [h6] | rw [h7] | rw [h8] | rw [h9])); go_ret; exact ⟨rfl, HB.out⟩)
  rcases Bool.eq_false_or_eq_true b6 with e6 | e6 <;> subst e6
  rotate_left
  · (go_wp2_with (first | (go_at_call 20; refine (HW.out _ _ _ _).mono ?_; rintro e w1 ⟨rfl, rfl⟩; first | rw [h0] | rw [h1] | rw [h2] | rw [h3] | rw [h4] | rw [h5] | rw [h6] | rw [h7] | rw [h8] | rw [h9])); go_ret; exact ⟨rfl, HB.out⟩)
  rcases Bool.eq_false_or_eq_true b7 with e7 | e7 <;> subst e7
  rotate_left
  · (go_wp2_with (first | (go_at_call 20; refine (HW.out _ _ _ _).mono ?_; rintro e w1 ⟨rfl, rfl⟩; first | rw [h0] | rw [h1] | rw [h2] | rw [h3] | rw [h4] | rw [h5] | rw [h6] | rw [h7] | rw [h8] | rw [h9])); go_ret; exact ⟨rfl, HB.out⟩)
  rcases Bool.eq_false_or_eq_true b8 with e8 | e8 <;> subst e8
  rotate_left
  · (go_wp2_with (first | (go_at_call 20; refine (HW.out _ _ _ _).mono ?_; rintro e w1 ⟨rfl, rfl⟩; first | rw [h0] | rw [h1] | rw [h2] | rw [h3] | rw [h4] | rw [h5] | rw [h6] | rw [h7] | rw [h8] | rw [h9])); go_ret; exact ⟨rfl, HB.out⟩)
  rcases Bool.eq_false_or_eq_true b9 with e9 | e9 <;> subst e9
  rotate_left
  · (go_wp2_with (first | (go_at_call 20; refine (HW.out _ _ _ _).mono ?_; rintro e w1 ⟨rfl, rfl⟩; first | rw [h0] | rw [h1] | rw [h2] | rw [h3] | rw [h4] | rw [h5] | rw [h6] | rw [h7] | rw [h8] | rw [h9])); go_ret; exact ⟨rfl, HB.out⟩)
  · (go_wp2_with (first | (go_at_call 20; refine (HW.out _ _ _ _).mono ?_; rintro e w1 ⟨rfl, rfl⟩; first | rw [h0] | rw [h1] | rw [h2] | rw [h3] | rw [h4] | rw [h5] | rw [h6] | rw [h7] | rw [h8] | rw [h9])); go_ret; exact ⟨rfl, HB.out⟩)
end Go.Proofs.Ythfmmfphnimlnaa
