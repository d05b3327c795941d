import Derived.Test.YthfmmfphnimlnaaIA
namespace Go.Proofs.Ythfmmfphnimlnaa
open Go.RowKit
set_option linter.unusedVariables false
theorem infoO : (Try.prog.info? 60).map (·.size) = some 2 := by kernel_rfl
theorem infoT : (Try.prog.info? 67).map (·.size) = some 5 := by kernel_rfl
theorem infoP : (Try.prog.info? 51).map (·.size) = some 2 := by kernel_rfl
theorem infoC : (Try.prog.info? 65).map (·.size) = some 3 := by kernel_rfl
theorem infoF : (Try.prog.info? 23).map (·.size) = some 10 := by kernel_rfl
theorem infoS : (Try.prog.info? 28).map (·.size) = some 6 := by kernel_rfl
theorem ldO {w : World} {b o : Nat} {L : List Value} (h : w.rangeAt b o L) (hl : L.length = 2) : (Instr.loadAt 60 (.pointer (some ⟨b, o, none⟩))).run Try.prog w = .ok (.agg L.toArray) w :=
  run_loadAt_mid w b o 60 L _ h Try.underlying60 rfl (by rw [infoO, hl])
theorem ldT {w : World} {b o : Nat} {L : List Value} (h : w.rangeAt b o L) (hl : L.length = 5) : (Instr.loadAt 67 (.pointer (some ⟨b, o, none⟩))).run Try.prog w = .ok (.agg L.toArray) w :=
  run_loadAt_mid w b o 67 L _ h Try.underlying67 rfl (by rw [infoT, hl])
theorem ldP {w : World} {b o : Nat} {L : List Value} (h : w.rangeAt b o L) (hl : L.length = 2) : (Instr.loadAt 51 (.pointer (some ⟨b, o, none⟩))).run Try.prog w = .ok (.agg L.toArray) w :=
  run_loadAt_mid w b o 51 L _ h Try.underlying51 rfl (by rw [infoP, hl])
theorem ldC {w : World} {b o : Nat} {L : List Value} (h : w.rangeAt b o L) (hl : L.length = 3) : (Instr.loadAt 65 (.pointer (some ⟨b, o, none⟩))).run Try.prog w = .ok (.agg L.toArray) w :=
  run_loadAt_mid w b o 65 L _ h Try.underlying65 rfl (by rw [infoC, hl])
theorem ldF {w : World} {b o : Nat} {L : List Value} (h : w.rangeAt b o L) (hl : L.length = 10) : (Instr.loadAt 23 (.pointer (some ⟨b, o, none⟩))).run Try.prog w = .ok (.agg L.toArray) w :=
  run_loadAt_mid w b o 23 L _ h Try.underlying23 rfl (by rw [infoF, hl])
theorem ldS {w : World} {b o : Nat} {L : List Value} (h : w.rangeAt b o L) (hl : L.length = 6) : (Instr.loadAt 28 (.pointer (some ⟨b, o, none⟩))).run Try.prog w = .ok (.agg L.toArray) w :=
  run_loadAt_mid w b o 28 L _ h Try.underlying28 rfl (by rw [infoS, hl])
def ivN : Value → Nat | .int _ q => q.toNat | _ => 0
set_option maxRecDepth 100000 in
set_option maxHeartbeats 2000000 in
theorem configHolds_any (c : Cf) (w : World) : Calls Try.prog 46 #[c.v] w fun e w' => e = .returned (.bool (cfgB c)) ∧ Below w.heap.size w w' := by
  obtain ⟨c0, c1, c2, c3, c4, c5, c6, c7, c8, c9⟩ := c
  unfold cfgB Cf.v
  simp only
  have HW := hid within_any
  generalize h0 : wi c0 1 128 = b0
  generalize h1 : wi c1 1 64 = b1
  generalize h2 : wi c2 1 256 = b2
  generalize h3 : wi c3 1 256 = b3
  generalize h4 : wi c4 1 256 = b4
  generalize h5 : wi c5 1 32 = b5
  generalize h6 : wi c6 1 32 = b6
  generalize h7 : wi c7 0 16 = b7
  generalize h8 : wi c8 1 4 = b8
  generalize h9 : wi c9 0 64 = b9
  have HB := hid (below1 w (Obj.cells #[.int .i64 c0, .int .i64 c1, .int .i64 c2, .int .i64 c3, .int .i64 c4, .int .i64 c5, .int .i64 c6, .int .i64 c7, .int .i64 c8, .int .i64 c9] 23))
  go_enter Try.func46, Try.ntmps46
  rcases Bool.eq_false_or_eq_true b0 with e0 | e0 <;> subst e0
  rotate_left
  · (go_wp2_with (first | (go_at_call 53; refine (HW.out _ _ _ _).mono ?_; rintro e w1 ⟨rfl, rfl⟩; first | rw [h0] | rw [h1] | rw [h2] | rw [h3] | rw [h4] | rw [h5] | rw [h6] | rw [h7] | rw [h8] | rw [h9])); go_ret; exact ⟨rfl, HB.out⟩)
  rcases Bool.eq_false_or_eq_true b1 with e1 | e1 <;> subst e1
  rotate_left
  · (go_wp2_with (first | (go_at_call 53; refine (HW.out _ _ _ _).mono ?_; rintro e w1 ⟨rfl, rfl⟩; first | rw [h0] | rw [h1] | rw [h2] | rw [h3] | rw [h4] | rw [h5] | rw [h6] | rw [h7] | rw [h8] | rw [h9])); go_ret; exact ⟨rfl, HB.out⟩)
  rcases Bool.eq_false_or_eq_true b2 with e2 | e2 <;> subst e2
  rotate_left
  · (go_wp2_with (first | (go_at_call 53; refine (HW.out _ _ _ _).mono ?_; rintro e w1 ⟨rfl, rfl⟩; first | rw [h0] | rw [h1] | rw [h2] | rw [h3] | rw [h4] | rw [h5] | rw [h6] | rw [h7] | rw [h8] | rw [h9])); go_ret; exact ⟨rfl, HB.out⟩)
  rcases Bool.eq_false_or_eq_true b3 with e3 | e3 <;> subst e3
  rotate_left
  · (go_wp2_with (first | (go_at_call 53; refine (HW.out _ _ _ _).mono ?_; rintro e w1 ⟨rfl, rfl⟩; first | rw [h0] | rw [h1] | rw [h2] | rw [h3] | rw [h4] | rw [h5] | rw [h6] | rw [h7] | rw [h8] | rw [h9])); go_ret; exact ⟨rfl, HB.out⟩)
  rcases Bool.eq_false_or_eq_true b4 with e4 | e4 <;> subst e4
  rotate_left
  · (go_wp2_with (first | (go_at_call 53; refine (HW.out _ _ _ _).mono ?_; rintro e w1 ⟨rfl, rfl⟩; first | rw [h0] | rw [h1] | rw [h2] | rw [h3] | rw [h4] | rw [h5] | rw [h6] | rw [h7] | rw [h8] | rw [h9])); go_ret; exact ⟨rfl, HB.out⟩)
  rcases Bool.eq_false_or_eq_true b5 with e5 | e5 <;> subst e5
  rotate_left
  · (go_wp2_with (first | (go_at_call 53; refine (HW.out _ _ _ _).mono ?_; rintro e w1 ⟨rfl, rfl⟩; first | rw [h0] | rw [h1] | rw [h2] | rw [h3] | rw [h4] | rw [h5] | rw [h6] | rw [h7] | rw [h8] | rw [h9])); go_ret; exact ⟨rfl, HB.out⟩)
  rcases Bool.eq_false_or_eq_true b6 with e6 | e6 <;> subst e6
  rotate_left
  · (go_wp2_with (first | (go_at_call 53; refine (HW.out _ _ _ _).mono ?_; rintro e w1 ⟨rfl, rfl⟩; first | rw [h0] | rw [h1] | rw [h2] | rw [h3] | rw [h4] | rw [h5] | rw [h6] | rw [h7] | rw [h8] | rw [h9])); go_ret; exact ⟨rfl, HB.out⟩)
  rcases Bool.eq_false_or_eq_true b7 with e7 | e7 <;> subst e7
  rotate_left
  · (go_wp2_with (first | (go_at_call 53; refine (HW.out _ _ _ _).mono ?_; rintro e w1 ⟨rfl, rfl⟩; first | rw [h0] | rw [h1] | rw [h2] | rw [h3] | rw [h4] | rw [h5] | rw [h6] | rw [h7] | rw [h8] | rw [h9])); go_ret; exact ⟨rfl, HB.out⟩)
  rcases Bool.eq_false_or_eq_true b8 with e8 | e8 <;> subst e8
  rotate_left
  · (go_wp2_with (first | (go_at_call 53; refine (HW.out _ _ _ _).mono ?_; rintro e w1 ⟨rfl, rfl⟩; first | rw [h0] | rw [h1] | rw [h2] | rw [h3] | rw [h4] | rw [h5] | rw [h6] | rw [h7] | rw [h8] | rw [h9])); go_ret; exact ⟨rfl, HB.out⟩)
  rcases Bool.eq_false_or_eq_true b9 with e9 | e9 <;> subst e9
  rotate_left
  · (go_wp2_with (first | (go_at_call 53; refine (HW.out _ _ _ _).mono ?_; rintro e w1 ⟨rfl, rfl⟩; first | rw [h0] | rw [h1] | rw [h2] | rw [h3] | rw [h4] | rw [h5] | rw [h6] | rw [h7] | rw [h8] | rw [h9])); go_ret; exact ⟨rfl, HB.out⟩)
  · (go_wp2_with (first | (go_at_call 53; refine (HW.out _ _ _ _).mono ?_; rintro e w1 ⟨rfl, rfl⟩; first | rw [h0] | rw [h1] | rw [h2] | rw [h3] | rw [h4] | rw [h5] | rw [h6] | rw [h7] | rw [h8] | rw [h9])); go_ret; exact ⟨rfl, HB.out⟩)
end Go.Proofs.Ythfmmfphnimlnaa
