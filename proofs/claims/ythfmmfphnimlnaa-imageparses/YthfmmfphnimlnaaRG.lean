import Derived.Test.YthfmmfphnimlnaaIL
namespace Go.Proofs.Ythfmmfphnimlnaa
open Go.RowKit
set_option linter.unusedVariables false
set_option linter.unusedSimpArgs false
set_option maxRecDepth 100000 in
set_option maxHeartbeats 8000000 in
theorem rcheck_any (c : Cf) (s : St) (a b d : Sl) (Q : List (Ob × Sl)) (R : List (Pc × Sl)) (w : World) (h : Sm w s a b d Q R) (dr : Int) :
    Calls Try.prog 5 #[c.v, stV a b d s.nx s.px s.ta, .int .i64 dr] w fun e w' => e = .returned (.int .i64 (chk c s dr : Int)) ∧ Below w.heap.size w w' := by
  obtain ⟨W, hW⟩ : ∃ W, W = (w.alloc (Obj.cells #[.int .i64 c.w, .int .i64 c.o, .int .i64 c.p, .int .i64 c.e, .int .i64 c.q, .int .i64 c.r, .int .i64 c.l, .int .i64 c.s, .int .i64 c.y, .int .i64 c.k] 23)).alloc (Obj.cells #[.slice a.a a.n a.c, .slice b.a b.n b.c, .slice d.a d.n d.c, .int .i64 s.nx, .int .i64 s.px, .int .i64 s.ta] 28) := ⟨_, rfl⟩
  have hB : Below w.heap.size w W := by rw [hW]; exact below2 _ _ _
  have hsz : W.heap.size = w.heap.size + 1 + 1 := by rw [hW]; simp
  have HXr : Hid (W.rangeAt w.heap.size 0 c.L) := by rw [hW]; exact rangeAt_later (below1 _ _) (rangeAt_new w c.L _)
  have HYr : Hid (W.rangeAt (w.heap.size + 1) 0 [.slice a.a a.n a.c, .slice b.a b.n b.c, .slice d.a d.n d.c, .int .i64 s.nx, .int .i64 s.px, .int .i64 s.ta]) := by
    have := rangeAt_new (w.alloc (Obj.cells #[.int .i64 c.w, .int .i64 c.o, .int .i64 c.p, .int .i64 c.e, .int .i64 c.q, .int .i64 c.r, .int .i64 c.l, .int .i64 c.s, .int .i64 c.y, .int .i64 c.k] 23)) [.slice a.a a.n a.c, .slice b.a b.n b.c, .slice d.a d.n d.c, .int .i64 s.nx, .int .i64 s.px, .int .i64 s.ta] 28
    rw [World.size_alloc] at this
    rw [hW]; exact this
  have HM := hid (h.later hB)
  have HB := hid hB
  have HW := hid hW
  have HWi := hid rwithin_any
  have HLF : Hid (∀ U, Below W.heap.size W U → (Instr.loadAt 23 (.pointer (some ⟨w.heap.size, 0, none⟩))).run Try.prog U = .ok c.v U) := fun U hU => ldF (rangeAt_later hU HXr.out) rfl
  have HLS : Hid (∀ U, Below W.heap.size W U → (Instr.loadAt 28 (.pointer (some ⟨w.heap.size + 1, 0, none⟩))).run Try.prog U = .ok (stV a b d s.nx s.px s.ta) U) := fun U hU => ldS (rangeAt_later hU HYr.out) rfl
  have HY5 := hid (HYr.out 5 _ rfl)
  clear h hB hW hsz
  have hp : ∀ k, k < 1 → hB c s dr k = true := fun k hk => by
    obtain rfl : k = 0 := by omega
    rfl
  go_enter Try.func5, Try.ntmps5
  go_upto_region 1 with fail
  rw [← HW.out]
  obtain ⟨w0, hw0⟩ : ∃ w0, w0 = W := ⟨_, rfl⟩
  have HB0 : Hid (Below W.heap.size W w0) := by rw [hw0]; exact Below.refl _ _
  rw [← hw0]
  clear hw0
  have HC1 : Hid (∀ U, Below W.heap.size W U → Calls Try.prog 13 #[c.v] U fun e w' => e = .returned (.bool (hB c s dr 1)) ∧ Below U.heap.size U w') := fun U hU => rconfig_any c U
  cases hb1 : hB c s dr 1 with
  | false =>
    rw [hb1] at HC1
    have HF := hid (chk_at (c := c) (s := s) (d := dr) (r := 1) (by omega) (by omega) hp hb1)
    clear hp
    go_wp2_with (first | ((with_reducible refine ld_arm (HLF.out _ HB0.out) ?_ ?_); (· rfl)) | ((with_reducible refine ld_arm (HLS.out _ HB0.out) ?_ ?_); (· rfl)) | (go_at_call 13; refine (HC1.out _ HB0.out).mono ?_; rintro e w1 ⟨rfl, hb2⟩; have HB1 := hid (below_call HB0.out hb2); clear hb2))
    go_ret
    exact ⟨by rw [HF.out]; rfl, below_call HB.out HB1.out⟩
  | true =>
  rw [hb1] at HC1
  have hp : ∀ k, k < 2 → hB c s dr k = true := fun k hk => by
    by_cases e : k = 1
    · rw [e]; exact hb1
    · exact hp k (by omega)
  have HP1 := hid hp
  clear hp
  go_upto_region 3 with (first | ((with_reducible refine ld_arm (HLF.out _ HB0.out) ?_ ?_); (· rfl)) | ((with_reducible refine ld_arm (HLS.out _ HB0.out) ?_ ?_); (· rfl)) | (go_at_call 13; refine (HC1.out _ HB0.out).mono ?_; rintro e w1 ⟨rfl, hb2⟩; have HB1 := hid (below_call HB0.out hb2); clear hb2))
  have hp := HP1.out
  have HC2 : Hid (∀ U, Below W.heap.size W U → Calls Try.prog 14 #[c.v, stV a b d s.nx s.px s.ta] U fun e w' => e = .returned (.bool (hB c s dr 2)) ∧ Below U.heap.size U w') := fun U hU => robjects_any c s a b d Q R U (HM.out.later hU) (hp 1 (by omega))
  cases hb2 : hB c s dr 2 with
  | false =>
    rw [hb2] at HC2
    have HF := hid (chk_at (c := c) (s := s) (d := dr) (r := 2) (by omega) (by omega) hp hb2)
    clear hp
    go_wp2_with (first | ((with_reducible refine ld_arm (HLF.out _ HB1.out) ?_ ?_); (· rfl)) | ((with_reducible refine ld_arm (HLS.out _ HB1.out) ?_ ?_); (· rfl)) | (go_at_call 14; refine (HC2.out _ HB1.out).mono ?_; rintro e w2 ⟨rfl, hb2⟩; have HB2 := hid (below_call HB1.out hb2); clear hb2))
    go_ret
    exact ⟨by rw [HF.out]; rfl, below_call HB.out HB2.out⟩
  | true =>
  rw [hb2] at HC2
  have hp : ∀ k, k < 3 → hB c s dr k = true := fun k hk => by
    by_cases e : k = 2
    · rw [e]; exact hb2
    · exact hp k (by omega)
  have HP2 := hid hp
  clear hp
  go_upto_region 5 with (first | ((with_reducible refine ld_arm (HLF.out _ HB1.out) ?_ ?_); (· rfl)) | ((with_reducible refine ld_arm (HLS.out _ HB1.out) ?_ ?_); (· rfl)) | (go_at_call 14; refine (HC2.out _ HB1.out).mono ?_; rintro e w2 ⟨rfl, hb2⟩; have HB2 := hid (below_call HB1.out hb2); clear hb2))
  have hp := HP2.out
  have HC3 : Hid (∀ U, Below W.heap.size W U → Calls Try.prog 15 #[stV a b d s.nx s.px s.ta] U fun e w' => e = .returned (.bool (hB c s dr 3)) ∧ Below U.heap.size U w') := fun U hU => rnext_any s a b d Q R U (HM.out.later hU)
  cases hb3 : hB c s dr 3 with
  | false =>
    rw [hb3] at HC3
    have HF := hid (chk_at (c := c) (s := s) (d := dr) (r := 3) (by omega) (by omega) hp hb3)
    clear hp
    go_wp2_with (first | ((with_reducible refine ld_arm (HLF.out _ HB2.out) ?_ ?_); (· rfl)) | ((with_reducible refine ld_arm (HLS.out _ HB2.out) ?_ ?_); (· rfl)) | (go_at_call 15; refine (HC3.out _ HB2.out).mono ?_; rintro e w3 ⟨rfl, hb2⟩; have HB3 := hid (below_call HB2.out hb2); clear hb2))
    go_ret
    exact ⟨by rw [HF.out]; rfl, below_call HB.out HB3.out⟩
  | true =>
  rw [hb3] at HC3
  have hp : ∀ k, k < 4 → hB c s dr k = true := fun k hk => by
    by_cases e : k = 3
    · rw [e]; exact hb3
    · exact hp k (by omega)
  have HP3 := hid hp
  clear hp
  go_upto_region 7 with (first | ((with_reducible refine ld_arm (HLF.out _ HB2.out) ?_ ?_); (· rfl)) | ((with_reducible refine ld_arm (HLS.out _ HB2.out) ?_ ?_); (· rfl)) | (go_at_call 15; refine (HC3.out _ HB2.out).mono ?_; rintro e w3 ⟨rfl, hb2⟩; have HB3 := hid (below_call HB2.out hb2); clear hb2))
  have hp := HP3.out
  have HC4 : Hid (∀ U, Below W.heap.size W U → Calls Try.prog 16 #[c.v, stV a b d s.nx s.px s.ta] U fun e w' => e = .returned (.bool (hB c s dr 4)) ∧ Below U.heap.size U w') := fun U hU => rtokens_any c s a b d Q R U (HM.out.later hU)
  cases hb4 : hB c s dr 4 with
  | false =>
    rw [hb4] at HC4
    have HF := hid (chk_at (c := c) (s := s) (d := dr) (r := 4) (by omega) (by omega) hp hb4)
    clear hp
    go_wp2_with (first | ((with_reducible refine ld_arm (HLF.out _ HB3.out) ?_ ?_); (· rfl)) | ((with_reducible refine ld_arm (HLS.out _ HB3.out) ?_ ?_); (· rfl)) | (go_at_call 16; refine (HC4.out _ HB3.out).mono ?_; rintro e w4 ⟨rfl, hb2⟩; have HB4 := hid (below_call HB3.out hb2); clear hb2))
    go_ret
    exact ⟨by rw [HF.out]; rfl, below_call HB.out HB4.out⟩
  | true =>
  rw [hb4] at HC4
  have hp : ∀ k, k < 5 → hB c s dr k = true := fun k hk => by
    by_cases e : k = 4
    · rw [e]; exact hb4
    · exact hp k (by omega)
  have HP4 := hid hp
  clear hp
  go_upto_region 9 with (first | ((with_reducible refine ld_arm (HLF.out _ HB3.out) ?_ ?_); (· rfl)) | ((with_reducible refine ld_arm (HLS.out _ HB3.out) ?_ ?_); (· rfl)) | (go_at_call 16; refine (HC4.out _ HB3.out).mono ?_; rintro e w4 ⟨rfl, hb2⟩; have HB4 := hid (below_call HB3.out hb2); clear hb2))
  have hp := HP4.out
  have HC5 : Hid (∀ U, Below W.heap.size W U → Calls Try.prog 17 #[stV a b d s.nx s.px s.ta] U fun e w' => e = .returned (.bool (hB c s dr 5)) ∧ Below U.heap.size U w') := fun U hU => rkin_any s a b d Q R U (HM.out.later hU)
  cases hb5 : hB c s dr 5 with
  | false =>
    rw [hb5] at HC5
    have HF := hid (chk_at (c := c) (s := s) (d := dr) (r := 5) (by omega) (by omega) hp hb5)
    clear hp
    go_wp2_with (first | ((with_reducible refine ld_arm (HLF.out _ HB4.out) ?_ ?_); (· rfl)) | ((with_reducible refine ld_arm (HLS.out _ HB4.out) ?_ ?_); (· rfl)) | (go_at_call 17; refine (HC5.out _ HB4.out).mono ?_; rintro e w5 ⟨rfl, hb2⟩; have HB5 := hid (below_call HB4.out hb2); clear hb2))
    go_ret
    exact ⟨by rw [HF.out]; rfl, below_call HB.out HB5.out⟩
  | true =>
  rw [hb5] at HC5
  have hp : ∀ k, k < 6 → hB c s dr k = true := fun k hk => by
    by_cases e : k = 5
    · rw [e]; exact hb5
    · exact hp k (by omega)
  have HP5 := hid hp
  clear hp
  go_upto_region 11 with (first | ((with_reducible refine ld_arm (HLF.out _ HB4.out) ?_ ?_); (· rfl)) | ((with_reducible refine ld_arm (HLS.out _ HB4.out) ?_ ?_); (· rfl)) | (go_at_call 17; refine (HC5.out _ HB4.out).mono ?_; rintro e w5 ⟨rfl, hb2⟩; have HB5 := hid (below_call HB4.out hb2); clear hb2))
  have hp := HP5.out
  have HC6 : Hid (∀ U, Below W.heap.size W U → Calls Try.prog 18 #[c.v, stV a b d s.nx s.px s.ta] U fun e w' => e = .returned (.bool (hB c s dr 6)) ∧ Below U.heap.size U w') := fun U hU => rwords_any c s a b d Q R U (HM.out.later hU) (far_cw (hp 1 (by omega)))
  cases hb6 : hB c s dr 6 with
  | false =>
    rw [hb6] at HC6
    have HF := hid (chk_at (c := c) (s := s) (d := dr) (r := 6) (by omega) (by omega) hp hb6)
    clear hp
    go_wp2_with (first | ((with_reducible refine ld_arm (HLF.out _ HB5.out) ?_ ?_); (· rfl)) | ((with_reducible refine ld_arm (HLS.out _ HB5.out) ?_ ?_); (· rfl)) | (go_at_call 18; refine (HC6.out _ HB5.out).mono ?_; rintro e w6 ⟨rfl, hb2⟩; have HB6 := hid (below_call HB5.out hb2); clear hb2))
    go_ret
    exact ⟨by rw [HF.out]; rfl, below_call HB.out HB6.out⟩
  | true =>
  rw [hb6] at HC6
  have hp : ∀ k, k < 7 → hB c s dr k = true := fun k hk => by
    by_cases e : k = 6
    · rw [e]; exact hb6
    · exact hp k (by omega)
  have HP6 := hid hp
  clear hp
  go_upto_region 13 with (first | ((with_reducible refine ld_arm (HLF.out _ HB5.out) ?_ ?_); (· rfl)) | ((with_reducible refine ld_arm (HLS.out _ HB5.out) ?_ ?_); (· rfl)) | (go_at_call 18; refine (HC6.out _ HB5.out).mono ?_; rintro e w6 ⟨rfl, hb2⟩; have HB6 := hid (below_call HB5.out hb2); clear hb2))
  have hp := HP6.out
  have HC7 : Hid (∀ U, Below W.heap.size W U → Calls Try.prog 19 #[c.v, stV a b d s.nx s.px s.ta] U fun e w' => e = .returned (.bool (hB c s dr 7)) ∧ Below U.heap.size U w') := fun U hU => rprocesses_any c s a b d Q R U (HM.out.later hU) (far_cw (hp 1 (by omega)))
  cases hb7 : hB c s dr 7 with
  | false =>
    rw [hb7] at HC7
    have HF := hid (chk_at (c := c) (s := s) (d := dr) (r := 7) (by omega) (by omega) hp hb7)
    clear hp
    go_wp2_with (first | ((with_reducible refine ld_arm (HLF.out _ HB6.out) ?_ ?_); (· rfl)) | ((with_reducible refine ld_arm (HLS.out _ HB6.out) ?_ ?_); (· rfl)) | (go_at_call 19; refine (HC7.out _ HB6.out).mono ?_; rintro e w7 ⟨rfl, hb2⟩; have HB7 := hid (below_call HB6.out hb2); clear hb2))
    go_ret
    exact ⟨by rw [HF.out]; rfl, below_call HB.out HB7.out⟩
  | true =>
  rw [hb7] at HC7
  have hp : ∀ k, k < 8 → hB c s dr k = true := fun k hk => by
    by_cases e : k = 7
    · rw [e]; exact hb7
    · exact hp k (by omega)
  have HP7 := hid hp
  clear hp
  go_upto_region 15 with (first | ((with_reducible refine ld_arm (HLF.out _ HB6.out) ?_ ?_); (· rfl)) | ((with_reducible refine ld_arm (HLS.out _ HB6.out) ?_ ?_); (· rfl)) | (go_at_call 19; refine (HC7.out _ HB6.out).mono ?_; rintro e w7 ⟨rfl, hb2⟩; have HB7 := hid (below_call HB6.out hb2); clear hb2))
  have hp := HP7.out
  have y5 := cell_later HB7.out HY5.out
  simp only [Nat.zero_add] at y5
  cases hb8 : wi s.ta 0 dr with
  | false =>
    have HF := hid (chk_at (c := c) (s := s) (d := dr) (r := 8) (by omega) (by omega) hp hb8)
    clear hp
    go_wp2_with (first | (go_at_call 20; refine (HWi.out _ _ _ _).mono ?_; rintro e w8 ⟨rfl, rfl⟩; rw [hb8]))
    go_ret
    exact ⟨by rw [HF.out]; rfl, below_call HB.out HB7.out⟩
  | true =>
    have HF := hid (chk_ok (c := c) (s := s) (d := dr) (fun k hk => by
      by_cases e : k = 8
      · rw [e]; exact hb8
      · exact hp k (by omega)))
    clear hp
    go_wp2_with (first | (go_at_call 20; refine (HWi.out _ _ _ _).mono ?_; rintro e w8 ⟨rfl, rfl⟩; rw [hb8]))
    go_ret
    exact ⟨by rw [HF.out]; rfl, below_call HB.out HB7.out⟩
end Go.Proofs.Ythfmmfphnimlnaa
