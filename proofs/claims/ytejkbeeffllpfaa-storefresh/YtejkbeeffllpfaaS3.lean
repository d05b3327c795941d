import Derived.Test.YtejkbeeffllpfaaS2
namespace Go.Proofs.Ytejkbeeffllpfaa
open Go.RowKit
set_option linter.unusedVariables false
set_option linter.unusedSimpArgs false

set_option maxRecDepth 100000 in
set_option maxHeartbeats 2000000 in
theorem play_1 (base : Nat) (z : Sid) (r : Nat) (M : Nat → Prop) (o : Opx) (w : World) (hP : Pr w base z r M) (hO : OpxIn w o) (hk : o.kd = 1) :
    Calls Try.prog 16 #[.agg #[.pointer (some ⟨z.s, 0, none⟩), .pointer (some ⟨r, 0, none⟩)], .agg (opxCells o)] w fun e w' => e = .returned (.bool true) ∧ Left w base z r M w' := by
  obtain ⟨nx, Os, G, a, cap, col, hD, hM, hMb⟩ := hP
  obtain ⟨W, hW, hDW, hBx, hBW, hne⟩ := play_start (M := M) hD o
  have HD := hid hD
  have HM := hid hM
  have HMb := hid hMb
  have HDW := hid hDW
  have HBW := hid hBW
  have HNE := hid hne
  have s0 := hBx.s0
  have c0 := hBx.c0
  have c2 := hBx.c2
  rw [hk] at c0 hW
  have HBx := hid hBx
  have hi := hO.hid
  unfold opxCells
  rw [hk]
  clear hD hM hMb hDW hBx hBW hne
  have hnz : ¬ Zb z w.heap.size := fun e => (HNE.out _ (.inl e)).1 rfl
  have hnz1 : ¬ Zb z (w.heap.size + 1) := fun e => (HNE.out _ (.inl e)).2 rfl
  cases ho : at? Os o.id with
  | some ob =>
    have HO2 := hid ho
    clear ho
    go_enter Try.func16, Try.ntmps16
    go_upto_region 7 with fail
    rw [← hW]
    clear hW
    go_upto_region 8 with (first | (go_at_call 13; refine (st_destroy_ok z nx Os o.id ob _ HDW.out.s hi HO2.out).mono ?_; rintro e w2 ⟨rfl, S2, B2⟩))
    have HBx2 := hid (HBx.out.but B2 hnz hnz1)
    have s1 := HBx2.out.s1
    have d2 := HBx2.out.c2
    have HQ2 := hid (HDW.out.q.but B2 (fun j hj => (HDW.out.ap j hj).1))
    have HS2 := hid S2
    have HB2 := hid B2
    clear S2 B2 s0 c0 c2
    have HR : Hid (∀ e w3, (((∀ p ∈ vw Os, p.1 ≠ o.id) ∧ e = Ending.returned (.int .i64 20) ∧ w3 = w2) ∨ (∃ (i : Nat) (hi : i < (vw Os).length), (vw Os)[i].1 = o.id ∧ e = Ending.returned (.int .i64 0) ∧ ∃ a' cap' col', Rf w3 base r z.room z.n nx ((vw Os).take i ++ (vw Os).drop (i + 1)) G a' cap' col' ∧ (∀ j, col' j ≠ 0 → col j ≠ 0 ∨ w2.heap.size ≤ j) ∧ But (· = r) w2 w3)) →
        e = Ending.returned (.int .i64 0) ∧ ∃ a' cap' col', Rf w3 base r z.room z.n nx (vw (without o.id Os)) G a' cap' col' ∧ (∀ j, col' j ≠ 0 → col j ≠ 0 ∨ w2.heap.size ≤ j) ∧ But (fun j => col j ≠ 0) w2 w3) := hid (by
      rintro e w3 (⟨h1, _⟩ | ⟨i, hi, h1, rfl, a', cap', col', h2, h3, h4⟩)
      · rw [vw_none, HO2.out] at h1
        cases h1
      · rw [(vw_without HDW.out.s.rise hi h1).1]
        exact ⟨rfl, a', cap', col', h2, h3, h4.mono (fun j e => by rw [e, HDW.out.q.k1]; decide)⟩)
    go_wp2_with (first | (go_at_call 37; refine (rdestroy_any base r z.room z.n nx (vw Os) G a cap col o.id _ HQ2.out).mono ?_; intro e w3 hh; obtain ⟨rfl, a3, cap3, col3, Q3, hc3, B3⟩ := HR.out e w3 hh; have HQ3 := hid Q3; have HC3 := hid hc3; have HB3 := hid B3; clear Q3 hc3 B3 hh))
    go_ret
    refine ⟨rfl, left_of HD.out HM.out HMb.out (nx' := nx) (Os' := without o.id Os) (G' := G) (a' := a3) (cap' := cap3) (col' := col3) ⟨HS2.out.but HB3.out (fun j hj e => (HDW.out.ap j e).1 hj) (fun j hj e => (HDW.out.ap j e).2 (rb_without hj)), HQ3.out, fun j hj => ?_⟩ ?_ ((But.of HBW.out).trans ((own_z HB2.out).trans (own_c HB3.out)))⟩
    · rcases HC3.out j hj with h1 | h1
      · exact ⟨(HDW.out.ap j h1).1, fun e => (HDW.out.ap j h1).2 (rb_without e)⟩
      · exact ⟨fun e => by have := HS2.out.zlt j e; omega, fun e => by have := HS2.out.rlt j e; omega⟩
    · rintro j (h1 | h1 | h1)
      · exact .inl (.inl h1)
      · exact .inl (.inr (.inl (rb_without h1)))
      · rcases HC3.out j h1 with h2 | h2
        · exact .inl (.inr (.inr h2))
        · exact .inr (Nat.le_trans HBW.out.size (Nat.le_trans HB2.out.size h2))
  | none =>
    have HO2 := hid ho
    clear ho
    go_enter Try.func16, Try.ntmps16
    go_upto_region 7 with fail
    rw [← hW]
    clear hW
    go_upto_region 8 with (first | (go_at_call 13; refine (st_destroy_none z nx Os o.id _ HDW.out.s hi HO2.out).mono ?_; rintro e w2 ⟨rfl, B2⟩))
    have HBx2 := hid (HBx.out.later B2)
    have s1 := HBx2.out.s1
    have d2 := HBx2.out.c2
    have HD2 := hid (HDW.out.later B2)
    have HB2 := hid B2
    clear B2 s0 c0 c2
    have HR : Hid (∀ e w3, (((∀ p ∈ vw Os, p.1 ≠ o.id) ∧ e = Ending.returned (.int .i64 20) ∧ w3 = w2) ∨ (∃ (i : Nat) (hi : i < (vw Os).length), (vw Os)[i].1 = o.id ∧ e = Ending.returned (.int .i64 0) ∧ ∃ a' cap' col', Rf w3 base r z.room z.n nx ((vw Os).take i ++ (vw Os).drop (i + 1)) G a' cap' col' ∧ (∀ j, col' j ≠ 0 → col j ≠ 0 ∨ w2.heap.size ≤ j) ∧ But (· = r) w2 w3)) →
        e = Ending.returned (.int .i64 20) ∧ w3 = w2) := hid (by
      rintro e w3 (⟨_, h2⟩ | ⟨i, hi, h1, _⟩)
      · exact h2
      · obtain ⟨_, o2, h3⟩ := vw_without HDW.out.s.rise hi h1
        rw [HO2.out] at h3
        cases h3)
    go_wp2_with (first | (go_at_call 37; refine (rdestroy_any base r z.room z.n nx (vw Os) G a cap col o.id _ HD2.out.q).mono ?_; intro e w3 hh; obtain ⟨rfl, hw⟩ := HR.out e w3 hh; obtain rfl := hw.symm; clear hh))
    go_ret
    exact ⟨rfl, left_of HD.out HM.out HMb.out HD2.out (fun j hj => .inl hj) (But.of (below_call HBW.out HB2.out))⟩
set_option maxRecDepth 100000 in
set_option maxHeartbeats 2000000 in
theorem play_4 (base : Nat) (z : Sid) (r : Nat) (M : Nat → Prop) (o : Opx) (w : World) (hP : Pr w base z r M) (hO : OpxIn w o) (hk : o.kd = 4) :
    Calls Try.prog 16 #[.agg #[.pointer (some ⟨z.s, 0, none⟩), .pointer (some ⟨r, 0, none⟩)], .agg (opxCells o)] w fun e w' => e = .returned (.bool true) ∧ Left w base z r M w' := by
  obtain ⟨nx, Os, G, a, cap, col, hD, hM, hMb⟩ := hP
  obtain ⟨W, hW, hDW, hBx, hBW, hne⟩ := play_start (M := M) hD o
  have HD := hid hD
  have HM := hid hM
  have HMb := hid hMb
  have HDW := hid hDW
  have HBW := hid hBW
  have HNE := hid hne
  have s0 := hBx.s0
  have c0 := hBx.c0
  have c4 := hBx.c4
  rw [hk] at c0 hW
  have HBx := hid hBx
  unfold opxCells
  rw [hk]
  clear hD hM hMb hDW hBx hBW hne
  have hnz : ¬ w.heap.size = z.s := fun e => (HNE.out _ (.inl (.inl e))).1 rfl
  have hnz1 : ¬ w.heap.size + 1 = z.s := fun e => (HNE.out _ (.inl (.inl e))).2 rfl
  by_cases hv : nxOk Os o.nn
  · have hv2 := (vw_next Os o.nn).2 hv
    have HV := hid hv
    have HV2 := hid hv2
    clear hv hv2
    go_enter Try.func16, Try.ntmps16
    go_upto_region 29 with fail
    rw [← hW]
    clear hW
    have HSN : Hid (Calls Try.prog 40 #[.pointer (some ⟨z.s, 0, none⟩), .int .i64 o.nn] W fun e w' => e = .returned (.int .i64 0) ∧ St w' z o.nn Os ∧ But (· = z.s) W w') := hid (by
      obtain ⟨t, B, hS⟩ := HDW.out.s
      refine (setnext_ok _ _ _ _ _ _ _ _ _ _ o.nn W hS HV.out).mono ?_
      rintro e w' ⟨h1, h2, h3⟩
      exact ⟨h1, ⟨t, B, h2⟩, h3⟩)
    go_upto_region 30 with (first | (go_at_call 40; refine (HSN.out).mono ?_; rintro e w2 ⟨rfl, S2, B2⟩))
    have HBx2 := hid (HBx.out.but B2 hnz hnz1)
    have s1 := HBx2.out.s1
    have d4 := HBx2.out.c4
    have HQ2 := hid (HDW.out.q.but B2 (fun j hj e => (HDW.out.ap j hj).1 (.inl e)))
    have HS2 := hid S2
    have HB2 := hid B2
    clear S2 B2 s0 c0 c4
    have HR : Hid (∀ e w3, ((nxV (vw Os) o.nn ∧ e = Ending.returned (.int .i64 0) ∧ w3 = w2.setCell ⟨r, 3, none⟩ (.int .i64 o.nn)) ∨ (¬ nxV (vw Os) o.nn ∧ e = Ending.returned (.int .i64 5) ∧ w3 = w2)) → e = Ending.returned (.int .i64 0) ∧ w3 = w2.setCell ⟨r, 3, none⟩ (.int .i64 o.nn)) := hid (by
      rintro e w3 (⟨_, h⟩ | ⟨h, _⟩)
      · exact h
      · exact absurd HV2.out h)
    go_wp2_with (first | (go_at_call 41; refine (rsetnext_any base r z.room z.n nx (vw Os) G a cap col o.nn _ HQ2.out).mono ?_; intro e w3 hh; obtain ⟨rfl, rfl⟩ := HR.out e w3 hh; clear hh))
    go_ret
    have b3 : But (fun j => col j ≠ 0) w2 (w2.setCell ⟨r, 3, none⟩ (.int .i64 o.nn)) := (But.refl _ _).setCell (p := ⟨r, 3, none⟩) (by rw [HDW.out.q.k1]; decide) _
    exact ⟨rfl, left_of HD.out HM.out HMb.out ⟨HS2.out.but b3 (fun j hj e => (HDW.out.ap j e).1 hj) (fun j hj e => (HDW.out.ap j e).2 hj), HQ2.out.next o.nn HV2.out, HDW.out.ap⟩ (fun j hj => .inl hj) ((But.of HBW.out).trans ((HB2.out.mono (fun j e => .inl (.inl e))).trans (own_c b3)))⟩
  · have hv2 : ¬ nxV (vw Os) o.nn := fun h => hv ((vw_next Os o.nn).1 h)
    have HV := hid hv
    have HV2 := hid hv2
    clear hv hv2
    go_enter Try.func16, Try.ntmps16
    go_upto_region 29 with fail
    rw [← hW]
    clear hW
    have HSN : Hid (Calls Try.prog 40 #[.pointer (some ⟨z.s, 0, none⟩), .int .i64 o.nn] W fun e w' => e = .returned (.int .i64 5) ∧ Below W.heap.size W w') := hid (by
      obtain ⟨t, B, hS⟩ := HDW.out.s
      exact setnext_bad _ _ _ _ _ _ _ _ _ _ o.nn W hS HV.out)
    go_upto_region 30 with (first | (go_at_call 40; refine (HSN.out).mono ?_; rintro e w2 ⟨rfl, B2⟩))
    have HBx2 := hid (HBx.out.later B2)
    have s1 := HBx2.out.s1
    have d4 := HBx2.out.c4
    have HD2 := hid (HDW.out.later B2)
    have HB2 := hid B2
    clear B2 s0 c0 c4
    have HR : Hid (∀ e w3, ((nxV (vw Os) o.nn ∧ e = Ending.returned (.int .i64 0) ∧ w3 = w2.setCell ⟨r, 3, none⟩ (.int .i64 o.nn)) ∨ (¬ nxV (vw Os) o.nn ∧ e = Ending.returned (.int .i64 5) ∧ w3 = w2)) → e = Ending.returned (.int .i64 5) ∧ w3 = w2) := hid (by
      rintro e w3 (⟨h, _⟩ | ⟨_, h⟩)
      · exact absurd h HV2.out
      · exact h)
    go_wp2_with (first | (go_at_call 41; refine (rsetnext_any base r z.room z.n nx (vw Os) G a cap col o.nn _ HD2.out.q).mono ?_; intro e w3 hh; obtain ⟨rfl, hw⟩ := HR.out e w3 hh; obtain rfl := hw.symm; clear hh))
    go_ret
    exact ⟨rfl, left_of HD.out HM.out HMb.out HD2.out (fun j hj => .inl hj) (But.of (below_call HBW.out HB2.out))⟩
set_option maxRecDepth 100000 in
set_option maxHeartbeats 2000000 in
theorem play_5 (base : Nat) (z : Sid) (r : Nat) (M : Nat → Prop) (o : Opx) (w : World) (hP : Pr w base z r M) (hO : OpxIn w o) (hk : o.kd ≠ 0 ∧ o.kd ≠ 1 ∧ o.kd ≠ 2 ∧ o.kd ≠ 3 ∧ o.kd ≠ 4) :
    Calls Try.prog 16 #[.agg #[.pointer (some ⟨z.s, 0, none⟩), .pointer (some ⟨r, 0, none⟩)], .agg (opxCells o)] w fun e w' => e = .returned (.bool true) ∧ Left w base z r M w' := by
  obtain ⟨nx, Os, G, a, cap, col, hD, hM, hMb⟩ := hP
  obtain ⟨W, hW, hDW, hBx, hBW, hne⟩ := play_start (M := M) hD o
  have HD := hid hD
  have HM := hid hM
  have HMb := hid hMb
  have HDW := hid hDW
  have HBW := hid hBW
  have s0 := hBx.s0
  have s1 := hBx.s1
  have c0 := hBx.c0
  have c4 := hBx.c4
  have HBx := hid hBx
  obtain ⟨kd, hkd⟩ : ∃ kd, kd = o.kd := ⟨_, rfl⟩
  unfold opxCells
  rw [← hkd] at c0 hk hW ⊢
  obtain ⟨k0, k1, k2, k3, k4⟩ := hk
  have q0 : (kd == 0) = false := by simp [k0]
  have q1 : (kd == 1) = false := by simp [k1]
  have q2 : (kd == 2) = false := by simp [k2]
  have q3 : (kd == 3) = false := by simp [k3]
  have q4 : (kd == 4) = false := by simp [k4]
  obtain ⟨E, hE⟩ : ∃ E, E = mayE z.room z.n nx Os o.nn := ⟨_, rfl⟩
  have HE := hid hE
  have HE2 : Hid (mayV z.room z.n nx (vw Os) o.nn = E) := hid (by rw [vw_may hD.s, hE])
  clear hD hM hMb hDW hBx hBW hne hkd hE k0 k1 k2 k3 k4
  go_enter Try.func16, Try.ntmps16
  go_upto_region 31 with fail
  rw [← hW]
  clear hW
  have HS : Hid (∀ U, Below W.heap.size W U → (U.cell? ⟨w.heap.size, 0, none⟩ = some (.pointer (some ⟨z.s, 0, none⟩)) ∧ U.cell? ⟨w.heap.size, 1, none⟩ = some (.pointer (some ⟨r, 0, none⟩)) ∧ U.cell? ⟨w.heap.size + 1, 4, none⟩ = some (.int .i64 o.nn)) ∧ Below W.heap.size W U) := hid (fun U hU => ⟨⟨(HBx.out.later hU).s0, (HBx.out.later hU).s1, (HBx.out.later hU).c4⟩, hU⟩)
  clear s0 s1 c0 c4
  go_region_held3 (fun U => (U.cell? ⟨w.heap.size, 0, none⟩ = some (.pointer (some ⟨z.s, 0, none⟩)) ∧ U.cell? ⟨w.heap.size, 1, none⟩ = some (.pointer (some ⟨r, 0, none⟩)) ∧ U.cell? ⟨w.heap.size + 1, 4, none⟩ = some (.int .i64 o.nn)) ∧ Below W.heap.size W U) (first | exact HS.out _ (Below.refl _ _).drew | exact HS.out _ hb2.out | exact HS.out _ hb1.out) (first
    | (go_at_call 42; have hq_ := hb1; clear hq_; refine (rmay_any base r z.room z.n nx (vw Os) G a cap col o.nn _ (HDW.out.later hb1.out).q).mono ?_; rintro e w3 ⟨rfl, d3, rfl⟩; rw [HE2.out]; have hb2 : Hid (Below W.heap.size W (w2.drewN d3)) := hid (below_call hb1.out (below_drewN (Below.refl _ _) _)))
    | (go_at_call 24; refine (st_may z nx Os o.nn _ (HDW.out.later (Below.refl _ _).drew).s).mono ?_; rintro e w2 ⟨rfl, B2⟩; rw [← HE.out]; have hb1 := hid (below_call (Below.refl W.heap.size W).drew B2)))
  go_wp2
  go_ret
  exact ⟨rfl, left_of HD.out HM.out HMb.out (HDW.out.later hb2.out) (fun j hj => .inl hj) (But.of (below_call HBW.out hb2.out))⟩
end Go.Proofs.Ytejkbeeffllpfaa
