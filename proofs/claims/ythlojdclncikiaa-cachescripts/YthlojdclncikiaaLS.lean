import Derived.Test.YthlojdclncikiaaT1
import Derived.Test.YthlojdclncikiaaLL
namespace Go.Proofs.Ythlojdclncikiaa
open Go.RowKit
set_option linter.unusedVariables false
set_option linter.unusedSimpArgs false

/-- j epochs are still to begin. -/
def TnRel (w0 : World) (g r s n k : Nat) (N : Nat) (t : Value) (w : World) : Prop :=
  ∃ (j : Nat) (T : Nat → List Pu) (E : Nat) (hi mi : Int) (pa : Option Addr) (cap : Nat) (L : List Pu), j ≤ N ∧ t = .int .i64 (j : Int) ∧ Like s n k T L ∧ Both w0 w g r s n k T E hi mi pa cap L E hi mi
set_option maxRecDepth 100000 in
set_option maxHeartbeats 20000000 in
theorem scripts_ok (s n k : Nat) (w : World) (a : Option Addr) (N c : Nat) (f : Nat → Opr) (hS : Ss w a N f) (hN : N ≤ 9223372036854775807) (h1 : s ≤ 16) (h2 : 1 ≤ n) (h3 : n ≤ 4) (h4 : k ≤ 64) :
    Calls Try.prog 5 #[.int .i64 (s : Int), .int .i64 (n : Int), .int .i64 (k : Int), .slice a N c] w fun e w' => e = .returned (.bool true) ∧ Below w.heap.size w w' := by
  have HS := hid hS
  have hn := hid (knew s n k w h1 h2 h3 h4)
  have hrn := hid (fun U : World => rnew_ok s n k U h1 h2 h3 h4)
  clear hS h1 h2 h3 h4
  go_enter Try.func5, Try.ntmps5
  go_upto_region 2 with (first | (go_at_call 6; refine hn.out.mono ?_; rintro e w1 ⟨g, rfl, hk1, hg1, hb1⟩; have HK1 := hid hk1; have HG := hid hg1; have HB1 := hid hb1; clear hk1 hg1 hb1))
  go_upto_region 3 with (first | (go_at_call 15; refine (hrn.out w1).mono ?_; rintro e w2 ⟨r, rfl, hr2, hb2⟩; have HR2 := hid hr2; have HB2 := hid hb2; clear hr2 hb2))
  have HD2 : Hid (Both w w2 g r s n k T0 0 0 0 none 0 [] 0 0 0) := ⟨HK1.out.later HB2.out, HR2.out.mono HB1.out.size, by have := HK1.out.lt; have := HR2.out.lo; omega, fun j hj => (by obtain ⟨_, e, _⟩ := hj; cases e), HG.out, below_call HB1.out HB2.out⟩
  clear HK1 HG HB1 HR2 HB2 hn hrn
  have hal := hid (alive_any w2)
  go_upto_region 7 with (first | (go_at_call 7; refine (num_any _ _).mono ?_; rintro e w9 ⟨rfl, hw9⟩; obtain rfl := hw9.symm; clear hw9) | (go_at_call 8; refine hal.out.mono ?_; rintro e w3 ⟨rfl, hb3⟩; have HB3 := hid hb3; clear hb3))
  have H0 : Hid (PlRel w g r s n k N (.int .i64 0) w3) := ⟨0, T0, 0, 0, 0, none, 0, [], Nat.zero_le _, rfl, Like.zero s n k, HD2.out.later HB3.out⟩
  clear hal HD2 HB3
  go_upto_region 8 with fail
  go_loopw [13] (PlRel w g r s n k N) (fun t _ => N - (intOf t).toNat)
  case atStart => exact H0.out
  case round =>
    clear H0
    obtain ⟨i, T, E, hi, mi, pa, cap, L, hiN, rfl, hL, hD⟩ := hrel
    have HL := hid hL
    have HD0 := hid hD
    clear hL hD
    by_cases hlt : i < N
    · have hd : decide ((i : Int) < (N : Int)) = true := decide_eq_true (by omega)
      obtain ⟨b, o, rfl, hat⟩ := HS.out (by omega)
      obtain ⟨x, hx⟩ : ∃ x, x = f i := ⟨_, rfl⟩
      have hsb := hat i hlt
      rw [← hx] at hsb
      have HOK := hid hsb.2
      obtain ⟨s0, s1, s2, s3, s4⟩ := hsb.1.later HD0.out.bl
      clear hx hat hsb
      go_upto_region 11 with fail
      have HOB : Hid (∀ U : World, But (fun y => y < wr.heap.size) (wr.alloc (Obj.cells #[.int .i64 x.1, .int .i64 x.2.1.1, .int .u64 (x.2.1.2.1 : Int), .int .u64 (x.2.1.2.2 : Int), .int .i64 x.2.2] 48)) U → Sb U wr.heap.size 0 x) := fun U hU => by
        have : Sb (wr.alloc (Obj.cells #[.int .i64 x.1, .int .i64 x.2.1.1, .int .u64 (x.2.1.2.1 : Int), .int .u64 (x.2.1.2.2 : Int), .int .i64 x.2.2] 48)) wr.heap.size 0 x := ⟨by simp [go_sem], by simp [go_sem], by simp [go_sem], by simp [go_sem], by simp [go_sem]⟩
        exact this.but hU (by omega)
      have HD1 := hid (HD0.out.later (below1 wr (Obj.cells #[.int .i64 x.1, .int .i64 x.2.1.1, .int .u64 (x.2.1.2.1 : Int), .int .u64 (x.2.1.2.2 : Int), .int .i64 x.2.2] 48)))
      have HW : Hid (∀ j, (j = g ∨ j = r ∨ Blk pa j) → j < wr.heap.size) := fun j hj => by
        rcases hj with rfl | rfl | hj
        · exact HD0.out.kc.lt
        · exact HD0.out.rc.lt
        · exact (HD0.out.rc.own.blk j hj).2
      generalize wr.alloc (Obj.cells #[.int .i64 x.1, .int .i64 x.2.1.1, .int .u64 (x.2.1.2.1 : Int), .int .u64 (x.2.1.2.2 : Int), .int .i64 x.2.2] 48) = w4 at *
      obtain ⟨o0, o1, o2, o3, o4⟩ := HOB.out w4 (But.refl _ _)
      simp only [Nat.zero_add] at o1 o2 o3 o4
      clear s0 s1 s2 s3 s4 HD0
      have hkd : x.1 = 1 ∨ x.1 = 2 ∨ x.1 = 3 ∨ x.1 = 4 ∨ (x.1 ≠ 1 ∧ x.1 ≠ 2 ∧ x.1 ≠ 3 ∧ x.1 ≠ 4) := by omega
      rcases hkd with hk | hk | hk | hk | ⟨hk1, hk2, hk3, hk4⟩
      · rw [hk] at o0
        have hg := hid (kget2 HD1.out.kc HL.out x.2.1 HOK.out)
        obtain ⟨v, q, hv⟩ : ∃ v q, getS L x.2.1 = (v, q) := ⟨_, _, rfl⟩
        rw [hv] at hg
        go_upto_region 14 with (first | (go_at_call 12; refine hg.out.mono ?_; rintro e w5 ⟨rfl, hk5, hb5⟩; have HD5 := hid (HD1.out.pk hk5 hb5); have HO5 := hid (HOB.out w5 (hb5.mono (fun y hy => HW.out y (.inl hy)))); clear hk5 hb5))
        clear o0 o1 o2 o3 o4
        obtain ⟨o0, o1, o2, o3, o4⟩ := HO5.out
        simp only [Nat.zero_add] at o1 o2 o3 o4
        have hg2 := hid (rget2 HD5.out.rc HL.out x.2.1)
        rw [hv] at hg2
        go_upto_region 15 with (first | (go_at_call 16; refine hg2.out.mono ?_; rintro e w6 ⟨rfl, hk6, hb6⟩; have HD := hid (HD5.out.pq hk6 hb6); clear hk6 hb6))
        clear o0 o1 o2 o3 o4
        go_upto_region 29 with fail
        have hhi := hid (khits HD.out.kc)
        go_upto_region 30 with (first | (go_at_call 19; refine hhi.out.mono ?_; rintro e w8 ⟨rfl, hb8⟩; have HD8 := hid (HD.out.later hb8); clear hb8))
        have z3 := HD8.out.rc.ce.1
        have z4 := HD8.out.rc.ch.1
        have z5 := HD8.out.rc.cm.1
        have hep := hid (fun q : Nat => kepoch (HD8.out.kc.later (below_drewN (Below.refl _ _) q)))
        go_quiet (first | (go_at_call 11; refine Calls.quiet_of_same (hep.out _)))
        have HD9 := hid (HD8.out.later (below_drewN (Below.refl _ _) nq))
        go_wp2
        exact ⟨⟨i + 1, _, _, _, _, _, _, _, by omega, by go_num, HL.out, HD9.out⟩, by simp [intOf]; omega⟩
      · rw [hk] at o0
        have hg := hid (kput HD1.out.kc x.2.1 x.2.2 HOK.out)
        go_upto_region 19 with (first | (go_at_call 9; refine hg.out.mono ?_; rintro e w5 ⟨rfl, hk5, hb5⟩; have HD5 := hid (HD1.out.pk hk5 hb5); have HO5 := hid (HOB.out w5 (hb5.mono (fun y hy => HW.out y (.inl hy)))); clear hk5 hb5))
        clear o0 o1 o2 o3 o4
        obtain ⟨o0, o1, o2, o3, o4⟩ := HO5.out
        simp only [Nat.zero_add] at o1 o2 o3 o4
        have hg2 := hid (rput_any HD5.out.rc HL.out x.2.1 x.2.2 HOK.out)
        clear HL
        go_upto_region 29 with (first | (go_at_call 17; refine hg2.out.mono ?_; rintro e w6 ⟨L6, pb6, cp6, rfl, hl6, hr6, hq6⟩; have HL := hid hl6; have HD := hid (HD5.out.pr hr6 hq6); clear hl6 hr6 hq6))
        clear o0 o1 o2 o3 o4
        have hhi := hid (khits HD.out.kc)
        go_upto_region 30 with (first | (go_at_call 19; refine hhi.out.mono ?_; rintro e w8 ⟨rfl, hb8⟩; have HD8 := hid (HD.out.later hb8); clear hb8))
        have z3 := HD8.out.rc.ce.1
        have z4 := HD8.out.rc.ch.1
        have z5 := HD8.out.rc.cm.1
        have hep := hid (fun q : Nat => kepoch (HD8.out.kc.later (below_drewN (Below.refl _ _) q)))
        go_quiet (first | (go_at_call 11; refine Calls.quiet_of_same (hep.out _)))
        have HD9 := hid (HD8.out.later (below_drewN (Below.refl _ _) nq))
        go_wp2
        exact ⟨⟨i + 1, _, _, _, _, _, _, _, by omega, by go_num, HL.out, HD9.out⟩, by simp [intOf]; omega⟩
      · rw [hk] at o0
        have hg := hid (kturn HD1.out.kc)
        go_upto_region 22 with (first | (go_at_call 10; refine hg.out.mono ?_; rintro e w5 ⟨rfl, hk5, hb5⟩; have HD5 := hid (HD1.out.pk hk5 hb5); clear hk5 hb5))
        clear o0 o1 o2 o3 o4
        have hg2 := hid (rturn_any HD5.out.rc HD1.out.kc.1)
        clear HL
        go_upto_region 29 with (first | (go_at_call 18; refine hg2.out.mono ?_; rintro e w6 ⟨rfl, hr6, hq6⟩; have HD := hid (HD5.out.pr hr6 hq6); clear hr6 hq6))
        have HL := hid (Like.zero s n k)
        have hhi := hid (khits HD.out.kc)
        go_upto_region 30 with (first | (go_at_call 19; refine hhi.out.mono ?_; rintro e w8 ⟨rfl, hb8⟩; have HD8 := hid (HD.out.later hb8); clear hb8))
        have z3 := HD8.out.rc.ce.1
        have z4 := HD8.out.rc.ch.1
        have z5 := HD8.out.rc.cm.1
        have hep := hid (fun q : Nat => kepoch (HD8.out.kc.later (below_drewN (Below.refl _ _) q)))
        go_quiet (first | (go_at_call 11; refine Calls.quiet_of_same (hep.out _)))
        have HD9 := hid (HD8.out.later (below_drewN (Below.refl _ _) nq))
        go_wp2
        exact ⟨⟨i + 1, _, _, _, _, _, _, _, by omega, by go_num, HL.out, HD9.out⟩, by simp [intOf]; omega⟩
      · rw [hk] at o0
        clear hk
        obtain ⟨v, hv0, hV0⟩ := low 600 x.2.2 (by decide) (by decide)
        have H1 : Hid (TnRel w g r s n k v (.int .i64 (v : Int)) w4) := ⟨v, T, E, hi, mi, pa, cap, L, Nat.le_refl _, rfl, HL.out, HD1.out⟩
        go_upto_region 25 with fail
        clear o0 o1 o2 o3 o4 hV0 HL HD1 HOB HW
        go_loopw [19] (TnRel w g r s n k v) (fun t _ => (intOf t).toNat)
        case atStart => exact H1.out
        case round =>
          clear H1
          obtain ⟨j, T, E, hi, mi, pa, cap, L, hj, rfl, hL, hD⟩ := hrel
          have HL := hid hL
          have HD1 := hid hD
          clear hL hD
          by_cases hj0 : j = 0
          · subst hj0
            have HD := HD1
            clear HD1
            go_upto_region 29 with fail
            have hhi := hid (khits HD.out.kc)
            go_upto_region 30 with (first | (go_at_call 19; refine hhi.out.mono ?_; rintro e w8 ⟨rfl, hb8⟩; have HD8 := hid (HD.out.later hb8); clear hb8))
            have z3 := HD8.out.rc.ce.1
            have z4 := HD8.out.rc.ch.1
            have z5 := HD8.out.rc.cm.1
            have hep := hid (fun q : Nat => kepoch (HD8.out.kc.later (below_drewN (Below.refl _ _) q)))
            go_quiet (first | (go_at_call 11; refine Calls.quiet_of_same (hep.out _)))
            have HD9 := hid (HD8.out.later (below_drewN (Below.refl _ _) nq))
            go_wp2
            exact ⟨⟨i + 1, _, _, _, _, _, _, _, by omega, by go_num, HL.out, HD9.out⟩, by simp [intOf]; omega⟩
          · have hd2 : decide ((j : Int) > 0) = true := decide_eq_true (by omega)
            have hg := hid (kturn HD1.out.kc)
            go_upto_region 28 with (first | (go_at_call 10; refine hg.out.mono ?_; rintro e w5 ⟨rfl, hk5, hb5⟩; have HD5 := hid (HD1.out.pk hk5 hb5); clear hk5 hb5))
            have hg2 := hid (rturn_any HD5.out.rc HD1.out.kc.1)
            clear HL
            have hjs : ((j : Int) - 1) = ((j - 1 : Nat) : Int) := by omega
            go_wp2_with (first | (go_at_call 18; refine hg2.out.mono ?_; rintro e w6 ⟨rfl, hr6, hq6⟩; have HD := hid (HD5.out.pr hr6 hq6); clear hr6 hq6))
            exact ⟨⟨j - 1, _, _, _, _, _, _, _, by omega, rfl, Like.zero s n k, HD.out⟩, by simp only [intOf]; omega⟩
      · have e1 : (x.1 == 1) = false := by simpa using hk1
        have e2 : (x.1 == 2) = false := by simpa using hk2
        have e3 : (x.1 == 3) = false := by simpa using hk3
        have e4 : (x.1 == 4) = false := by simpa using hk4
        have HD := HD1
        go_upto_region 29 with fail
        clear o0 o1 o2 o3 o4
        have hhi := hid (khits HD.out.kc)
        go_upto_region 30 with (first | (go_at_call 19; refine hhi.out.mono ?_; rintro e w8 ⟨rfl, hb8⟩; have HD8 := hid (HD.out.later hb8); clear hb8))
        have z3 := HD8.out.rc.ce.1
        have z4 := HD8.out.rc.ch.1
        have z5 := HD8.out.rc.cm.1
        have hep := hid (fun q : Nat => kepoch (HD8.out.kc.later (below_drewN (Below.refl _ _) q)))
        go_quiet (first | (go_at_call 11; refine Calls.quiet_of_same (hep.out _)))
        have HD9 := hid (HD8.out.later (below_drewN (Below.refl _ _) nq))
        go_wp2
        exact ⟨⟨i + 1, _, _, _, _, _, _, _, by omega, by go_num, HL.out, HD9.out⟩, by simp [intOf]; omega⟩
    · have hd : decide ((i : Int) < (N : Int)) = false := decide_eq_false (by omega)
      have H1 : Hid (PlRel w g r s n k N (.int .i64 0) wr) := ⟨0, T, E, hi, mi, pa, cap, L, Nat.zero_le _, rfl, HL.out, HD0.out⟩
      clear HL HD0
      go_upto_region 33 with fail
      clear hd
      go_loopw [22] (PlRel w g r s n k N) (fun t _ => N - (intOf t).toNat)
      case atStart => exact H1.out
      case round =>
        clear H1 hlt hiN
        obtain ⟨i, T, E, hi, mi, pa, cap, L, hiN, rfl, hL, hD⟩ := hrel
        have HL := hid hL
        have HD0 := hid hD
        clear hL hD
        by_cases hlt : i < N
        · have hd : decide ((i : Int) < (N : Int)) = true := decide_eq_true (by omega)
          obtain ⟨b, o, rfl, hat⟩ := HS.out (by omega)
          obtain ⟨x, hx⟩ : ∃ x, x = f i := ⟨_, rfl⟩
          have hsb := hat i hlt
          rw [← hx] at hsb
          have HOK := hid hsb.2
          have HSB := hid (fun (U : World) (hU : Below w.heap.size w U) => hsb.1.later hU)
          clear hx hat hsb
          obtain ⟨s0, s1, s2, s3, s4⟩ := HSB.out _ HD0.out.bl
          have hg := hid (kget2 HD0.out.kc HL.out x.2.1 HOK.out)
          obtain ⟨v, q, hv⟩ : ∃ v q, getS L x.2.1 = (v, q) := ⟨_, _, rfl⟩
          rw [hv] at hg
          go_upto_region 36 with (first | (go_at_call 12; refine hg.out.mono ?_; rintro e w5 ⟨rfl, hk5, hb5⟩; have HD5 := hid (HD0.out.pk hk5 hb5); clear hk5 hb5))
          clear s0 s1 s2 s3 s4
          obtain ⟨s0, s1, s2, s3, s4⟩ := HSB.out _ HD5.out.bl
          have hg2 := hid (rget2 HD5.out.rc HL.out x.2.1)
          rw [hv] at hg2
          go_upto_region 37 with (first | (go_at_call 16; refine hg2.out.mono ?_; rintro e w6 ⟨rfl, hk6, hb6⟩; have HD := hid (HD5.out.pq hk6 hb6); clear hk6 hb6))
          clear s0 s1 s2 s3 s4
          go_wp2
          exact ⟨⟨i + 1, _, _, _, _, _, _, _, by omega, by go_num, HL.out, HD.out⟩, by simp [intOf]; omega⟩
        · have hd : decide ((i : Int) < (N : Int)) = false := decide_eq_false (by omega)
          go_wp2
          go_ret
          exact ⟨rfl, HD0.out.bl⟩
end Go.Proofs.Ythlojdclncikiaa
