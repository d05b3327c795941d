import Derived.Test.YtnjadfgfpebkdaaGreatK1
import Derived.Test.YtnjadfgfpebkdaaGreatKA
namespace Go.Proofs.YtnjadfgfpebkdaaGreat.D
open Go.RowKit
open Go.Proofs.YtnjadfgfpebkdaaGreat.H (B64 Cp)
set_option linter.unusedVariables false

/-! ### RevokeAll -/
theorem revA_len {mo : Nat} {s : Sta} (h : Inv mo s.X s.l) (all : Bool) (c : Cp) : (revA all s c).K.length ≤ mo := by
  unfold revA
  split
  · exact Nat.zero_le _
  · split
    · exact Nat.zero_le _
    · show (List.map _ _).length ≤ mo
      rw [List.length_map]
      exact G_len h.ok true _
/-- What a round knows. -/
def AllI (w : World) (H : Hd) (sn : Nat) (t : Value) (W : World) : Prop :=
  ∃ (i : Nat) (s : Sta) (N : Nat → Prop), i ≤ sn ∧ t = .int .i64 (i : Int) ∧ Fit H.mo s ∧ Duo W H s s i N ∧ Below w.heap.size w W
set_option maxRecDepth 100000 in
set_option maxHeartbeats 8000000 in
theorem all_any (x y : Int) {w : World} {sa : Option Addr} {sn sc : Nat} {sf : Nat → Opr} (hs : Ss w sa sn sf) (hsn : sn ≤ 9223372036854775807) :
    Calls Tryz.prog 5 #[.int .i64 x, .int .i64 y, .slice sa sn sc] w fun e w' => e = .returned (.bool true) ∧ Below w.heap.size w w' := by
  have HHd := hid (head_any w)
  have HMd := hid (fun U => made_any x y U)
  obtain ⟨mo, hmo⟩ : ∃ mo, mo = 1 + intoN x 256 := ⟨_, rfl⟩
  rw [← hmo] at HMd
  have HSs := hid hs
  clear hs hmo
  go_enter Tryz.func5, Tryz.ntmps5
  go_upto_region 3 with (first
    | (go_at_call 6; refine HHd.out.mono ?_; rintro e w1 ⟨rfl, hb1⟩; have HB1 := hid hb1; clear hb1))
  go_upto_region 7 with (first
    | (go_at_call 7; refine (HMd.out w1).mono ?_; rintro e w2 ⟨H, N0, rfl, hmo2, hbase, hd2, hb2, hs1, hs2⟩; have HD2 := hid hd2; have HB2 := hid (below_call HB1.out hb2); have HMo := hid hmo2; have HBa : Hid (w.heap.size ≤ H.base) := hid (by rw [hbase]; exact HB1.out.size); clear hd2 hb2 hs1 hs2 hmo2 hbase))
  go_loopw [9] (AllI w H sn) (fun t _ => sn - (intOf t).toNat)
  case atStart => exact ⟨0, s0 mo, N0, Nat.zero_le _, rfl, by rw [HMo.out]; exact fit0 mo, HD2.out, HB2.out⟩
  case round =>
    obtain ⟨i, s, N, hi, rfl, hf, hd, hB⟩ := hrel
    have HFit := hid hf
    have HDr := hid hd
    have HBr := hid hB
    clear hf hd hB
    by_cases hin : i < sn
    · have hdd : decide ((i : Int) < (sn : Int)) = true := decide_eq_true (by omega)
      have hin2 : (i : Int) < (sn : Int) := by omega
      obtain ⟨b, off, rfl, hrow⟩ := (HSs.out.later HBr.out).at_ (by omega)
      obtain ⟨q0, q1, q2, q3, q4, q5, q6, q7, q8, q9⟩ := hrow i hin
      have HOk := hid (HSs.out.ok i hin)
      obtain ⟨o, ho⟩ : ∃ o, o = sf i := ⟨_, rfl⟩
      rw [← ho] at q0 q1 q2 q3 q4 q5 q6 q7 q8 q9 HOk
      have HI := hid hin
      have HIT : Hid (i < 9223372036854775807) := by unfold Hid; omega
      clear hrow ho hi hin
      go_upto_region 11 with fail
      obtain ⟨v1, hv1⟩ : ∃ v1, v1 = wr.alloc (Obj.cells (opC o) 29) := ⟨_, rfl⟩
      have hb1 : Below wr.heap.size wr v1 := by rw [hv1]; exact below1 _ _
      have hob : OpB v1 wr.heap.size 0 o := by rw [hv1]; exact opb_new wr o 29
      have hv1' : v1 = wr.alloc (Obj.cells #[.int .i64 o.kd, .int .i64 o.ob, .int .i64 o.at_, .int .i64 o.rt, .int .i64 o.sz, .int .u64 (o.wh : Int), .int .u64 (o.wl : Int), .int .i64 o.x.1, .int .u64 (o.x.2.1 : Int), .int .u64 (o.x.2.2 : Int)] 29) := hv1
      rw [← hv1']
      obtain ⟨p0, p1, p2, p3, p4, p5, p6, p7, p8, p9⟩ := hob.zero
      have HB11 := hid hb1
      have HOB := hid hob
      have HNm := hid (named_any (HDr.out.later hb1) HFit.out.inv o)
      have HCo := hid (namedC_ok HFit.out.inv HOk.out (mo := H.mo) (d := s))
      obtain ⟨⟨c1, c2, c3⟩, hc⟩ : ∃ c : Cp, c = namedC H.mo s o := ⟨_, rfl⟩
      rw [← hc] at HNm HCo
      unfold opV opC cpV at HNm
      clear hv1 hv1' hb1 hob hc q0 q1 q2 q3 q4 q5 q6 q7 q8 q9
      go_upto_region 12 with (first
        | (go_at_call 25; refine HNm.out.mono ?_; rintro e v2 ⟨rfl, hb2⟩; have HB12 := hid hb2; clear hb2))
      obtain ⟨v3, hv3⟩ : ∃ v3, v3 = v2.alloc (Obj.cells #[.int .i64 c1, .int .u64 (c2 : Int), .int .u64 (c3 : Int)] 27) := ⟨_, rfl⟩
      have hb3 : Below v2.heap.size v2 v3 := by rw [hv3]; exact below1 _ _
      have hxc : Cel v3 v2.heap.size 0 (c1, c2, c3) := by rw [hv3]; exact cel_new v2 (c1, c2, c3) 27
      rw [← hv3]
      have HB13 := hid (below_call HB12.out hb3)
      have HB3 := hid (below_call HB11.out HB13.out)
      have HOB3 := hid (HOB.out.later HB13.out)
      have HXc := hid hxc
      obtain ⟨xb, hxb⟩ : ∃ xb, xb = v2.heap.size := ⟨_, rfl⟩
      rw [← hxb] at HXc
      rw [← hxb]
      have HD3 := hid (HDr.out.later HB3.out)
      have HNx : Hid (¬ N xb) := fun e => by
        have h1 := HDr.out.rng _ e
        have h2 := HB11.out.size
        have h3 := HB12.out.size
        omega
      have HNo : Hid (¬ N wr.heap.size) := fun e => by have h1 := HDr.out.rng _ e; omega
      have HS1 : Hid (∀ U, But N v3 U → Tp U H.sb H.A.g H.qg H.z.s → U.cell? ⟨H.sb, 0, none⟩ = some (.pointer (some ⟨H.A.g, 0, none⟩)) ∧ U.cell? ⟨H.sb, 1, none⟩ = some (.pointer (some ⟨H.qg, 0, none⟩)) ∧ U.cell? ⟨H.sb, 2, none⟩ = some (.pointer (some ⟨H.z.s, 0, none⟩)) ∧ U.cell? ⟨xb, 0, none⟩ = some (.int .i64 c1) ∧ U.cell? ⟨xb, 1, none⟩ = some (.int .u64 (c2 : Int)) ∧ U.cell? ⟨xb, 2, none⟩ = some (.int .u64 (c3 : Int))) := fun U hU ht => ⟨ht.c0, ht.c1, ht.c2, (HXc.out.but hU HNx.out).zero⟩
      have HS2 : Hid (∀ U, But N v3 U → Tp U H.rb H.r H.q H.v → U.cell? ⟨H.rb, 0, none⟩ = some (.pointer (some ⟨H.r, 0, none⟩)) ∧ U.cell? ⟨H.rb, 1, none⟩ = some (.pointer (some ⟨H.q, 0, none⟩)) ∧ U.cell? ⟨H.rb, 2, none⟩ = some (.pointer (some ⟨H.v, 0, none⟩)) ∧ U.cell? ⟨xb, 0, none⟩ = some (.int .i64 c1) ∧ U.cell? ⟨xb, 1, none⟩ = some (.int .u64 (c2 : Int)) ∧ U.cell? ⟨xb, 2, none⟩ = some (.int .u64 (c3 : Int))) := fun U hU ht => ⟨ht.c0, ht.c1, ht.c2, (HXc.out.but hU HNx.out).zero⟩
      obtain ⟨p0, p1, p2, p3, p4, p5, p6, p7, p8, p9⟩ := HOB3.out.zero
      clear hv3 hb3 hxc hxb
      by_cases k3 : o.kd = 3
      · have hb3 : (o.kd == 3) = true := by simp [k3]
        clear k3
        have HT := hid (fun (U : World) (hU : Below v3.heap.size v3 U) => token_any (HD3.out.later hU) (c1, c2, c3) HCo.out.2 HCo.out.1)
        have HRt := hid (fun (U : World) (N1 : Nat → Prop) (s1 : Sta) (hU : Duo U H s1 s i N1) => rtoken_any hU HFit.out.inv (c1, c2, c3) HCo.out.2)
        unfold Took at HT
        unfold RTook at HRt
        obtain ⟨A, hA⟩ : ∃ A, A = revA false s (c1, c2, c3) := ⟨_, rfl⟩
        rw [← hA] at HT HRt
        have HAf : Hid (Inv H.mo A.s.X A.s.l → Fit H.mo A.s) := fun hi => by
          rw [hA] at hi ⊢
          exact (revA_fit HFit.out false (c1, c2, c3) hi).1
        have hkl : A.K.length ≤ 256 := by rw [hA]; exact Nat.le_trans (revA_len HFit.out.inv _ _) HD3.out.hmo.2
        obtain ⟨KL, sA, E, hAe⟩ : ∃ KL sA E, A = ⟨KL, E, sA⟩ := ⟨_, _, _, rfl⟩
        subst hAe
        simp only at HT HRt HAf hkl
        obtain ⟨kn, hkn⟩ : ∃ kn, kn = KL.length := ⟨_, rfl⟩
        rw [← hkn] at HT HRt
        have HKN := hid hkn
        have hkb : kn ≤ 140737488355328 := by rw [hkn]; omega
        have hEE : (E == E) = true := by simp
        unfold cpV at HT HRt
        unfold wld at HRt
        clear hA hkn hkl
        go_upto_region 16 with fail
        go_region_held3 (fun U => U.cell? ⟨H.sb, 0, none⟩ = some (.pointer (some ⟨H.A.g, 0, none⟩)) ∧ U.cell? ⟨H.sb, 1, none⟩ = some (.pointer (some ⟨H.qg, 0, none⟩)) ∧ U.cell? ⟨H.sb, 2, none⟩ = some (.pointer (some ⟨H.z.s, 0, none⟩)) ∧ U.cell? ⟨xb, 0, none⟩ = some (.int .i64 c1) ∧ U.cell? ⟨xb, 1, none⟩ = some (.int .u64 (c2 : Int)) ∧ U.cell? ⟨xb, 2, none⟩ = some (.int .u64 (c3 : Int))) (first | exact HS1.out _ HB4.out HD4.out.t1 | exact HS1.out _ (But.of (Below.refl _ _).drew) (HD3.out.later (Below.refl _ _).drew).t1 | exact HS1.out _ (But.refl _ _) HD3.out.t1) (first
          | (go_at_call 13; refine (HT.out _ (Below.refl _ _).drew).mono ?_; rintro e v4 ⟨a4, cc4, rfl, hO4, hd4, hb4⟩; have HD4 := hid hd4; have HO4 := hid hO4; have HB4 := hid ((But.of (S := N) (Below.refl v3.heap.size v3).drew).trans hb4); clear hd4 hO4 hb4))
        go_upto_region 17 with fail
        go_region_held3 (fun U => U.cell? ⟨H.rb, 0, none⟩ = some (.pointer (some ⟨H.r, 0, none⟩)) ∧ U.cell? ⟨H.rb, 1, none⟩ = some (.pointer (some ⟨H.q, 0, none⟩)) ∧ U.cell? ⟨H.rb, 2, none⟩ = some (.pointer (some ⟨H.v, 0, none⟩)) ∧ U.cell? ⟨xb, 0, none⟩ = some (.int .i64 c1) ∧ U.cell? ⟨xb, 1, none⟩ = some (.int .u64 (c2 : Int)) ∧ U.cell? ⟨xb, 2, none⟩ = some (.int .u64 (c3 : Int))) (first | exact HS2.out _ (HB4.out.trans HB5.out) HD5.out.t2 | exact HS2.out _ (HB4.out.trans (But.of (Below.refl _ _).drew)) (HD4.out.later (Below.refl _ _).drew).t2 | exact HS2.out _ HB4.out HD4.out.t2) (first
          | (go_at_call 22; refine (HRt.out _ N sA (HD4.out.later (Below.refl _ _).drew)).mono ?_; rintro e v5 ⟨a5, cc5, rfl, hO5, N5, hd5, hw5, hk5⟩; have HD5 := hid hd5; have HO5 := hid hO5; have HW5 := hid ((Went.later (N := N) (Below.refl v4.heap.size v4).drew).trans hw5); have HB5 := hid HW5.out.2; clear hd5 hO5 hw5 hk5))
        have HR4 := hid ((HO4.out.rd HKN.out.symm).but HB5.out (fun k hk e => by have h1 := (HO4.out.blk k hk).1; have h2 := HD3.out.rng _ e; change v3.heap.size ≤ k at h1; omega))
        have HR5 := hid (HO5.out.rd HKN.out.symm)
        have HWt := hid ((Went.later (N := N) HB3.out).trans ((Went.stay HB4.out).trans HW5.out))
        have HTo := hid (fun (U : World) (hU : Below v5.heap.size v5 U) => told_any (HD5.out.later hU) HD5.out.inv)
        go_wp2_with (first
          | (go_at_call 15; refine (HTo.out _ HZ6.out).mono ?_; rintro e v7 ⟨rfl, hb7⟩; have HZ7 := hid (below_call HZ6.out hb7); clear hb7)
          | (go_at_call 24; refine (sameC_any _ _ HR4.out HR5.out hkb hkb).mono ?_; rintro e v6 ⟨rfl, q6, hw6⟩; have HZ6 : Hid (Below v5.heap.size v5 v6) := (by unfold Hid; rw [hw6]; exact below_drewN (Below.refl _ _) q6); rw [show decide (KL = KL) = true by simp]; clear hw6))
        refine ⟨⟨i + 1, sA, N5, HI.out, rfl, HAf.out HD5.out.inv, (HD5.out.mono (Nat.le_succ _)).later HZ7.out, below_call (HDr.out.went HBr.out HWt.out HBa.out) HZ7.out⟩, ?_⟩
        simp [intOf]; have := HI.out; omega
      · have hb3 : (o.kd == 3) = false := by simp [k3]
        clear k3
        by_cases k5 : o.kd = 5
        · have hb5 : (o.kd == 5) = true := by simp [k5]
          clear k5
          have HT := hid (fun (U : World) (hU : Below v3.heap.size v3 U) => token_any (HD3.out.later hU) (c1, c2, c3) HCo.out.2 HCo.out.1)
          have HRt := hid (fun (U : World) (N1 : Nat → Prop) (s1 : Sta) (hU : Duo U H s1 s i N1) => rtoken_any hU HFit.out.inv (c1, c2, c3) HCo.out.2)
          unfold Took at HT
          unfold RTook at HRt
          obtain ⟨A, hA⟩ : ∃ A, A = revA false s (c1, c2, c3) := ⟨_, rfl⟩
          rw [← hA] at HT HRt
          have HAf : Hid (Inv H.mo A.s.X A.s.l → Fit H.mo A.s) := fun hi => by
            rw [hA] at hi ⊢
            exact (revA_fit HFit.out false (c1, c2, c3) hi).1
          have hkl : A.K.length ≤ 256 := by rw [hA]; exact Nat.le_trans (revA_len HFit.out.inv _ _) HD3.out.hmo.2
          obtain ⟨KL, sA, E, hAe⟩ : ∃ KL sA E, A = ⟨KL, E, sA⟩ := ⟨_, _, _, rfl⟩
          subst hAe
          simp only at HT HRt HAf hkl
          obtain ⟨kn, hkn⟩ : ∃ kn, kn = KL.length := ⟨_, rfl⟩
          rw [← hkn] at HT HRt
          have HKN := hid hkn
          have hkb : kn ≤ 140737488355328 := by rw [hkn]; omega
          have hEE : (E == E) = true := by simp
          unfold cpV at HT HRt
          unfold wld at HRt
          clear hA hkn hkl
          go_upto_region 16 with fail
          go_region_held3 (fun U => U.cell? ⟨H.sb, 0, none⟩ = some (.pointer (some ⟨H.A.g, 0, none⟩)) ∧ U.cell? ⟨H.sb, 1, none⟩ = some (.pointer (some ⟨H.qg, 0, none⟩)) ∧ U.cell? ⟨H.sb, 2, none⟩ = some (.pointer (some ⟨H.z.s, 0, none⟩)) ∧ U.cell? ⟨xb, 0, none⟩ = some (.int .i64 c1) ∧ U.cell? ⟨xb, 1, none⟩ = some (.int .u64 (c2 : Int)) ∧ U.cell? ⟨xb, 2, none⟩ = some (.int .u64 (c3 : Int))) (first | exact HS1.out _ HB4.out HD4.out.t1 | exact HS1.out _ (But.of (Below.refl _ _).drew) (HD3.out.later (Below.refl _ _).drew).t1 | exact HS1.out _ (But.refl _ _) HD3.out.t1) (first
            | (go_at_call 13; refine (HT.out _ (Below.refl _ _).drew).mono ?_; rintro e v4 ⟨a4, cc4, rfl, hO4, hd4, hb4⟩; have HD4 := hid hd4; have HO4 := hid hO4; have HB4 := hid ((But.of (S := N) (Below.refl v3.heap.size v3).drew).trans hb4); clear hd4 hO4 hb4))
          go_upto_region 17 with fail
          go_region_held3 (fun U => U.cell? ⟨H.rb, 0, none⟩ = some (.pointer (some ⟨H.r, 0, none⟩)) ∧ U.cell? ⟨H.rb, 1, none⟩ = some (.pointer (some ⟨H.q, 0, none⟩)) ∧ U.cell? ⟨H.rb, 2, none⟩ = some (.pointer (some ⟨H.v, 0, none⟩)) ∧ U.cell? ⟨xb, 0, none⟩ = some (.int .i64 c1) ∧ U.cell? ⟨xb, 1, none⟩ = some (.int .u64 (c2 : Int)) ∧ U.cell? ⟨xb, 2, none⟩ = some (.int .u64 (c3 : Int))) (first | exact HS2.out _ (HB4.out.trans HB5.out) HD5.out.t2 | exact HS2.out _ (HB4.out.trans (But.of (Below.refl _ _).drew)) (HD4.out.later (Below.refl _ _).drew).t2 | exact HS2.out _ HB4.out HD4.out.t2) (first
            | (go_at_call 22; refine (HRt.out _ N sA (HD4.out.later (Below.refl _ _).drew)).mono ?_; rintro e v5 ⟨a5, cc5, rfl, hO5, N5, hd5, hw5, hk5⟩; have HD5 := hid hd5; have HO5 := hid hO5; have HW5 := hid ((Went.later (N := N) (Below.refl v4.heap.size v4).drew).trans hw5); have HB5 := hid HW5.out.2; clear hd5 hO5 hw5 hk5))
          have HR4 := hid ((HO4.out.rd HKN.out.symm).but HB5.out (fun k hk e => by have h1 := (HO4.out.blk k hk).1; have h2 := HD3.out.rng _ e; change v3.heap.size ≤ k at h1; omega))
          have HR5 := hid (HO5.out.rd HKN.out.symm)
          have HWt := hid ((Went.later (N := N) HB3.out).trans ((Went.stay HB4.out).trans HW5.out))
          have HTo := hid (fun (U : World) (hU : Below v5.heap.size v5 U) => told_any (HD5.out.later hU) HD5.out.inv)
          go_wp2_with (first
            | (go_at_call 15; refine (HTo.out _ HZ6.out).mono ?_; rintro e v7 ⟨rfl, hb7⟩; have HZ7 := hid (below_call HZ6.out hb7); clear hb7)
            | (go_at_call 24; refine (sameC_any _ _ HR4.out HR5.out hkb hkb).mono ?_; rintro e v6 ⟨rfl, q6, hw6⟩; have HZ6 : Hid (Below v5.heap.size v5 v6) := (by unfold Hid; rw [hw6]; exact below_drewN (Below.refl _ _) q6); rw [show decide (KL = KL) = true by simp]; clear hw6))
          refine ⟨⟨i + 1, sA, N5, HI.out, rfl, HAf.out HD5.out.inv, (HD5.out.mono (Nat.le_succ _)).later HZ7.out, below_call (HDr.out.went HBr.out HWt.out HBa.out) HZ7.out⟩, ?_⟩
          simp [intOf]; have := HI.out; omega
        · have hb5 : (o.kd == 5) = false := by simp [k5]
          clear k5
          by_cases k4 : o.kd = 4
          · have hb4 : (o.kd == 4) = true := by simp [k4]
            clear k4
            have HT := hid (fun (U : World) (hU : Below v3.heap.size v3 U) => object_any (HD3.out.later hU) (c1, c2, c3) HCo.out.2 HCo.out.1)
            have HRt := hid (fun (U : World) (N1 : Nat → Prop) (s1 : Sta) (hU : Duo U H s1 s i N1) => robject_any hU HFit.out.inv (c1, c2, c3) HCo.out.2)
            unfold Took at HT
            unfold RTook at HRt
            obtain ⟨A, hA⟩ : ∃ A, A = revA true s (c1, c2, c3) := ⟨_, rfl⟩
            rw [← hA] at HT HRt
            have HAf : Hid (Inv H.mo A.s.X A.s.l → Fit H.mo A.s) := fun hi => by
              rw [hA] at hi ⊢
              exact (revA_fit HFit.out true (c1, c2, c3) hi).1
            have hkl : A.K.length ≤ 256 := by rw [hA]; exact Nat.le_trans (revA_len HFit.out.inv _ _) HD3.out.hmo.2
            obtain ⟨KL, sA, E, hAe⟩ : ∃ KL sA E, A = ⟨KL, E, sA⟩ := ⟨_, _, _, rfl⟩
            subst hAe
            simp only at HT HRt HAf hkl
            obtain ⟨kn, hkn⟩ : ∃ kn, kn = KL.length := ⟨_, rfl⟩
            rw [← hkn] at HT HRt
            have HKN := hid hkn
            have hkb : kn ≤ 140737488355328 := by rw [hkn]; omega
            have hEE : (E == E) = true := by simp
            unfold cpV at HT HRt
            unfold wld at HRt
            clear hA hkn hkl
            go_upto_region 20 with fail
            go_region_held3 (fun U => U.cell? ⟨H.sb, 0, none⟩ = some (.pointer (some ⟨H.A.g, 0, none⟩)) ∧ U.cell? ⟨H.sb, 1, none⟩ = some (.pointer (some ⟨H.qg, 0, none⟩)) ∧ U.cell? ⟨H.sb, 2, none⟩ = some (.pointer (some ⟨H.z.s, 0, none⟩)) ∧ U.cell? ⟨xb, 0, none⟩ = some (.int .i64 c1) ∧ U.cell? ⟨xb, 1, none⟩ = some (.int .u64 (c2 : Int)) ∧ U.cell? ⟨xb, 2, none⟩ = some (.int .u64 (c3 : Int))) (first | exact HS1.out _ HB4.out HD4.out.t1 | exact HS1.out _ (But.of (Below.refl _ _).drew) (HD3.out.later (Below.refl _ _).drew).t1 | exact HS1.out _ (But.refl _ _) HD3.out.t1) (first
              | (go_at_call 12; refine (HT.out _ (Below.refl _ _).drew).mono ?_; rintro e v4 ⟨a4, cc4, rfl, hO4, hd4, hb4⟩; have HD4 := hid hd4; have HO4 := hid hO4; have HB4 := hid ((But.of (S := N) (Below.refl v3.heap.size v3).drew).trans hb4); clear hd4 hO4 hb4))
            go_upto_region 21 with fail
            go_region_held3 (fun U => U.cell? ⟨H.rb, 0, none⟩ = some (.pointer (some ⟨H.r, 0, none⟩)) ∧ U.cell? ⟨H.rb, 1, none⟩ = some (.pointer (some ⟨H.q, 0, none⟩)) ∧ U.cell? ⟨H.rb, 2, none⟩ = some (.pointer (some ⟨H.v, 0, none⟩)) ∧ U.cell? ⟨xb, 0, none⟩ = some (.int .i64 c1) ∧ U.cell? ⟨xb, 1, none⟩ = some (.int .u64 (c2 : Int)) ∧ U.cell? ⟨xb, 2, none⟩ = some (.int .u64 (c3 : Int))) (first | exact HS2.out _ (HB4.out.trans HB5.out) HD5.out.t2 | exact HS2.out _ (HB4.out.trans (But.of (Below.refl _ _).drew)) (HD4.out.later (Below.refl _ _).drew).t2 | exact HS2.out _ HB4.out HD4.out.t2) (first
              | (go_at_call 23; refine (HRt.out _ N sA (HD4.out.later (Below.refl _ _).drew)).mono ?_; rintro e v5 ⟨a5, cc5, rfl, hO5, N5, hd5, hw5, hk5⟩; have HD5 := hid hd5; have HO5 := hid hO5; have HW5 := hid ((Went.later (N := N) (Below.refl v4.heap.size v4).drew).trans hw5); have HB5 := hid HW5.out.2; clear hd5 hO5 hw5 hk5))
            have HR4 := hid ((HO4.out.rd HKN.out.symm).but HB5.out (fun k hk e => by have h1 := (HO4.out.blk k hk).1; have h2 := HD3.out.rng _ e; change v3.heap.size ≤ k at h1; omega))
            have HR5 := hid (HO5.out.rd HKN.out.symm)
            have HWt := hid ((Went.later (N := N) HB3.out).trans ((Went.stay HB4.out).trans HW5.out))
            have HTo := hid (fun (U : World) (hU : Below v5.heap.size v5 U) => told_any (HD5.out.later hU) HD5.out.inv)
            go_wp2_with (first
              | (go_at_call 15; refine (HTo.out _ HZ6.out).mono ?_; rintro e v7 ⟨rfl, hb7⟩; have HZ7 := hid (below_call HZ6.out hb7); clear hb7)
              | (go_at_call 24; refine (sameC_any _ _ HR4.out HR5.out hkb hkb).mono ?_; rintro e v6 ⟨rfl, q6, hw6⟩; have HZ6 : Hid (Below v5.heap.size v5 v6) := (by unfold Hid; rw [hw6]; exact below_drewN (Below.refl _ _) q6); rw [show decide (KL = KL) = true by simp]; clear hw6))
            refine ⟨⟨i + 1, sA, N5, HI.out, rfl, HAf.out HD5.out.inv, (HD5.out.mono (Nat.le_succ _)).later HZ7.out, below_call (HDr.out.went HBr.out HWt.out HBa.out) HZ7.out⟩, ?_⟩
            simp [intOf]; have := HI.out; omega
          · have hb4 : (o.kd == 4) = false := by simp [k4]
            have HG := hid (grow_any HD3.out HFit.out HIT.out o HOk.out)
            unfold Grew opV opC at HG
            have HGf := hid (growS_fit HFit.out HD3.out.nx1 HOk.out)
            obtain ⟨sg, hsg⟩ : ∃ sg, sg = growS H.mo s o := ⟨_, rfl⟩
            rw [← hsg] at HG HGf
            clear k4 hsg
            go_wp2_with (first
              | (go_at_call 15; refine (told_any HD4.out HD4.out.inv).mono ?_; rintro e v5 ⟨rfl, hb5⟩; have HB5 := hid hb5; clear hb5)
              | (go_at_call 8; refine HG.out.mono ?_; rintro e v4 ⟨rfl, N4, hd4, hw4⟩; have HD4 := hid hd4; have HW4 := hid hw4; clear hd4 hw4))
            refine ⟨⟨i + 1, sg, N4, HI.out, rfl, HGf.out, HD4.out.later HB5.out, below_call (HDr.out.went HBr.out ((Went.later (N := N) HB3.out).trans HW4.out) HBa.out) HB5.out⟩, ?_⟩
            simp [intOf]; have := HI.out; omega
    · have hdd : decide ((i : Int) < (sn : Int)) = false := decide_eq_false (by omega)
      have hin2 : ¬ (i : Int) < (sn : Int) := by omega
      have hin3 : decide (i < sn) = false := decide_eq_false hin
      go_wp2
      go_ret
      exact ⟨rfl, HBr.out⟩
end Go.Proofs.YtnjadfgfpebkdaaGreat.D
