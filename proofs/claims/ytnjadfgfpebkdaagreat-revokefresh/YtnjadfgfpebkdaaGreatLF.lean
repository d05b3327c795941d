import Derived.Test.YtnjadfgfpebkdaaGreatY1
import Derived.Test.YtnjadfgfpebkdaaGreatY2
import Derived.Test.YtnjadfgfpebkdaaGreatY3
import Derived.Test.YtnjadfgfpebkdaaGreatY4
import Derived.Test.YtnjadfgfpebkdaaGreatK1
namespace Go.Proofs.YtnjadfgfpebkdaaGreat.D
open Go.RowKit
open Go.Proofs.YtnjadfgfpebkdaaGreat.H (B64 Cp)
set_option linter.unusedVariables false

/-! ### RevokeFresh -/
def FroI (w : World) (H : Hd) (sn : Nat) (t : Value) (W : World) : Prop :=
  ∃ (i : Nat) (s : Sta) (N : Nat → Prop), i ≤ sn ∧ t = .int .i64 (i : Int) ∧ Fit H.mo s ∧ Duo W H s s i N ∧ Below w.heap.size w W
set_option maxRecDepth 100000 in
set_option maxHeartbeats 8000000 in
theorem fresh_any {w : World} {sa : Option Addr} {sn sc : Nat} {sf : Nat → Opr} (hs : Ss w sa sn sf) (hsn : sn ≤ 9223372036854775807) :
    Calls Tryz.prog 4 #[.slice sa sn sc] w fun e w' => e = .returned (.bool true) ∧ Below w.heap.size w w' := by
  have HHd := hid (fun U => head_any U)
  have HMd := hid (fun U => made_any 255 2 U)
  obtain ⟨mo, hmo⟩ : ∃ mo, mo = 1 + intoN 255 256 := ⟨_, rfl⟩
  rw [← hmo] at HMd
  have HSs := hid hs
  clear hs hmo
  go_enter Tryz.func4, Tryz.ntmps4
  go_upto_region 3 with (first
    | (go_at_call 6; refine (HHd.out _).mono ?_; rintro e v2 ⟨rfl, hb2⟩; have HB2 := hid hb2; clear hb2))
  go_upto_region 7 with (first
    | (go_at_call 7; refine (HMd.out v2).mono ?_; rintro e v3 ⟨H, N0, rfl, hmo2, hbase, hd2, hb2, hs1, hs2⟩; have HD2 := hid hd2; have HB3 := hid (below_call HB2.out hb2); have HMo := hid hmo2; have HBa : Hid (w.heap.size ≤ H.base) := hid (by rw [hbase]; exact HB2.out.size); have HSB := hid hs1; have HSR := hid hs2; clear hd2 hb2 hs1 hs2 hmo2 hbase))
  go_loopw [5] (FroI w H sn) (fun t _ => sn - (intOf t).toNat)
  case atStart => exact ⟨0, s0 mo, N0, Nat.zero_le _, rfl, by rw [HMo.out]; exact fit0 mo, HD2.out, HB3.out⟩
  case round =>
    obtain ⟨i, s, N, hi, rfl, hf, hd, hB⟩ := hrel
    have HFit := hid hf
    have HDr := hid hd
    have HBr := hid hB
    clear hf hd hB
    by_cases hin : i < sn
    · have hdd : decide ((i : Int) < (sn : Int)) = true := decide_eq_true (by omega)
      have hin2 : (i : Int) < (sn : Int) := by omega
      obtain ⟨b, off, rfl, hrow⟩ := (HSs.out.later HBr.out).at_ (by omega)
      obtain ⟨q0, q1, q2, q3, q4, q5, q6, q7, q8, q9⟩ := hrow i hin
      have HOk := hid (HSs.out.ok i hin)
      obtain ⟨o, ho⟩ : ∃ o, o = sf i := ⟨_, rfl⟩
      rw [← ho] at q0 q1 q2 q3 q4 q5 q6 q7 q8 q9 HOk
      have HI := hid hin
      have HIT : Hid (i < 9223372036854775807) := by unfold Hid; omega
      have HG := hid (grow_any HDr.out HFit.out HIT.out o HOk.out)
      unfold Grew opV opC at HG
      have HGf := hid (growS_fit HFit.out HDr.out.nx1 HOk.out)
      obtain ⟨sg, hsg⟩ : ∃ sg, sg = growS H.mo s o := ⟨_, rfl⟩
      rw [← hsg] at HG HGf
      clear hrow ho hi hin hsg
      by_cases k3 : o.kd < 3
      · have hk3 : decide (o.kd < 3) = true := decide_eq_true k3
        go_wp2_with (first
          | (go_at_call 8; refine HG.out.mono ?_; rintro e v4 ⟨rfl, N4, hd4, hw4⟩; have HD4 := hid hd4; have HW4 := hid hw4; clear hd4 hw4))
        refine ⟨⟨i + 1, sg, N4, HI.out, rfl, HGf.out, HD4.out, HDr.out.went HBr.out HW4.out HBa.out⟩, ?_⟩
        simp [intOf]; have := HI.out; omega
      · have hk3 : decide (o.kd < 3) = false := decide_eq_false k3
        go_wp2
        refine ⟨⟨i + 1, s, N, HI.out, rfl, HFit.out, HDr.out.mono (Nat.le_succ _), HBr.out⟩, ?_⟩
        simp [intOf]; have := HI.out; omega
    · obtain rfl : i = sn := by omega
      have hdd : decide ((i : Int) < (i : Int)) = false := by simp
      have hin2 : ¬ (i : Int) < (i : Int) := by omega
      clear hin hi
      obtain ⟨Os, hst, hvw⟩ := HDr.out.st
      have hvl : Os.length = s.V.length := by rw [← hvw, S.vw_length]
      have k2 : Hid (∀ (U : World), Below wr.heap.size wr U → Calls Tryz.prog 9 #[.pointer (some ⟨H.z.s, 0, none⟩)] U fun e w' => ∃ a c, e = .returned (.slice a s.V.length c) ∧ Own w' U.heap.size 3 a s.V.length c (ints (s.V.map Prod.fst)) ∧ Below U.heap.size U w') := fun U hU => by
        refine (S.st_ids H.z s.nx Os U (hst.later hU)).mono ?_
        rintro e w' ⟨a, c, rfl, ho, hb⟩
        refine ⟨a, c, by rw [hvl], ?_, hb⟩
        rw [← hvw]
        rw [hvl, ← hvw] at ho
        unfold S.vw at ho ⊢
        rw [List.map_map]
        exact ho
      have t2 := HDr.out.t1.c2
      obtain ⟨nn, hnn⟩ : ∃ nn, nn = s.V.length := ⟨_, rfl⟩
      rw [← hnn] at k2
      have HNn := hid hnn
      clear hst hvw hvl hnn
      go_upto_region 14 with (first
        | (go_at_call 9; refine (k2.out _ (Below.refl _ _)).mono ?_; rintro e v5 ⟨a5, c5, rfl, hO5, hb5⟩; have HB5 := hid hb5; have HO5 := hid hO5; clear hb5 hO5 t2))
      obtain ⟨ids, hids⟩ : ∃ ids, ids = s.V.map Prod.fst := ⟨_, rfl⟩
      rw [← hids] at HO5
      have HIl : Hid (ids.length = nn) := by unfold Hid; rw [hids, List.length_map, HNn.out]
      have hl8 : nn ≤ 8 := by
        obtain ⟨G6, a6, c6, col6, hrs⟩ := HDr.out.rs
        rw [HNn.out]; exact hrs.rm.1
      have HIdo : Hid (∀ y ∈ ids, S.i64ok y) := fun y hy => by
        rw [hids] at hy
        obtain ⟨p, hp, rfl⟩ := List.mem_map.1 hy
        obtain ⟨G6, a6, c6, col6, hrs⟩ := HDr.out.rs
        have h1 := hrs.ids p hp
        have h2 := hrs.nx1
        unfold S.i64ok
        omega
      have HPw : Hid (ids.Pairwise (· < ·)) := by
        obtain ⟨G6, a6, c6, col6, hrs⟩ := HDr.out.rs
        unfold Hid
        rw [hids, List.pairwise_map]
        exact hrs.rise
      have HS0 : Hid (F2S w H i a5 nn c5 ids 0 none 0 0 v5) := by
        have hlo := HBr.out.size
        have hng : ∀ k, N k → k < v5.heap.size ∧ k < wr.heap.size ∧ w.heap.size ≤ k := fun k hk => by
          have h1 := HDr.out.rng k hk
          have h2 := HB5.out.size
          have h3 := HBa.out
          exact ⟨by omega, h1.2.1, by omega⟩
        have hsb := HDr.out.t1.lt
        have hrb := HDr.out.t2.lt
        have h2 := HB5.out.size
        have hcb : Cb v5 w.heap.size (paint wr v5 3 (fun _ => 0)) := Cb.paint ⟨fun k h => absurd rfl h, fun k h => absurd rfl h, hlo⟩ h2 3
        refine ⟨s, N, paint wr v5 3 (fun _ => 0), fun _ => (none, 0, 0), fun _ => [], HFit.out, HDr.out.later HB5.out, ⟨below_call HBr.out HB5.out, hcb, fun k hk => ⟨(hng k hk).1, by rw [paint_old (hng k hk).2.1], (hng k hk).2.2⟩, ⟨by omega, by rw [paint_old hsb]⟩, ⟨by omega, by rw [paint_old hrb]⟩⟩, Sf.nil _ _ _ _ _ _ _, ⟨(show Ow v5 wr.heap.size 3 1 a5 nn c5 (ints ids) from HO5.out.row).mono hlo, fun k hk => paint_new (HO5.out.blk k hk) (HO5.out.lt k hk)⟩, fun j hj => by omega, fun j hj y hy => ?_⟩
        have hm := List.mem_of_getElem? hy
        rw [hids] at hm
        obtain ⟨p, hp, e⟩ := List.mem_map.1 hm
        exact (HFit.out.obj y).1 ⟨p, hp, e⟩
      clear hids k2
      go_loopw [6, 9] (fun t6 t9 W => ∃ (j : Nat) (aA : Option Addr) (cA : Nat), j ≤ nn ∧ t6 = .slice aA (2 * j) cA ∧ t9 = .int .i64 (j : Int) ∧ Hid (F2S w H i a5 nn c5 ids j aA (2 * j) cA W)) (fun _ t _ => nn - (intOf t).toNat)
      case atStart => exact ⟨0, none, 0, Nat.zero_le _, rfl, rfl, HS0⟩
      case round =>
        obtain ⟨j, aA, cA, hj, rfl, rfl, HJ⟩ := hrel
        by_cases hlt : j < nn
        · refine rf_2 (H := H) (T0 := i) a5 aA nn c5 j (2 * j) cA ids w wr HJ.out rfl hlt hl8 HIl.out HPw.out HIdo.out ?_
          intro a9 c9 w' hW
          have HW := hid hW
          clear hW HJ
          intros
          go_wp2
          exact ⟨⟨j + 1, a9, c9, hlt, rfl, rfl, HW⟩, by simp [intOf]; omega⟩
        obtain rfl : j = nn := by omega
        obtain ⟨s2, N2, col2, T, K, hf2, hd2, hg2, hA2, hI2, hk2, -⟩ := HJ.out
        obtain ⟨nA, hnA⟩ : ∃ nA, nA = 2 * j := ⟨_, rfl⟩
        have HA3 : Hid (F3S w H i s2 N2 aA nA cA T 0 0 wr) := by
          rw [hnA]
          exact ⟨col2, K, hd2, hg2, hA2, hk2, Mk.zero _ _⟩
        rw [← hnA]
        have hnA100 : nA ≤ 100 := by omega
        have hdx : decide ((j : Int) < (j : Int)) = false := by simp
        have hdy : ¬ (j : Int) < (j : Int) := by omega
        clear hf2 hd2 hg2 hA2 hI2 hk2 hnA hlt hj HJ HS0
        go_upto_region 26 with fail
        go_loopw [20] (fun t W => ∃ k : Nat, k ≤ nA ∧ t = .int .i64 (k : Int) ∧ Hid (F3S w H i s2 N2 aA nA cA T k 0 W)) (fun t _ => nA - (intOf t).toNat)
        case atStart => exact ⟨0, Nat.zero_le _, rfl, HA3⟩
        case round =>
          obtain ⟨k, hk, rfl, HKk⟩ := hrel
          by_cases hlt : k < nA
          · refine rf_3 (H := H) (T0 := i) (s := s2) (N := N2) aA nA cA k T w wr HKk.out hlt hnA100 ?_
            intro w' hW
            have HW := hid hW
            clear hW HKk
            intros
            go_wp2
            exact ⟨⟨k + 1, hlt, rfl, HW⟩, by simp [intOf]; omega⟩
          obtain rfl : k = nA := by omega
          obtain ⟨col3, K3, hd3, hg3, hA4, hk3, hm3⟩ := HKk.out
          have HM3 := hid hm3
          have HL3 := hid hk3
          have HA5 : Hid (F5S w H i s2 N2 aA k cA T K3 none 0 0 wr) := ⟨col3, fun _ => (none, 0, 0), fun _ => [], hd3, hg3, hA4, Sf.nil _ _ _ _ _ _ _, fun j' hj' => by omega⟩
          have hdz : decide ((k : Int) < (k : Int)) = false := by simp
          have hdw : ¬ (k : Int) < (k : Int) := by omega
          clear hd3 hg3 hA4 hk3 hm3 hlt hk HKk HA3
          go_upto_region 33 with fail
          go_loopw [7, 22] (fun t7 t22 W => ∃ (l : Nat) (aM : Option Addr) (cM : Nat), l ≤ k ∧ t7 = .slice aM l cM ∧ t22 = .int .i64 (l : Int) ∧ Hid (F5S w H i s2 N2 aA k cA T K3 aM l cM W)) (fun _ t _ => k - (intOf t).toNat)
          case atStart => exact ⟨0, none, 0, Nat.zero_le _, rfl, rfl, HA5⟩
          case round =>
            obtain ⟨l, aM, cM, hl, rfl, rfl, HL⟩ := hrel
            by_cases hlt : l < k
            · refine rf_5 (H := H) (T0 := i) (s := s2) (N := N2) aA aM k cA l cM T K3 w wr HL.out hlt hnA100 HL3.out ?_
              intro a9 c9 w' hW
              have HW := hid hW
              clear hW HL
              intros
              go_wp2
              exact ⟨⟨l + 1, a9, c9, hlt, rfl, rfl, HW⟩, by simp [intOf]; omega⟩
            obtain rfl : l = k := by omega
            obtain ⟨col5, T2, K2, hd5, hg5, hA5, hM5, hk5⟩ := HL.out
            have HD5 := hid hd5
            have HG5 := hid hg5
            have HA6 := hid hA5
            have HM5 := hid hM5
            have HK5 := hid hk5
            clear hd5 hg5 hA5 hM5 hk5 hlt hl HL HA5
            go_upto_region 37 with fail
            go_loopw [23] (fun t W => ∃ m : Nat, m ≤ l ∧ t = .int .i64 (m : Int) ∧ wr = W) (fun t _ => l - (intOf t).toNat)
            case atStart => exact ⟨0, Nat.zero_le _, rfl, rfl⟩
            case round =>
              obtain ⟨m, hm, rfl, rfl⟩ := hrel
              by_cases hlt : m < l
              · refine rf_6 (col := col5) aA aM l cA m cM T T2 K3 K2 w wr HA6.out HM5.out HM3.out HK5.out hlt hnA100 HL3.out ?_
                intro w' hW
                subst hW
                intros
                go_wp2
                exact ⟨⟨m + 1, hlt, rfl, by first | trivial | rfl⟩, by simp [intOf]; omega⟩
              obtain rfl : m = l := by omega
              clear hlt hm
              have HTo := hid (told_any HD5.out HD5.out.inv)
              go_wp2_with (first
                | (go_at_call 15; refine HTo.out.mono ?_; rintro e v9 ⟨rfl, hb9⟩; have HB9 := hid hb9; clear hb9))
              go_ret
              exact ⟨rfl, below_call HG5.out.bel HB9.out⟩
end Go.Proofs.YtnjadfgfpebkdaaGreat.D
