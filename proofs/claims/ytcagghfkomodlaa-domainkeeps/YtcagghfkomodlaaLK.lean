import Derived.Test.YtcagghfkomodlaaK1
namespace Go.Proofs.Ytcagghfkomodlaa
open Go.RowKit
set_option linter.unusedVariables false
set_option linter.unusedSimpArgs false

def L1Rel (w0 : World) (g : Nat) (M : Int) (n : Nat) (s t : Value) (w : World) : Prop :=
  ∃ (i : Nat) (K : List Cp) (pa : Option Addr) (cap : Nat) (a : Option Addr) (c : Nat), i ≤ n ∧ i ≤ 64 ∧ s = .slice a K.length c ∧ t = .int .i64 (i : Int) ∧ (K.length : Int) ≤ M ∧ Kp w0 w g M pa cap K a c K
def L2Rel (w0 : World) (g : Nat) (M : Int) (n : Nat) (s t : Value) (w : World) : Prop :=
  ∃ (i : Nat) (K : List Cp) (pa : Option Addr) (cap : Nat) (a : Option Addr) (c : Nat), i ≤ n ∧ i ≤ 64 ∧ s = .slice a K.length c ∧ t = .int .i64 (i : Int) ∧ (K.length : Int) ≤ M ∧ Kr w0 w g M pa cap a c K
def L3Rel (wb : World) (K : List Cp) (P : List Int) (s t : Value) (w : World) : Prop :=
  ∃ i : Nat, i ≤ P.length ∧ s = .bool ((P.take i).all (okI K)) ∧ t = .int .i64 (i : Int) ∧ Below wb.heap.size wb w
def L4Rel (wb : World) (n : Nat) (t : Value) (w : World) : Prop := ∃ i : Nat, i ≤ n ∧ t = .int .i64 (i : Int) ∧ ∃ q, w = wb.drewN q
set_option maxRecDepth 100000 in
set_option maxHeartbeats 20000000 in
theorem keeps_any (most : Int) (w : World) {al ar ap : Option Addr} {nl cl nr cr np cp : Nat} {LL : List Cp} {R P : List Int} (hl : Rd w al nl LL) (hR : Row w ar nr cr (ints R)) (hP : Row w ap np cp (ints P)) (hnl : nl ≤ 9223372036854775807) (hnr : nr ≤ 9223372036854775807) (hnp : np ≤ 9223372036854775807) :
    Calls Try.prog 3 #[.int .i64 most, .slice al nl cl, .slice ar nr cr, .slice ap np cp] w fun e w' => e = .returned (.bool true) ∧ Below w.heap.size w w' := by
  have h1 := hl.len
  have h2 : R.length = nr := by have := hR.len; rwa [ints_length] at this
  have h3 : P.length = np := by have := hP.len; rwa [ints_length] at this
  subst h1 h2 h3
  have HL := hid hl
  have HR := hid hR
  have HP := hid hP
  have hin := hid (into_any most 32 w (by omega) (by omega))
  obtain ⟨k, hk⟩ : ∃ k, k = intoN most 32 := ⟨_, rfl⟩
  have hk32 : k < 32 := by rw [hk]; exact intoN_lt most (by omega)
  rw [← hk] at hin
  clear hk hl hR hP
  go_enter Try.func3, Try.ntmps3
  go_upto_region 2 with (first | (go_at_call 6; refine hin.out.mono ?_; rintro e w9 ⟨rfl, hw9⟩; obtain rfl := hw9.symm; clear hw9))
  obtain ⟨M, hM⟩ : ∃ M : Int, M = 1 + (k : Int) := ⟨_, rfl⟩
  rw [← hM]
  have hM1 : 1 ≤ M := by omega
  have hM2 : M ≤ 32 := by omega
  clear hM hk32 hin
  have hne := hid (new_ok M w hM1 hM2)
  go_upto_region 3 with (first | (go_at_call 7; refine hne.out.mono ?_; rintro e w1 ⟨g, rfl, hd1, hb1⟩; have HD1 := hid hd1; have HB1 := hid hb1; clear hd1 hb1))
  have hkn := hid (known_any w1)
  go_upto_region 5 with (first | (go_at_call 8; refine hkn.out.mono ?_; rintro e w2 ⟨rfl, hb2⟩; have HB2 := hid hb2; clear hb2))
  have H0 : Hid (L1Rel w g M LL.length (.slice none 0 0) (.int .i64 0) w2) := ⟨0, [], none, 0, none, 0, by omega, by omega, rfl, rfl, by simp; omega, HD1.out.later HB2.out, Ow.nil _ _ _ _, fun k hk => (by obtain ⟨_, e, _⟩ := hk; cases e), below_call HB1.out HB2.out⟩
  clear hne hkn HD1 HB1 HB2
  go_upto_region 7 with fail
  go_loopw [11, 12] (L1Rel w g M LL.length) (fun _ t _ => LL.length - (intOf t).toNat)
  case atStart => exact H0.out
  case round =>
    clear H0
    obtain ⟨i, K, pa, cap, a, c, hi, hi64, rfl, rfl, hKM, hkp⟩ := hrel
    have HK := hid hkp
    clear hkp
    go_upto_region 7 with fail
    go_cut [50] (fun q w' => q = .bool (decide (i < LL.length ∧ i < 64)) ∧ wr = w')
    case first =>
      by_cases hlt : i < LL.length
      · have hd1 : decide ((i : Int) < (LL.length : Int)) = true := decide_eq_true (by omega)
        by_cases h64 : i < 64
        · have hd2 : decide ((i : Int) < 64) = true := decide_eq_true (by omega)
          go_wp2
          go_meet
          case rel => exact ⟨by rw [decide_eq_true ⟨hlt, h64⟩], rfl⟩
        · have hd2 : decide ((i : Int) < 64) = false := decide_eq_false (by omega)
          go_wp2
          go_meet
          case rel => exact ⟨by rw [decide_eq_false (fun h => h64 h.2)], rfl⟩
      · have hd1 : decide ((i : Int) < (LL.length : Int)) = false := decide_eq_false (by omega)
        go_wp2
        go_meet
        case rel => exact ⟨by rw [decide_eq_false (fun h => hlt h.1)], rfl⟩
    case rest =>
      obtain ⟨rfl, rfl⟩ := hcut
      by_cases hlt : i < LL.length ∧ i < 64
      · rw [decide_eq_true hlt]
        obtain ⟨hlt, h64⟩ := hlt
        obtain ⟨x, hx⟩ : ∃ x, LL[i]? = some x := ⟨_, List.getElem?_eq_getElem hlt⟩
        obtain ⟨bl, ol, rfl, hat⟩ := HL.out.at_ (by omega)
        have HX := hid (fun (U : World) (hU : Below w.heap.size w U) => (hat i x hx).later hU)
        obtain ⟨x0, x1, x2⟩ := HX.out wr HK.out.bl
        clear hat hx
        by_cases hfull : M ≤ (K.length : Int)
        · have had := hid (add_full HK.out.dm x hfull)
          have hf1 : decide ((K.length : Int) < M) = false := decide_eq_false (by omega)
          go_upto_region 10 with (first | (go_at_call 9; refine had.out.mono ?_; rintro e w3 ⟨rfl, hb3⟩; have HB3 := hid hb3; clear hb3))
          clear x0 x1 x2
          go_wp2
          exact ⟨⟨i + 1, K, pa, cap, a, c, by omega, by omega, rfl, by go_num, hKM, HK.out.later HB3.out⟩, by simp [intOf]; omega⟩
        · have had := hid (add_more HK.out.dm x (by omega) hM2)
          have hf1 : decide ((K.length : Int) < M) = true := decide_eq_true (by omega)
          go_upto_region 10 with (first | (go_at_call 9; refine had.out.mono ?_; rintro e w3 ⟨pa3, cap3, rfl, hd3, hr3⟩; have HK3 := hid (HK.out.wr hd3 hr3); clear hd3 hr3))
          clear x0 x1 x2
          obtain ⟨x0, x1, x2⟩ := HX.out w3 HK3.out.bl
          obtain ⟨a4, c4, w4, hr4, hk4⟩ := HK3.out.app x (by omega)
          have HR4 := hid hr4
          have HK4 : Hid (Kp w w4 g M pa3 cap3 (K ++ [x]) a4 c4 (K ++ [x])) := hk4
          clear hr4 hk4
          go_wp2_with (first | (at_builtin; refine wpList_append_known rfl _ _ 22 rfl _ _ rfl rfl _ w4 HR4.out ?_))
          exact ⟨⟨i + 1, K ++ [x], pa3, cap3, a4, c4, by omega, by omega, by simp, by go_num, by simp; omega, HK4.out⟩, by simp [intOf]; omega⟩
      · rw [decide_eq_false hlt]
        clear hlt
        have HKR := hid HK.out.kr
        clear HK
        obtain ⟨wb, hwb⟩ : ∃ wb, wb = wr := ⟨_, rfl⟩
        rw [← hwb] at HKR ⊢
        clear hwb
        have H0 : Hid (L2Rel w g M R.length (.slice a K.length c) (.int .i64 0) wb) := ⟨0, K, pa, cap, a, c, by omega, by omega, rfl, rfl, hKM, HKR.out⟩
        clear HKR hi hi64
        go_upto_region 15 with fail
        go_loopw [11, 14] (L2Rel w g M R.length) (fun _ t _ => R.length - (intOf t).toNat)
        case atStart => exact H0.out
        case round =>
          clear H0 hKM
          obtain ⟨i, K, pa, cap, a, c, hi, hi64, rfl, rfl, hKM, hkr⟩ := hrel
          have HK := hid hkr
          clear hkr
          go_upto_region 15 with fail
          go_cut [90] (fun q w' => q = .bool (decide (i < R.length ∧ i < 64)) ∧ wr = w')
          case first =>
            by_cases hlt : i < R.length
            · have hd1 : decide ((i : Int) < (R.length : Int)) = true := decide_eq_true (by omega)
              by_cases h64 : i < 64
              · have hd2 : decide ((i : Int) < 64) = true := decide_eq_true (by omega)
                go_wp2
                go_meet
                case rel => exact ⟨by rw [decide_eq_true ⟨hlt, h64⟩], rfl⟩
              · have hd2 : decide ((i : Int) < 64) = false := decide_eq_false (by omega)
                go_wp2
                go_meet
                case rel => exact ⟨by rw [decide_eq_false (fun h => h64 h.2)], rfl⟩
            · have hd1 : decide ((i : Int) < (R.length : Int)) = false := decide_eq_false (by omega)
              go_wp2
              go_meet
              case rel => exact ⟨by rw [decide_eq_false (fun h => hlt h.1)], rfl⟩
          case rest =>
            obtain ⟨rfl, rfl⟩ := hcut
            by_cases hlt : i < R.length ∧ i < 64
            · rw [decide_eq_true hlt]
              obtain ⟨hlt, h64⟩ := hlt
              obtain ⟨x, hx⟩ : ∃ x, R[i]? = some x := ⟨_, List.getElem?_eq_getElem hlt⟩
              obtain ⟨br, or_, rfl, hat⟩ := HR.out.plain (by omega)
              have HY := hid (fun (U : World) (hU : Below w.heap.size w U) => cell_later hU (hat i (.int .i64 x) (by simp only [ints, List.getElem?_map, hx, Option.map_some])))
              have y0 := HY.out wr HK.out.bl
              clear hat hx
              have hKL : K.length ≤ 32 := by omega
              by_cases hok : okI K x = true
              · obtain ⟨k, rfl, hk, hkc⟩ := atC_ok hok
                obtain ⟨z, hz⟩ : ∃ z, z = atC K (k : Int) := ⟨_, rfl⟩
                rw [← hz] at hkc
                obtain ⟨r, hr⟩ : ∃ r, K.length = k + r + 1 := ⟨K.length - k - 1, by omega⟩
                have hre := hid (rem_ok HK.out.dm k z hkc hKL)
                have hd1 : decide ((k : Int) < 0) = false := decide_eq_false (by omega)
                have hd2 : decide ((k : Int) ≥ (K.length : Int)) = false := decide_eq_false (by omega)
                have HRM := hid (fun (w3 : World) (hd : Dm w3 w.heap.size g M pa cap (K.take k ++ K.drop (k + 1))) (hr : Wr wr w3 g pa pa) => HK.out.rem hd hr)
                have HRR := hid hr
                have HKC := hid hkc
                have HCC := hid HK.out.cc
                clear hz hr hkc
                go_upto_region 18 with (first | (go_at_call 10; refine hre.out.mono ?_; rintro e w3 ⟨rfl, hd3, hr3⟩; have H3 := hid (HRM.out w3 hd3 hr3); clear hd3 hr3))
                obtain ⟨w4, hw4⟩ : ∃ w4, w4 = w3.alloc (Obj.cells #[.int .i64 z.1, .int .u64 (z.2.1 : Int), .int .u64 (z.2.2 : Int)] 35) := ⟨_, rfl⟩
                have hB34 : Below w3.heap.size w3 w4 := by rw [hw4]; exact below1 _ _
                obtain ⟨q0, q1, q2⟩ : Cel w4 w3.heap.size 0 z := by rw [hw4]; exact ⟨by simp [go_sem], by simp [go_sem], by simp [go_sem]⟩
                rw [← hw4]
                clear hw4 y0 hre
                have HB4 := hid (H3.out.2.1.trans (hB34.mono H3.out.2.1.size))
                have y0 := HY.out w4 HB4.out
                have hRd4 := H3.out.1.later hB34
                obtain ⟨bo, oo, rfl, hat⟩ := hRd4.at_ (by omega)
                obtain ⟨v0, v1, v2⟩ := hat k z HKC.out
                have HRD4 := hid hRd4
                have HB34 := hid hB34
                have heq := fun W => neqC z.1 (z.2.1 : Int) (z.2.2 : Int) z.1 (z.2.1 : Int) (z.2.2 : Int) W
                have hq1 : cEq z.1 (z.2.1 : Int) (z.2.2 : Int) z.1 (z.2.1 : Int) (z.2.2 : Int) = true := by simp [cEq]
                simp only [hq1] at heq
                have hkK : (k : Int) < (K.length : Int) := by omega
                clear hat hRd4 hB34 hq1
                go_upto_region 21 with fail
                go_quiet (fail)
                have HB5 := hid (below_drewN HB4.out nq)
                have HB45 := hid (below_drewN HB34.out nq)
                have hRd5 := HRD4.out.later (below_drewN (Below.refl _ _) nq)
                obtain ⟨a, ha⟩ : ∃ a : Option Addr, a = some ⟨bo, oo, none⟩ := ⟨_, rfl⟩
                rw [← ha] at hRd5 H3 HK
                go_upto_region 23 with fail
                generalize w4.drewN nq = w5 at *
                rw [← ha]
                clear ha q0 q1 q2 v0 v1 v2 y0 heq HRD4 HB34 HB4
                have hs1 := fun W => slice_hm W a K.length c k (by have := HCC.out; omega)
                have hs2 := fun W => slice_l W a K.length c (k + 1) (by omega) HCC.out
                rw [show ((k + 1 : Nat) : Int) = (k : Int) + 1 by omega, show K.length - (k + 1) = r by have := HRR.out; omega] at hs2
                have HS1 := hid hs1
                have HS2 := hid hs2
                have hwr1 : IntKind.i64.wrap ((k : Int) + 1) = (k : Int) + 1 := by rw [IntKind.wrap_i64]; omega
                rw [HRR.out] at hRd5
                obtain ⟨a6, c6, w6, hrun, hrd6, hcc6, hb6, hbk6⟩ := own_rem (c := c) (hRd5.later (Below.refl _ _).drew) (by have := HCC.out; have := HRR.out; omega) (by have := HRR.out; omega) (fun j hj => by have h4 := H3.out.2.2.1; have h5 := HK.out.lt j hj; have h6 := HB45.out.size; have h8 : w5.drew.heap.size = w5.heap.size := rfl; omega)
                have hlen6 : (K.take k ++ K.drop (k + 1)).length = k + r := by have := HRR.out; simp; omega
                have HRUN := hid hrun
                have HKN : Hid (Kr w w6 g M pa cap a6 c6 (K.take k ++ K.drop (k + 1))) := by
                  refine H3.out.2.2.2 (w5.drew) w6 a6 c6 (HB45.out.trans ((Below.refl _ _).drew.mono HB45.out.size)) hb6 (by rw [hlen6]; exact hrd6) (by rw [hlen6]; exact hcc6) (fun j hj => hbk6 j hj)
                have HLEN6 := hid hlen6
                have hKM6 : Hid ((k : Int) + (r : Int) ≤ M) := by have := HRR.out; show (k : Int) + (r : Int) ≤ M; omega
                clear hs1 hs2 hRd5 hrun hrd6 hcc6 hb6 hbk6 hlen6 H3 HRM
                refine wp_region_held_drew (S := (fun U : World => U.cell? ⟨br, or_ + i, none⟩ = some (.int .i64 (k : Int)))) (by kernel_rfl) (HY.out _ (HB5.out.trans ((Below.refl _ _).drew.mono HB5.out.size))) (fun hHeld => ?_)
                refine wpAnyH_norm (l2 := #[false, false, false, false, false, false, false, false, false, false, false, false, false, false, false, false, false, false, false]) (f2 := 19) (by kernel_rfl) (by kernel_rfl) ?_
                refine wpAnyH_take (i := 0) (oi := _) (v := ?_) rfl (by kernel_rfl) (by kernel_rfl) (by kernel_rfl) (fun _ _ _ h => h) (Or.inl ⟨by rfl, ?_⟩) (by assumption) ?_
                rotate_left
                · (intro w hSw; (try dsimp only at hSw); go_simp; try with_reducible rfl)
                simp only [List.getElem_toArray, List.getElem_cons_succ, List.getElem_cons_zero, Act.put, List.setIfInBounds_toArray, List.set_cons_zero, List.set_cons_succ]
                refine wpAnyH_norm (l2 := #[true, false, false, false, false, false, false, false, false, false, false, false, false, false, false, false, false, false, false]) (f2 := 18) (by kernel_rfl) (by kernel_rfl) ?_
                refine wpAnyH_take (i := 1) (oi := _) (v := ?_) rfl (by kernel_rfl) (by kernel_rfl) (by kernel_rfl) (fun _ _ _ h => h) (Or.inl ⟨by rfl, ?_⟩) (by assumption) ?_
                rotate_left
                · (intro w hSw; (try dsimp only at hSw); go_simp; try with_reducible rfl)
                simp only [List.getElem_toArray, List.getElem_cons_succ, List.getElem_cons_zero, Act.put, List.setIfInBounds_toArray, List.set_cons_zero, List.set_cons_succ]
                refine wpAnyH_norm (l2 := #[true, true, false, false, false, false, false, false, false, false, false, false, false, false, false, false, false, false, false]) (f2 := 17) (by kernel_rfl) (by kernel_rfl) ?_
                refine wpAnyH_take (i := 2) (oi := _) (v := ?_) rfl (by kernel_rfl) (by kernel_rfl) (by kernel_rfl) (fun _ _ _ h => h) (Or.inl ⟨by rfl, ?_⟩) (by assumption) ?_
                rotate_left
                · (intro w hSw; (try dsimp only at hSw); go_simp; try with_reducible rfl)
                simp only [List.getElem_toArray, List.getElem_cons_succ, List.getElem_cons_zero, Act.put, List.setIfInBounds_toArray, List.set_cons_zero, List.set_cons_succ]
                refine wpAnyH_norm (l2 := #[true, true, true, false, false, false, false, false, false, false, false, false, false, false, false, false, false, false, false]) (f2 := 16) (by kernel_rfl) (by kernel_rfl) ?_
                refine wpAnyH_take (i := 3) (oi := _) (v := ?_) rfl (by kernel_rfl) (by kernel_rfl) (by kernel_rfl) (fun _ _ _ h => h) (Or.inl ⟨by rfl, ?_⟩) (by assumption) ?_
                rotate_left
                · (intro w hSw; (try dsimp only at hSw); go_simp; try with_reducible rfl)
                simp only [List.getElem_toArray, List.getElem_cons_succ, List.getElem_cons_zero, Act.put, List.setIfInBounds_toArray, List.set_cons_zero, List.set_cons_succ]
                refine wpAnyH_norm (l2 := #[true, true, true, true, false, false, false, false, false, false, false, false, false, false, false, false, false, false, false]) (f2 := 15) (by kernel_rfl) (by kernel_rfl) ?_
                refine wpAnyH_take (i := 4) (oi := _) (v := ?_) rfl (by kernel_rfl) (by kernel_rfl) (by kernel_rfl) (fun _ _ _ h => h) (Or.inl ⟨by rfl, ?_⟩) (by assumption) ?_
                rotate_left
                · (intro w hSw; (try dsimp only at hSw); go_simp; try with_reducible rfl)
                simp only [List.getElem_toArray, List.getElem_cons_succ, List.getElem_cons_zero, Act.put, List.setIfInBounds_toArray, List.set_cons_zero, List.set_cons_succ]
                refine wpAnyH_norm (l2 := #[true, true, true, true, true, false, false, false, false, false, false, false, false, false, false, false, false, false, false]) (f2 := 14) (by kernel_rfl) (by kernel_rfl) ?_
                refine wpAnyH_take (i := 5) (oi := _) (v := ?_) rfl (by kernel_rfl) (by kernel_rfl) (by kernel_rfl) (fun _ _ _ h => h) (Or.inl ⟨by rfl, ?_⟩) (by assumption) ?_
                rotate_left
                · (intro w hSw; (try dsimp only at hSw); go_simp; try with_reducible rfl)
                simp only [List.getElem_toArray, List.getElem_cons_succ, List.getElem_cons_zero, Act.put, List.setIfInBounds_toArray, List.set_cons_zero, List.set_cons_succ]
                refine wpAnyH_norm (l2 := #[true, true, true, true, true, true, false, false, false, false, false, false, false, false, false, false, false, false, false]) (f2 := 13) (by kernel_rfl) (by kernel_rfl) ?_
                refine wpAnyH_take (i := 6) (oi := _) (v := ?_) rfl (by kernel_rfl) (by kernel_rfl) (by kernel_rfl) (fun _ _ _ h => h) (Or.inl ⟨by rfl, ?_⟩) (by assumption) ?_
                rotate_left
                · (intro w hSw; (try dsimp only at hSw); go_simp; try with_reducible rfl)
                simp only [List.getElem_toArray, List.getElem_cons_succ, List.getElem_cons_zero, Act.put, List.setIfInBounds_toArray, List.set_cons_zero, List.set_cons_succ]
                refine wpAnyH_norm (l2 := #[true, true, true, true, true, true, true, false, false, false, false, false, false, false, false, false, false, false, false]) (f2 := 12) (by kernel_rfl) (by kernel_rfl) ?_
                refine wpAnyH_take (i := 7) (oi := _) (v := ?_) rfl (by kernel_rfl) (by kernel_rfl) (by kernel_rfl) (fun _ _ _ h => h) (Or.inl ⟨by rfl, ?_⟩) (by assumption) ?_
                rotate_left
                · (intro w hSw; (try dsimp only at hSw); go_simp; try with_reducible rfl)
                simp only [List.getElem_toArray, List.getElem_cons_succ, List.getElem_cons_zero, Act.put, List.setIfInBounds_toArray, List.set_cons_zero, List.set_cons_succ]
                refine wpAnyH_norm (l2 := #[true, true, true, true, true, true, true, true, false, false, false, false, false, false, false, false, false, false, false]) (f2 := 11) (by kernel_rfl) (by kernel_rfl) ?_
                refine wpAnyH_take (i := 8) (oi := _) (v := ?_) rfl (by kernel_rfl) (by kernel_rfl) (by kernel_rfl) (fun _ _ _ h => h) (Or.inl ⟨by rfl, ?_⟩) (by assumption) ?_
                rotate_left
                · (intro w hSw; (try dsimp only at hSw); go_simp; try with_reducible rfl)
                simp only [List.getElem_toArray, List.getElem_cons_succ, List.getElem_cons_zero, Act.put, List.setIfInBounds_toArray, List.set_cons_zero, List.set_cons_succ]
                refine wpAnyH_norm (l2 := #[true, true, true, true, true, true, true, true, true, false, false, false, false, false, false, false, false, false, false]) (f2 := 10) (by kernel_rfl) (by kernel_rfl) ?_
                refine wpAnyH_take (i := 9) (oi := _) (v := .slice a k k) rfl (by kernel_rfl) (by kernel_rfl) (by kernel_rfl) (fun _ _ _ h => h) (Or.inl ⟨by rfl, ?_⟩) (by assumption) ?_
                · (intro w hSw; (try dsimp only at hSw); exact ex_slice rfl rfl rfl rfl rfl (HS1.out _))
                simp only [List.getElem_toArray, List.getElem_cons_succ, List.getElem_cons_zero, Act.put, List.setIfInBounds_toArray, List.set_cons_zero, List.set_cons_succ]
                refine wpAnyH_norm (l2 := #[true, true, true, true, true, true, true, true, true, true, false, false, false, false, false, false, false, false, false]) (f2 := 9) (by kernel_rfl) (by kernel_rfl) ?_
                refine wpAnyH_take (i := 10) (oi := _) (v := ?_) rfl (by kernel_rfl) (by kernel_rfl) (by kernel_rfl) (fun _ _ _ h => h) (Or.inl ⟨by rfl, ?_⟩) (by assumption) ?_
                rotate_left
                · (intro w hSw; (try dsimp only at hSw); go_simp; try with_reducible rfl)
                simp only [List.getElem_toArray, List.getElem_cons_succ, List.getElem_cons_zero, Act.put, List.setIfInBounds_toArray, List.set_cons_zero, List.set_cons_succ]
                refine wpAnyH_norm (l2 := #[true, true, true, true, true, true, true, true, true, true, true, false, false, false, false, false, false, false, false]) (f2 := 8) (by kernel_rfl) (by kernel_rfl) ?_
                refine wpAnyH_take (i := 11) (oi := _) (v := ?_) rfl (by kernel_rfl) (by kernel_rfl) (by kernel_rfl) (fun _ _ _ h => h) (Or.inl ⟨by rfl, ?_⟩) (by assumption) ?_
                rotate_left
                · (intro w hSw; (try dsimp only at hSw); go_simp; try with_reducible rfl)
                simp only [List.getElem_toArray, List.getElem_cons_succ, List.getElem_cons_zero, Act.put, List.setIfInBounds_toArray, List.set_cons_zero, List.set_cons_succ]
                refine wpAnyH_norm (l2 := #[true, true, true, true, true, true, true, true, true, true, true, true, false, false, false, false, false, false, false]) (f2 := 7) (by kernel_rfl) (by kernel_rfl) ?_
                refine wpAnyH_take (i := 12) (oi := _) (v := ?_) rfl (by kernel_rfl) (by kernel_rfl) (by kernel_rfl) (fun _ _ _ h => h) (Or.inl ⟨by rfl, ?_⟩) (by assumption) ?_
                rotate_left
                · (intro w hSw; (try dsimp only at hSw); go_simp; try with_reducible rfl)
                simp only [List.getElem_toArray, List.getElem_cons_succ, List.getElem_cons_zero, Act.put, List.setIfInBounds_toArray, List.set_cons_zero, List.set_cons_succ]
                refine wpAnyH_norm (l2 := #[true, true, true, true, true, true, true, true, true, true, true, true, true, false, false, false, false, false, false]) (f2 := 6) (by kernel_rfl) (by kernel_rfl) ?_
                refine wpAnyH_take (i := 13) (oi := _) (v := ?_) rfl (by kernel_rfl) (by kernel_rfl) (by kernel_rfl) (fun _ _ _ h => h) (Or.inl ⟨by rfl, ?_⟩) (by assumption) ?_
                rotate_left
                · (intro w hSw; (try dsimp only at hSw); go_simp; try with_reducible rfl)
                simp only [List.getElem_toArray, List.getElem_cons_succ, List.getElem_cons_zero, Act.put, List.setIfInBounds_toArray, List.set_cons_zero, List.set_cons_succ]
                refine wpAnyH_norm (l2 := #[true, true, true, true, true, true, true, true, true, true, true, true, true, true, false, false, false, false, false]) (f2 := 5) (by kernel_rfl) (by kernel_rfl) ?_
                refine wpAnyH_take (i := 14) (oi := _) (v := ?_) rfl (by kernel_rfl) (by kernel_rfl) (by kernel_rfl) (fun _ _ _ h => h) (Or.inl ⟨by rfl, ?_⟩) (by assumption) ?_
                rotate_left
                · (intro w hSw; (try dsimp only at hSw); go_simp; try with_reducible rfl)
                simp only [List.getElem_toArray, List.getElem_cons_succ, List.getElem_cons_zero, Act.put, List.setIfInBounds_toArray, List.set_cons_zero, List.set_cons_succ]
                refine wpAnyH_norm (l2 := #[true, true, true, true, true, true, true, true, true, true, true, true, true, true, true, false, false, false, false]) (f2 := 4) (by kernel_rfl) (by kernel_rfl) ?_
                refine wpAnyH_take (i := 15) (oi := _) (v := ?_) rfl (by kernel_rfl) (by kernel_rfl) (by kernel_rfl) (fun _ _ _ h => h) (Or.inl ⟨by rfl, ?_⟩) (by assumption) ?_
                rotate_left
                · (intro w hSw; (try dsimp only at hSw); go_simp; try with_reducible rfl)
                simp only [List.getElem_toArray, List.getElem_cons_succ, List.getElem_cons_zero, Act.put, List.setIfInBounds_toArray, List.set_cons_zero, List.set_cons_succ]
                refine wpAnyH_norm (l2 := #[true, true, true, true, true, true, true, true, true, true, true, true, true, true, true, true, false, false, false]) (f2 := 3) (by kernel_rfl) (by kernel_rfl) ?_
                refine wpAnyH_take (i := 16) (oi := _) (v := .slice (cutA a c (k + 1)) r (c - (k + 1))) rfl (by kernel_rfl) (by kernel_rfl) (by kernel_rfl) (fun _ _ _ h => h) (Or.inl ⟨by rfl, ?_⟩) (by assumption) ?_
                · (intro w hSw; (try dsimp only at hSw); exact ex_slice rfl rfl rfl rfl rfl (HS2.out _))
                simp only [List.getElem_toArray, List.getElem_cons_succ, List.getElem_cons_zero, Act.put, List.setIfInBounds_toArray, List.set_cons_zero, List.set_cons_succ]
                refine wpAnyH_norm (l2 := #[true, true, true, true, true, true, true, true, true, true, true, true, true, true, true, true, true, false, false]) (f2 := 2) (by kernel_rfl) (by kernel_rfl) ?_
                refine wpAnyH_ready (rs := [17]) (by kernel_rfl) (by simp) ?_
                refine AllReadyH.cons rfl (fun K hK => ?_) AllReadyH.nil
                refine wp_append_known (.tmp 145) (.tmp 152) 22 rfl _ _ rfl rfl _ w6 HRUN.out ?_
                refine hK.out _ _ (HY.out _ (HKN.out.bl)) (fun hHeld => ?_)
                clear hK K
                simp only [List.getElem_toArray, List.getElem_cons_succ, List.getElem_cons_zero, Act.put, List.setIfInBounds_toArray, List.set_cons_zero, List.set_cons_succ]
                refine wpAnyH_norm (l2 := #[true, true, true, true, true, true, true, true, true, true, true, true, true, true, true, true, true, true, false]) (f2 := 1) (by kernel_rfl) (by kernel_rfl) ?_
                refine wpAnyH_take (i := 18) (oi := _) (v := ?_) rfl (by kernel_rfl) (by kernel_rfl) (by kernel_rfl) (fun _ _ _ h => h) (Or.inl ⟨by rfl, ?_⟩) (by assumption) ?_
                rotate_left
                · (intro w hSw; (try dsimp only at hSw); go_simp; try with_reducible rfl)
                simp only [List.getElem_toArray, List.getElem_cons_succ, List.getElem_cons_zero, Act.put, List.setIfInBounds_toArray, List.set_cons_zero, List.set_cons_succ]
                refine wpAnyH_norm (l2 := #[true, true, true, true, true, true, true, true, true, true, true, true, true, true, true, true, true, true, true]) (f2 := 0) (by kernel_rfl) (by kernel_rfl) ?_
                refine wpAnyH_done (by kernel_rfl) ?_ _
                go_wp2
                refine ⟨⟨i + 1, K.take k ++ K.drop (k + 1), pa, cap, a6, c6, by omega, by omega, by rw [HLEN6.out], by go_num, by rw [HLEN6.out]; have := hKM6.out; omega, HKN.out⟩, by simp [intOf]; omega⟩
              · have hok : okI K x = false := by simpa using hok
                have hre := hid (rem_bad HK.out.dm x hok)
                go_upto_region 18 with (first | (go_at_call 10; refine hre.out.mono ?_; rintro e w3 ⟨rfl, hb3⟩; have HB3 := hid hb3; clear hb3))
                obtain ⟨w4, hw4⟩ : ∃ w4, w4 = w3.alloc (Obj.cells #[.int .i64 0, .int .u64 0, .int .u64 0] 35) := ⟨_, rfl⟩
                have hB34 : Below w3.heap.size w3 w4 := by rw [hw4]; exact below1 _ _
                have z0 : w4.cell? ⟨w3.heap.size, 0, none⟩ = some (.int .i64 0) := by rw [hw4]; simp [go_sem]
                have z1 : w4.cell? ⟨w3.heap.size, 1, none⟩ = some (.int .u64 0) := by rw [hw4]; simp [go_sem]
                have z2 : w4.cell? ⟨w3.heap.size, 2, none⟩ = some (.int .u64 0) := by rw [hw4]; simp [go_sem]
                rw [← hw4]
                clear hw4 y0
                have HK4 := hid (HK.out.later (below_call HB3.out hB34))
                have y0 := HY.out w4 HK4.out.bl
                have heq := fun W => neqC 0 0 0 0 0 0 W
                simp only [show cEq 0 0 0 0 0 0 = true by decide] at heq
                have hbad := of_decide_eq_false hok
                by_cases hneg : x < 0
                · have hd1 : decide (x < 0) = true := decide_eq_true hneg
                  clear hbad
                  go_wp2
                  exact ⟨⟨i + 1, K, pa, cap, a, c, by omega, by omega, rfl, by go_num, hKM, HK4.out⟩, by simp [intOf]; omega⟩
                · have hd1 : decide (x < 0) = false := decide_eq_false hneg
                  have hd2 : decide (x ≥ (K.length : Int)) = true := decide_eq_true (by omega)
                  clear hbad
                  go_wp2
                  exact ⟨⟨i + 1, K, pa, cap, a, c, by omega, by omega, rfl, by go_num, hKM, HK4.out⟩, by simp [intOf]; omega⟩
            · rw [decide_eq_false hlt]
              clear hlt
              have hKL : K.length ≤ 32 := by omega
              have hle := hid (len_any HK.out.dm)
              have hal := hid (all_any HK.out.dm hKL)
              have hq0 : ((K.length : Int) != (K.length : Int)) = false := by simp
              have hsm : Hid (∀ (W : World) (p : Option Addr) (cp : Nat), Below wr.heap.size wr W → Rd W p K.length K → Calls Try.prog 12 #[.slice p K.length cp, .slice a K.length c] W fun e w' => e = .returned (.bool true) ∧ Below W.heap.size W w') := fun W p cp hW hp => by
                refine (sameC_any cp c hp (HK.out.rd.later hW) (by omega) (by omega)).mono ?_
                rintro e w' ⟨rfl, q, rfl⟩
                exact ⟨ret_bool (by simp), below_drewN (Below.refl _ _) q⟩
              go_upto_region 26 with (first
                | (go_at_call 11; refine hle.out.mono ?_; rintro e w9 ⟨rfl, hw9⟩; obtain rfl := hw9.symm; clear hw9)
                | (go_at_call 13; refine hal.out.mono ?_; rintro e w3 ⟨p, cp_, rfl, ho3, hb3⟩; have HP3 := hid (Ow.rd (K := K) ho3 rfl); have HB3 := hid hb3; clear ho3 hb3)
                | (go_at_call 12; refine (hsm.out _ _ _ HB3.out HP3.out).mono ?_; rintro e w4 ⟨rfl, hb4⟩; have HB4 := hid (below_call HB3.out hb4); clear hb4))
              have HK4 := hid (HK.out.later HB4.out)
              clear hle hal hsm HK HP3 HB3 HB4 hi hi64 hq0
              have H0 : Hid (L3Rel w4 K P (.bool true) (.int .i64 0) w4) := ⟨0, by omega, by simp, rfl, Below.refl _ _⟩
              go_upto_region 28 with fail
              go_loopw [17, 18] (L3Rel w4 K P) (fun _ t _ => P.length - (intOf t).toNat)
              case atStart => exact H0.out
              case round =>
                clear H0
                obtain ⟨i, hi, hs, rfl, hb⟩ := hrel
                obtain ⟨bb, hbb⟩ : ∃ bb, bb = (P.take i).all (okI K) := ⟨_, rfl⟩
                rw [← hbb] at hs
                subst hs
                have HBB := hid hbb
                have HB := hid hb
                have HK := hid (HK4.out.later hb)
                clear hbb hb
                by_cases hlt : i < P.length
                · have hd0 : decide ((i : Int) < (P.length : Int)) = true := decide_eq_true (by omega)
                  obtain ⟨x, hx⟩ : ∃ x, P[i]? = some x := ⟨_, List.getElem?_eq_getElem hlt⟩
                  have HTK : Hid ((P.take (i + 1)).all (okI K) = (bb && okI K x)) := by
                    unfold Hid
                    obtain ⟨e1, e2⟩ := List.getElem?_eq_some_iff.1 hx
                    rw [List.take_succ_eq_append_getElem e1, List.all_append, ← HBB.out, e2]
                    simp
                  obtain ⟨br, or_, rfl, hat⟩ := HP.out.plain (by omega)
                  have HY := hid (fun (U : World) (hU : Below w.heap.size w U) => cell_later hU (hat i (.int .i64 x) (by simp only [ints, List.getElem?_map, hx, Option.map_some])))
                  have y0 := HY.out wr HK.out.bl
                  clear hat hx
                  by_cases hok : okI K x = true
                  · rw [hok, Bool.and_true] at HTK
                    obtain ⟨k, rfl, hk, hkc⟩ := atC_ok hok
                    obtain ⟨z, hz⟩ : ∃ z, z = atC K (k : Int) := ⟨_, rfl⟩
                    rw [← hz] at hkc
                    have hre := hid (at_ok HK.out.dm k z hkc)
                    have hd1 : decide ((k : Int) ≥ 0) = true := decide_eq_true (by omega)
                    have hd2 : decide ((k : Int) < (K.length : Int)) = true := decide_eq_true (by omega)
                    have HKC := hid hkc
                    clear hz hkc
                    go_upto_region 31 with (first | (go_at_call 14; refine hre.out.mono ?_; rintro e w5 ⟨rfl, hb5⟩; have HB5 := hid hb5; clear hb5))
                    obtain ⟨w6, hw6⟩ : ∃ w6, w6 = w5.alloc (Obj.cells #[.int .i64 z.1, .int .u64 (z.2.1 : Int), .int .u64 (z.2.2 : Int)] 35) := ⟨_, rfl⟩
                    have hB56 : Below w5.heap.size w5 w6 := by rw [hw6]; exact below1 _ _
                    obtain ⟨q0, q1, q2⟩ : Cel w6 w5.heap.size 0 z := by rw [hw6]; exact ⟨by simp [go_sem], by simp [go_sem], by simp [go_sem]⟩
                    rw [← hw6]
                    clear hw6 y0 hre
                    have HB6 := hid (below_call HB5.out hB56)
                    have hK6 := HK.out.later HB6.out
                    have y0 := HY.out w6 hK6.bl
                    have HBF := hid (HB.out.trans (HB6.out.mono HB.out.size))
                    obtain ⟨bo, oo, rfl, hat⟩ := hK6.rd.at_ (by omega)
                    obtain ⟨v0, v1, v2⟩ := hat k z HKC.out
                    have heq := fun W => neqC z.1 (z.2.1 : Int) (z.2.2 : Int) z.1 (z.2.1 : Int) (z.2.2 : Int) W
                    have hq1 : cEq z.1 (z.2.1 : Int) (z.2.2 : Int) z.1 (z.2.1 : Int) (z.2.2 : Int) = true := by simp [cEq]
                    simp only [hq1] at heq
                    have hkK : (k : Int) < (K.length : Int) := by omega
                    clear hat hK6 hB56 hq1
                    go_upto_region 32 with fail
                    go_quiet (fail)
                    cases bb with
                    | true =>
                      go_wp2
                      exact ⟨⟨i + 1, by omega, by rw [HTK.out], by go_num, below_drewN HBF.out _⟩, by simp [intOf]; omega⟩
                    | false =>
                      go_wp2
                      exact ⟨⟨i + 1, by omega, by rw [HTK.out], by go_num, below_drewN HBF.out _⟩, by simp [intOf]; omega⟩
                  · have hok : okI K x = false := by simpa using hok
                    rw [hok, Bool.and_false] at HTK
                    have hre := hid (at_bad HK.out.dm x hok)
                    have hbad := of_decide_eq_false hok
                    go_upto_region 31 with (first | (go_at_call 14; refine hre.out.mono ?_; rintro e w5 ⟨rfl, hb5⟩; have HB5 := hid hb5; clear hb5))
                    obtain ⟨w6, hw6⟩ : ∃ w6, w6 = w5.alloc (Obj.cells #[.int .i64 0, .int .u64 0, .int .u64 0] 35) := ⟨_, rfl⟩
                    have hB56 : Below w5.heap.size w5 w6 := by rw [hw6]; exact below1 _ _
                    rw [← hw6]
                    clear hw6 y0 hre
                    have HB6 := hid (below_call HB5.out hB56)
                    have hK6 := HK.out.later HB6.out
                    have y0 := HY.out w6 hK6.bl
                    have HBF := hid (HB.out.trans (HB6.out.mono HB.out.size))
                    clear hK6 hB56
                    go_cut [21] (fun q w' => q = .bool false ∧ w6 = w')
                    case first =>
                      by_cases hneg : 0 ≤ x
                      · have hd1 : decide (x ≥ 0) = true := decide_eq_true hneg
                        have hd2 : decide (x < (K.length : Int)) = false := decide_eq_false (by omega)
                        clear hbad
                        go_wp2
                        go_meet
                        case rel => exact ⟨rfl, rfl⟩
                      · have hd1 : decide (x ≥ 0) = false := decide_eq_false hneg
                        clear hbad
                        go_wp2
                        go_meet
                        case rel => exact ⟨rfl, rfl⟩
                    case rest =>
                      obtain ⟨rfl, rfl⟩ := hcut
                      clear hbad
                      go_upto_region 32 with fail
                      go_quiet (fail)
                      cases bb with
                      | true =>
                        go_wp2
                        exact ⟨⟨i + 1, by omega, by rw [HTK.out], by go_num, below_drewN HBF.out _⟩, by simp [intOf]; omega⟩
                      | false =>
                        go_wp2
                        exact ⟨⟨i + 1, by omega, by rw [HTK.out], by go_num, below_drewN HBF.out _⟩, by simp [intOf]; omega⟩
                · obtain rfl : i = P.length := by omega
                  rw [List.take_length] at HBB
                  have hd0 : decide ((P.length : Int) < (P.length : Int)) = false := by simp
                  have hPw := HP.out.later HK.out.bl
                  have hpi := hid (pick_any HK.out.dm hPw hnp hKL hM2)
                  clear hPw
                  cases bb with
                  | false =>
                    obtain ⟨e1, e2⟩ := pick_bad (m := M) HBB.out.symm
                    rw [e1, e2] at hpi
                    clear e1 e2
                    go_wp2_with (first | (go_at_call 15; refine hpi.out.mono ?_; rintro e w5 ⟨p5, c5, rfl, _, hb5⟩; have HB5 := hid hb5; clear hb5))
                    go_ret
                    exact ⟨rfl, HK.out.bl.trans (HB5.out.mono HK.out.bl.size)⟩
                  | true =>
                    by_cases hbig : M < (P.length : Int)
                    · obtain ⟨e1, e2⟩ := pick_long HBB.out.symm hbig
                      rw [e1, e2] at hpi
                      have hd1 : decide ((P.length : Int) > M) = true := decide_eq_true hbig
                      clear e1 e2
                      go_wp2_with (first | (go_at_call 15; refine hpi.out.mono ?_; rintro e w5 ⟨p5, c5, rfl, _, hb5⟩; have HB5 := hid hb5; clear hb5))
                      go_ret
                      exact ⟨rfl, HK.out.bl.trans (HB5.out.mono HK.out.bl.size)⟩
                    · obtain ⟨e1, e2⟩ := pick_good HBB.out.symm hbig
                      rw [e1, e2, List.length_map] at hpi
                      have hd1 : decide ((P.length : Int) > M) = false := decide_eq_false hbig
                      clear e1 e2
                      go_upto_region 38 with (first | (go_at_call 15; refine hpi.out.mono ?_; rintro e w5 ⟨p5, c5, rfl, ho5, hb5⟩; have HP5 := hid (Ow.rd (K := P.map (atC K)) ho5 (by simp)); have HB5 := hid hb5; clear ho5 hb5))
                      have HK5 := hid (HK.out.later HB5.out)
                      have H0 : Hid (L4Rel w5 P.length (.int .i64 0) w5) := ⟨0, by omega, rfl, 0, rfl⟩
                      have HAL := hid HBB.out.symm
                      clear hpi HK HB HB5 HBB HK4
                      go_upto_region 39 with fail
                      go_loopw [24] (L4Rel w5 P.length) (fun t _ => P.length - (intOf t).toNat)
                      case atStart => exact H0.out
                      case round =>
                        clear H0
                        obtain ⟨i, hi, rfl, q, rfl⟩ := hrel
                        have hBq : Below w5.heap.size w5 (w5.drewN q) := below_drewN (Below.refl _ _) q
                        by_cases hlt : i < P.length
                        · have hd2 : decide ((i : Int) < (P.length : Int)) = true := decide_eq_true (by omega)
                          obtain ⟨x, hx⟩ : ∃ x, P[i]? = some x := ⟨_, List.getElem?_eq_getElem hlt⟩
                          obtain ⟨k, rfl, hk, hkc⟩ := atC_ok ((List.all_eq_true.1 HAL.out) x (List.mem_of_getElem? hx))
                          obtain ⟨z, hz⟩ : ∃ z, z = atC K (k : Int) := ⟨_, rfl⟩
                          rw [← hz] at hkc
                          obtain ⟨br, or_, rfl, hat⟩ := (HP.out.later HK5.out.bl).plain (by omega)
                          have y0 := cell_later hBq (hat i (.int .i64 (k : Int)) (by simp only [ints, List.getElem?_map, hx, Option.map_some]))
                          obtain ⟨bo, oo, rfl, hat2⟩ := HK5.out.rd.at_ (by omega)
                          obtain ⟨v0, v1, v2⟩ := (hat2 k z hkc).later hBq
                          obtain ⟨bp, op, rfl, hat3⟩ := HP5.out.at_ (by omega)
                          obtain ⟨u0, u1, u2⟩ := (hat3 i z (by rw [List.getElem?_map, hx, Option.map_some, ← hz])).later hBq
                          have heq := fun W => neqC z.1 (z.2.1 : Int) (z.2.2 : Int) z.1 (z.2.1 : Int) (z.2.2 : Int) W
                          have hq1 : cEq z.1 (z.2.1 : Int) (z.2.2 : Int) z.1 (z.2.1 : Int) (z.2.2 : Int) = true := by simp [cEq]
                          simp only [hq1] at heq
                          have hkK : (k : Int) < (K.length : Int) := by omega
                          have hq2 : ((P.length : Int) != (P.length : Int)) = false := by simp
                          generalize hwq : w5.drewN q = wq at *
                          have HWQ := hid hwq
                          clear hat hat2 hat3 hq1 hx hz hkc hwq
                          go_upto_region 41 with fail
                          go_quiet (fail)
                          go_wp2
                          exact ⟨⟨i + 1, by omega, by go_num, q + nq, by rw [← HWQ.out]; simp [World.drewN, Nat.add_assoc]⟩, by simp [intOf]; omega⟩
                        · obtain rfl : i = P.length := by omega
                          have hd2 : decide ((P.length : Int) < (P.length : Int)) = false := by simp
                          have hKq := HK5.out.later hBq
                          have HKQ := hid hKq
                          have hal := hid (all_any hKq.dm hKL)
                          have hsm : Hid (∀ (W : World) (p : Option Addr) (cp : Nat), Below (w5.drewN q).heap.size (w5.drewN q) W → Rd W p K.length K → Calls Try.prog 12 #[.slice p K.length cp, .slice a K.length c] W fun e w' => e = .returned (.bool true) ∧ Below W.heap.size W w') := fun W p cp hW hp => by
                            refine (sameC_any cp c hp (HKQ.out.rd.later hW) (by omega) (by omega)).mono ?_
                            rintro e w' ⟨rfl, q, rfl⟩
                            exact ⟨ret_bool (by simp), below_drewN (Below.refl _ _) q⟩
                          have hq3 : ((P.length : Int) == (P.length : Int)) = true := by simp
                          clear hKq hBq
                          generalize w5.drewN q = wq at *
                          go_wp2_with (first
                            | (go_at_call 13; refine hal.out.mono ?_; rintro e w6 ⟨p, cp_, rfl, ho3, hb3⟩; have HP3 := hid (Ow.rd (K := K) ho3 rfl); have HB3 := hid hb3; clear ho3 hb3)
                            | (go_at_call 12; refine (hsm.out _ _ _ HB3.out HP3.out).mono ?_; rintro e w7 ⟨rfl, hb4⟩; have HB4 := hid (below_call HB3.out hb4); clear hb4))
                          go_ret
                          exact ⟨rfl, HKQ.out.bl.trans (HB4.out.mono HKQ.out.bl.size)⟩
end Go.Proofs.Ytcagghfkomodlaa
