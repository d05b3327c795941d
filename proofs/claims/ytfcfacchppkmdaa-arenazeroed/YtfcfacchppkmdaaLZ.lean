import Derived.Test.YtfcfacchppkmdaaE1
namespace Go.Proofs.Ytfcfacchppkmdaa
open Go.RowKit
set_option linter.unusedVariables false
set_option linter.unusedSimpArgs false

set_option maxRecDepth 100000 in
set_option maxHeartbeats 2000000 in
theorem zeroed_walk (pages first again x : Int) (a : Option Addr) (m cap : Nat) (l : List Int) (w : World) (hR : Row w a m cap (ints l)) (hm : m ≤ 9223372036854775807) (hx : 0 ≤ x ∧ x < 256) :
    Calls Try.prog 3 #[.int .i64 pages, .int .i64 first, .slice a m cap, .int .i64 again, .int .u8 x] w fun e w' => e = .returned (.bool true) ∧ Below w.heap.size w w' := by
  obtain ⟨n, hn, hN⟩ : ∃ n : Nat, n ≤ 256 ∧ restN pages 257 = n := ⟨_, by have := restN_lt pages 257 (by omega); omega, rfl⟩
  obtain ⟨K, hK, hKN⟩ : ∃ K : Nat, K ≤ n ∧ restN first (n + 1) = K := ⟨_, by have := restN_lt first (n + 1) (by omega); omega, rfl⟩
  have HR := hid hR
  clear hR
  go_enter Try.func3, Try.ntmps3
  go_upto_region 2 with (first | (go_at_call 6; refine (rest_any pages 257 (by omega) (by omega) _).mono ?_; rintro e w0 ⟨rfl, rfl⟩; rw [hN]))
  go_upto_region 3 with (first | (go_at_call 7; refine (new_ok n _ hn).mono ?_; rintro e w1 ⟨g, pb, rfl, A1, hg, hpb, hb1⟩))
  replace A1 := hid A1
  replace hb1 := hid hb1
  go_upto_region 5 with (first | (go_at_call 8; refine (num_any _ _).mono ?_; rintro e w2 ⟨rfl, rfl⟩) | (go_at_call 9; refine (alive_any _).mono ?_; rintro e w3 ⟨rfl, b3⟩; replace A1 := hid (A1.out.later b3); replace hb1 := hid (below_call hb1.out b3); clear b3))
  clear hN
  have hfr : K ≤ (lst n (fun _ => false) false).length := by rw [lst_all]; simpa using hK
  have HFR := hid hfr
  clear hfr
  go_upto_region 6 with (first | (go_at_call 6; refine (rest_any first (n + 1) (by omega) (by omega) _).mono ?_; rintro e w4 ⟨rfl, rfl⟩; rw [hKN]) | (go_at_call 10; refine (take_ok g pb n (fun _ => false) (fun _ _ => 0) K _ A1.out HFR.out).mono ?_; rintro e w5 ⟨la, rfl, N5, A5, b5⟩))
  rw [lst_all, take_range n K hK] at N5 A5
  rw [tk_range] at A5
  obtain ⟨t1, ht1⟩ : ∃ t1 : Nat → Bool, t1 = fun i => decide (i < K) := ⟨_, rfl⟩
  rw [← ht1] at A5
  have hsum : K + (lst n t1 false).length = n := by
    have h1 := lst_sum n t1
    have h2 := lst_lt n K hK
    rw [← ht1] at h2
    omega
  have HT1 : Hid (∀ i, t1 i = decide (i < K)) := hid (fun i => by rw [ht1])
  obtain ⟨F, hF⟩ : ∃ F, (lst n t1 false).length = F := ⟨_, rfl⟩
  rw [hF] at hsum
  have hq : ((K : Int) + (F : Int) != (n : Int)) = false := by simp; omega
  have hb5 := hid (But.below hb1.out b5 (fun k hk => by rw [hk]; exact hg))
  have HGE : Hid (∀ k, Blk la k → k ≠ g ∧ k ≠ pb) := hid (fun k hk => by
    have h1 := N5.ge k hk
    have h2 := A1.out.glt
    have h3 := A1.out.lt
    omega)
  have HGW : Hid (∀ k, Blk la k → w0.heap.size ≤ k) := hid (fun k hk => by
    have h1 := N5.ge k hk
    have h2 := hb1.out.size
    omega)
  replace N5 := hid N5
  replace A5 := hid A5
  clear A1 hb1 b5 hKN HFR ht1
  go_upto_region 8 with (first | (go_at_call 8; refine (num_any _ _).mono ?_; rintro e w2 ⟨rfl, rfl⟩) | (go_at_call 11; refine (free_any g pb n t1 _ _ A5.out).mono ?_; rintro e w6 ⟨rfl, b6⟩; rw [hF]; replace N5 := hid (N5.out.later b6); replace A5 := hid (A5.out.later b6); replace hb5 := hid (below_call hb5.out b6); clear b6))
  obtain ⟨w7, hmk, hC7, hlt7, hb7⟩ := make_bytes w6 64 (by omega)
  simp only [Int.cast_ofNat_Int] at hmk
  have HC7 := hid hC7
  have HDB : Hid (w6.heap.size ≠ g ∧ w6.heap.size ≠ pb ∧ (∀ k, Blk la k → k ≠ w6.heap.size) ∧ w0.heap.size ≤ w6.heap.size) := hid ⟨by have := A5.out.glt; omega, by have := A5.out.lt; omega, fun k hk => by have := N5.out.lt k hk; omega, hb5.out.size⟩
  replace N5 := hid (N5.out.later hb7)
  replace A5 := hid (A5.out.later hb7)
  replace hb5 := hid (below_call hb5.out hb7)
  obtain ⟨db, hdb⟩ : ∃ db, db = w6.heap.size := ⟨_, rfl⟩
  rw [← hdb] at hmk HC7 HDB
  clear hC7 hlt7 hb7 hdb hsum hF hq
  go_upto_region 10 with fail
  go_loopw [17] (ZRel1 w7 g pb n t1 x K db) (fun k _ => K - (intOf k).toNat)
  case atStart => exact ⟨0, _, rfl, Nat.zero_le _, A5.out.congr (by funext p j; simp [Bz]), HC7.out, But.refl _ _⟩
  case round =>
    clear HC7 hmk
    obtain ⟨i, f, rfl, hi, hA, hC, hB⟩ := hrel
    have HA := hid hA
    have HC := hid hC
    have HB := hid hB
    clear hA hC hB
    by_cases hlt : i < K
    · have hd : decide ((i : Int) < (K : Int)) = true := decide_eq_true (by omega)
      have hNl := N5.out.row.but HB.out (fun k hk e => by rcases e with e | e; exact (HGE.out k hk).2 e; exact HDB.out.2.2.1 k hk e)
      obtain ⟨lb, lo, rfl, hc⟩ := hNl.plain (by omega)
      have y := hc i _ (ints_nats_get _ i (by simpa using hlt))
      rw [List.getElem_range] at y
      have hlb : lb ≠ db := HDB.out.2.2.1 lb ⟨_, rfl, rfl⟩
      clear hc hNl
      go_upto_region 13 with fail
      go_loopw [18] (ZRel2 wr f (xb x i) db) (fun k _ => 64 - (intOf k).toNat)
      case atStart => exact ⟨0, rfl, Nat.zero_le _, fun j hj => by simpa using HC.out j hj, But.refl _ _⟩
      case round =>
        clear HC
        obtain ⟨j, rfl, hj, hC, hB2⟩ := hrel
        rename World => wq
        have HC := hid hC
        have HB2 := hid hB2
        clear hC hB2
        by_cases hlt2 : j < 64
        · have hd2 : decide ((j : Int) < 64) = true := decide_eq_true (by omega)
          have y2 := cell_but HB2.out y hlb
          have z := HC.out j hlt2
          have z1 := z.1
          have z2 := z.2
          clear z
          have HN : Hid (Cel (wq.setCell ⟨db, j, none⟩ (.int .u8 ((xb x i : Nat) : Int))) db 64 (fun q => if q < j + 1 then xb x i else f q)) := hid (HC.out.set hlt2 (fun q hq => by
            by_cases e : q = j
            · rw [if_pos e, if_pos (by omega)]
            · rw [if_neg e]
              by_cases e2 : q < j
              · rw [if_pos e2, if_pos (by omega)]
              · rw [if_neg e2, if_neg (by omega)]))
          have HNB : Hid (But (· = db) wr (wq.setCell ⟨db, j, none⟩ (.int .u8 ((xb x i : Nat) : Int)))) := HB2.out.setCell (p := ⟨db, j, none⟩) (show db = db from rfl) _
          go_wp2
          rw [(xb_spec x i).1]
          exact ⟨⟨j + 1, rfl, by omega, HN.out, HNB.out⟩, by simp [intOf]; omega⟩
        · obtain rfl : j = 64 := by omega
          simp only [Int.cast_ofNat_Int]
          have ht : t1 i = true := by rw [HT1.out]; exact decide_eq_true hlt
          have hBq : But (fun k => k = pb ∨ k = db) w7 wq := HB.out.trans (HB2.out.mono (fun _ h => .inr h))
          have HBq := hid hBq
          have HAq := hid (HA.out.but HB2.out (fun e => HDB.out.1 e.symm) (fun e => HDB.out.2.1 e.symm))
          have HRw : Hid (Row wq (some ⟨db, 0, none⟩) 64 64 (u8s (fl (fun _ => xb x i) 64))) := hid (by
            have := HC.out.row (n := 64) (cap := 64) (Nat.le_refl _) (Nat.le_refl _)
            rwa [fl_congr (f' := fun _ => xb x i) (fun j hj => by rw [if_pos hj])] at this)
          have y2 := cell_but HB2.out y hlb
          have hsm : ∀ q ∈ fl (fun _ => xb x i) 64, q < 256 := fun q hq => by
            simp only [fl, List.mem_map] at hq
            obtain ⟨_, _, rfl⟩ := hq
            exact (xb_spec x i).2
          have HSM := hid hsm
          clear hBq hsm HB2
          go_wp2_with (first | (go_at_call 12; refine (write_ok g pb n t1 (Bz x i) i 0 _ 64 64 _ _ HAq.out ht (by omega) HSM.out HRw.out).mono ?_; rintro e w8 ⟨rfl, A8, b8⟩; replace A8 := hid A8; replace b8 := hid b8) | (go_at_call 8; refine (num_any _ _).mono ?_; rintro e w9 ⟨rfl, rfl⟩))
          refine ⟨⟨i + 1, _, rfl, by omega, A8.out.ext (fun p q hp hq => ?_) (fun p q hp => ?_) (fun p q => ?_), HC.out.but b8.out HDB.out.2.1, HBq.out.trans (b8.out.mono (fun _ h => .inl h))⟩, by simp [intOf]; omega⟩
          · exact Bz_write x i p q hq
          · unfold Bz
            have hpK : ¬ p < K := by rw [HT1.out] at hp; exact of_decide_eq_false hp
            rw [if_neg (by omega)]
          · unfold Bz
            have := (xb_spec x p).2
            split <;> omega
    · obtain rfl : K = i := by omega
      have hd : decide ((K : Int) < (K : Int)) = false := by simp
      go_upto_region 20 with fail
      have HBW : Hid (Below w0.heap.size w0 wr) := hid (But.below hb5.out HB.out (fun k hk => by
        rcases hk with rfl | rfl
        · exact hpb
        · exact HDB.out.2.2.2))
      have HNL : Hid (Ans wr w4.heap.size la K K (ints (nats (List.range K)))) := hid (N5.out.but HB.out (fun k hk e => by rcases e with e | e; exact (HGE.out k hk).2 e; exact HDB.out.2.2.1 k hk e))
      have HA3 : Hid (Arn wr g pb n (t3 K []) (B3 x K [])) := hid (by
        have e1 : t3 K [] = t1 := by funext p; rw [HT1.out]; simp [t3]
        have e2 : B3 x K [] = Bz x K := by funext p j; simp [B3, Bz]
        rw [e1, e2]
        exact HA.out)
      have hgr : g < wr.heap.size := HA3.out.glt
      have hpr : pb < wr.heap.size := HA3.out.lt
      clear HA HC HB hb5 HDB A5 N5 HT1 hd hlt hi
      go_loopw [19, 20] (ZRel3 wr g pb n x K m) (fun _ k _ => m - (intOf k).toNat)
      case atStart => exact ⟨0, [], none, 0, rfl, rfl, Nat.zero_le _, by simp, fun _ h => (by cases h), HA3.out, Own.nil _ _ _, But.refl _ _⟩
      case round =>
        clear HA3
        obtain ⟨i, G, ga, gc, rfl, rfl, hi, hnd, hGK, hA, hO, hB⟩ := hrel
        rename World => wq
        have HA := hid hA
        have HO := hid hO
        have HB := hid hB
        have HG := hid (And.intro hnd hGK)
        have HBQ : Hid (Below w0.heap.size w0 wq) := hid (But.below HBW.out hB (fun k hk => by rcases hk with rfl | rfl; exact hg; exact hpb))
        clear hA hO hB hnd hGK
        go_upto_region 20 with fail
        go_cut [111] (fun q w' => q = .bool (decide (i < m ∧ 0 < K)) ∧ wq = w')
        case first =>
          by_cases hlt : i < m
          · have hd : decide ((i : Int) < (m : Int)) = true := decide_eq_true (by omega)
            by_cases hK0 : 0 < K
            · have hd0 : decide ((K : Int) > 0) = true := decide_eq_true (by omega)
              go_wp2
              go_meet
              case rel => exact ⟨by rw [decide_eq_true ⟨hlt, hK0⟩], rfl⟩
            · have hd0 : decide ((K : Int) > 0) = false := decide_eq_false (by omega)
              go_wp2
              go_meet
              case rel => exact ⟨by rw [decide_eq_false (fun h => hK0 h.2)], rfl⟩
          · have hd : decide ((i : Int) < (m : Int)) = false := decide_eq_false (by omega)
            go_wp2
            go_meet
            case rel => exact ⟨by rw [decide_eq_false (fun h => hlt h.1)], rfl⟩
        case rest =>
        obtain ⟨rfl, rfl⟩ := hcut
        by_cases hgo : i < m ∧ 0 < K
        · rw [decide_eq_true hgo]
          obtain ⟨hlt, hK0⟩ := hgo
          obtain ⟨b, o, rfl, hc⟩ := HR.out.plain (by omega)
          have hil : i < l.length := by have := HR.out.len; rw [ints_length] at this; omega
          have y := cell_later HBQ.out (hc i _ (ints_get l i hil))
          obtain ⟨v, hv⟩ : ∃ v, v = l[i] := ⟨_, rfl⟩
          rw [← hv] at y
          obtain ⟨r, hr, hrN⟩ : ∃ r : Nat, r < K ∧ restN v K = r := ⟨_, restN_lt v K hK0, rfl⟩
          obtain ⟨lb, lo, rfl, hc2⟩ := HNL.out.row.plain hK0
          have hlb := HGE.out lb ⟨_, rfl, rfl⟩
          have y2 := cell_but HB.out (hc2 r _ (ints_nats_get _ r (by simpa using hr))) (fun e => by rcases e with e | e; exact hlb.1 e; exact hlb.2 e)
          rw [List.getElem_range] at y2
          have hpbl : pb < wq.heap.size := HA.out.lt
          clear hc hc2 hv hlb
          by_cases hrG : r ∈ G
          · have HNO := hid (mt (gOk_one (G := G) hr hK).1 (fun h => h hrG))
            go_wp2_with (first
              | (go_at_call 6; refine (rest_any v K hK0 (by omega) _).mono ?_; rintro e w8 ⟨rfl, rfl⟩; rw [hrN])
              | (go_at_call 13; refine (give_no g pb n (t3 K G) (B3 x K G) _ 1 1 [(r : Int)] _ (HA.out.alloc _) (Row.single _ 3 (.int .i64 (r : Int)) rfl) (by omega) (fun k hk e => by obtain ⟨z, hz, rfl⟩ := hk; cases hz; simp only at e; omega) HNO.out).mono ?_; rintro e w9 ⟨rfl, b9⟩; replace b9 := hid (below_call (below1 _ _) b9))
              | (go_at_call 8; refine (num_any _ _).mono ?_; rintro e w10 ⟨rfl, rfl⟩))
            exact ⟨⟨i + 1, G, ga, gc, rfl, rfl, by omega, HG.out.1, HG.out.2, HA.out.later b9.out, HO.out.later b9.out, HB.out.call b9.out⟩, by simp [intOf]; omega⟩
          · have HYES := hid ((gOk_one (G := G) hr hK).2 hrG)
            have hOa := HO.out.alloc (Obj.cells #[.int .i64 (r : Int)] 3)
            go_upto_region 24 with (first
              | (go_at_call 6; refine (rest_any v K hK0 (by omega) _).mono ?_; rintro e w8 ⟨rfl, rfl⟩; rw [hrN])
              | (go_at_call 13; refine (give_ok g pb n (t3 K G) (B3 x K G) _ 1 1 [(r : Int)] _ (HA.out.alloc _) (Row.single _ 3 (.int .i64 (r : Int)) rfl) (by omega) (fun k hk e => by obtain ⟨z, hz, rfl⟩ := hk; cases hz; simp only at e; omega) HYES.out).mono ?_; rintro e w9 ⟨rfl, A9, b9⟩; replace A9 := hid A9; replace b9 := hid b9)
              | (go_at_call 8; refine (num_any _ _).mono ?_; rintro e w10 ⟨rfl, rfl⟩))
            have hgl : G.length ≤ 256 := Nat.le_trans (nodup_len K G HG.out.1 HG.out.2) (by omega)
            have hO10 := hOa.but b9.out (fun k hk e => by have := HO.out.blk k hk; rcases e with e | e <;> omega)
            have hB10 : But (fun k => k = g ∨ k = pb) wr w10 := (HB.out.alloc _).trans b9.out
            obtain ⟨a2, c2, w11, hrun, hO11, hG11⟩ := append_one (r : Int) (.inl hO10) hB10.size (by omega)
            have HRUN := hid hrun
            have HO11 : Hid (Own w11 wr.heap.size 3 a2 (G ++ [r]).length c2 (ints (nats (G ++ [r])))) := hid (by rw [List.length_append, nats_append]; exact hO11)
            have hge : ∀ k, Blk ga k → wr.heap.size ≤ k := HO.out.blk
            have HB11 : Hid (But (fun k => k = g ∨ k = pb) wr w11) := hid (hB10.comp hG11.but (fun k hk => .inr (hge k hk)))
            have HA11 : Hid (Arn w11 g pb n (t3 K (G ++ [r])) (B3 x K (G ++ [r]))) := hid (by
              rw [← t3_give, ← B3_give]
              exact A9.out.but hG11.but (fun h => by have := hge g h; omega) (fun h => by have := hge pb h; omega))
            have HG11 : Hid ((G ++ [r]).Nodup ∧ ∀ p ∈ G ++ [r], p < K) := hid ⟨by
              rw [List.nodup_append]
              exact ⟨HG.out.1, by simp, fun p hp q hq e => by simp only [List.mem_singleton] at hq; rw [e, hq] at hp; exact hrG hp⟩, fun p hp => by
              rcases List.mem_append.1 hp with h | h
              · exact HG.out.2 p h
              · simp only [List.mem_singleton] at h; omega⟩
            have hll : (G ++ [r]).length = G.length + 1 := by simp
            have HLL := hid hll
            clear hOa hO10 hB10 hrun hO11 hG11 hge hll A9 b9
            go_wp2_with (first | (at_builtin; refine wpList_append_known rfl _ _ 22 rfl _ _ rfl rfl _ w11 HRUN.out ?_))
            refine ⟨⟨i + 1, G ++ [r], a2, c2, by rw [HLL.out], rfl, by omega, HG11.out.1, HG11.out.2, HA11.out, HO11.out, HB11.out⟩, by simp [intOf]; omega⟩
        · rw [decide_eq_false hgo]
          go_upto_region 25 with fail
          have HNQ : Hid (Ans wq w4.heap.size la K K (ints (nats (List.range K)))) := hid (HNL.out.but HB.out (fun k hk e => by rcases e with e | e; exact (HGE.out k hk).1 e; exact (HGE.out k hk).2 e))
          obtain ⟨F2, hF2⟩ : ∃ F2, (lst n (t3 K G) false).length = F2 := ⟨_, rfl⟩
          have hF2n : F2 ≤ n := by rw [← hF2]; exact lst_length _ _ _
          obtain ⟨K2, hK2, hKN⟩ : ∃ K2 : Nat, K2 ≤ F2 ∧ restN again (F2 + 1) = K2 := ⟨_, by have := restN_lt again (F2 + 1) (by omega); omega, rfl⟩
          have HK2 : Hid (K2 ≤ (lst n (t3 K G) false).length) := hid (by rw [hF2]; exact hK2)
          have HGO : Hid (∀ k, Blk ga k → k ≠ g ∧ k ≠ pb) := hid (fun k hk => by have := HO.out.blk k hk; omega)
          clear HNL HB HBW hgo
          go_upto_region 26 with (first
            | (go_at_call 6; refine (rest_any again (F2 + 1) (by omega) (by omega) _).mono ?_; rintro e w12 ⟨rfl, rfl⟩; rw [hKN])
            | (go_at_call 11; refine (free_any g pb n (t3 K G) _ _ HA.out).mono ?_; rintro e w13 ⟨rfl, b13⟩; rw [hF2]; replace HA := hid (HA.out.later b13); replace HO := hid (HO.out.later b13); replace HNQ := hid (HNQ.out.later b13); replace HBQ := hid (below_call HBQ.out b13); clear b13)
            | (go_at_call 10; refine (take_ok g pb n (t3 K G) (B3 x K G) K2 _ HA.out HK2.out).mono ?_; rintro e w14 ⟨ma, rfl, N14, A14, b14⟩))
          obtain ⟨M, hM⟩ : ∃ M, M = (lst n (t3 K G) false).take K2 := ⟨_, rfl⟩
          rw [← hM] at N14 A14
          obtain ⟨t4, ht4⟩ : ∃ t4, t4 = tk (t3 K G) M := ⟨_, rfl⟩
          rw [← ht4] at A14
          obtain ⟨L0, hL0⟩ : ∃ L0, (lst n t4 false).length = L0 := ⟨_, rfl⟩
          obtain ⟨L1, hL1⟩ : ∃ L1, (lst n t4 true).length = L1 := ⟨_, rfl⟩
          have hqq : ((L1 : Int) + (L0 : Int) != (n : Int)) = false := by
            have := lst_sum n t4
            simp
            omega
          have hL0n : L0 ≤ n := by rw [← hL0]; exact lst_length _ _ _
          have hL1n : L1 ≤ n := by rw [← hL1]; exact lst_length _ _ _
          have hMl : M.length = K2 := by rw [hM, List.length_take]; omega
          have HMT : Hid (∀ p ∈ M, t4 p = true ∧ t3 K G p = false) := hid (fun p hp => by
            rw [ht4]
            refine ⟨by simp [tk, hp], ?_⟩
            rw [hM] at hp
            exact (mem_lst.1 (List.mem_of_mem_take hp)).2)
          have HT4 : Hid (∀ p, p < K → ¬ p ∈ G → t4 p = true) := hid (fun p h1 h2 => by rw [ht4]; simp [tk, t3, h1, h2])
          have HMR : Hid (∀ i (h : i + 1 < M.length), M[i] < M[i + 1]) := hid (by
            subst hM
            intro i h
            simp only [List.getElem_take]
            exact lst_rise (by rw [List.length_take] at h; omega))
          replace HO := hid (HO.out.but b14 (fun k hk => (HGO.out k hk).1))
          replace HNQ := hid (HNQ.out.but b14 (fun k hk => (HGE.out k hk).1))
          replace HBQ := hid (But.below HBQ.out b14 (fun k hk => by rw [hk]; exact hg))
          have HM := hid N14
          replace HA := hid A14
          have hK2n : K2 ≤ 256 := by omega
          clear N14 A14 b14 hM ht4 HK2 HGO hF2 hKN hK2 hF2n
          go_upto_region 29 with (first
            | (go_at_call 8; refine (num_any _ _).mono ?_; rintro e w15 ⟨rfl, rfl⟩)
            | (go_at_call 14; refine (taken_any g pb n t4 _ _ HA.out).mono ?_; rintro e w16 ⟨ta, tm, tc, rfl, O16, b16⟩; obtain rfl := len_of O16 hL1; clear O16; replace HA := hid (HA.out.later b16); replace HO := hid (HO.out.later b16); replace HNQ := hid (HNQ.out.later b16); replace HM := hid (HM.out.later b16); replace HBQ := hid (below_call HBQ.out b16); clear b16)
            | (go_at_call 11; refine (free_any g pb n t4 _ _ HA.out).mono ?_; rintro e w17 ⟨rfl, b17⟩; rw [hL0]; replace HA := hid (HA.out.later b17); replace HO := hid (HO.out.later b17); replace HNQ := hid (HNQ.out.later b17); replace HM := hid (HM.out.later b17); replace HBQ := hid (below_call HBQ.out b17); clear b17))
          clear hqq
          obtain ⟨mkW, hmk, hmB, hmC⟩ := make_any
          go_loopw [24] (fun v w' => ∃ i : Nat, v = .int .i64 (i : Int) ∧ i ≤ K2 ∧ Below w17.heap.size w17 w') (fun k _ => K2 - (intOf k).toNat)
          case atStart => exact ⟨0, rfl, Nat.zero_le _, Below.refl _ _⟩
          case round =>
            obtain ⟨i2, rfl, hi2, hB⟩ := hrel
            rename World => wp
            have HB := hid hB
            clear hB
            by_cases hlt : i2 < K2
            · have hd : decide ((i2 : Int) < (K2 : Int)) = true := decide_eq_true (by omega)
              have hMp := HM.out.later HB.out
              obtain ⟨mb, mo, rfl, hc⟩ := hMp.row.plain (by omega)
              have hil : i2 < M.length := by omega
              have y := hc i2 _ (ints_nats_get M i2 hil)
              obtain ⟨p, hp⟩ : ∃ p, p = M[i2] := ⟨_, rfl⟩
              rw [← hp] at y
              obtain ⟨hp4, hp3⟩ := HMT.out p (by rw [hp]; exact List.getElem_mem _)
              have HAP := hid (HA.out.later HB.out)
              have HCB : Hid (∀ i v, (ints (nats M))[i]? = some v → wp.cell? ⟨mb, mo + i, none⟩ = some v) := hid hc
              have HP := hid hp
              clear hc hMp hp
              go_upto_region 32 with (first | (go_at_call 15; refine (read_ok g pb n t4 (B3 x K G) p 0 64 _ HAP.out hp4 (by omega)).mono ?_; rintro e w18 ⟨ba, rfl, N18, b18⟩))
              rw [pgL_zeros (fun j => t3_false hp3 x j)] at N18
              obtain ⟨zs, hzs⟩ : ∃ zs, zs = strB (fl (fun _ => 0) 64) := ⟨_, rfl⟩
              have hsm : ∀ q ∈ fl (fun _ => 0) 64, q < 256 := fun q hq => by
                simp only [fl, List.mem_map] at hq
                obtain ⟨_, _, rfl⟩ := hq
                omega
              have hmC2 : ∀ W, (convert 33 9 (.slice (some ⟨W.heap.size, 0, none⟩) 64 64)).run Try.prog (mkW W) = .ok (.string zs) (mkW W) := fun W => by rw [hzs]; exact hmC W
              have hmC3 : (convert 33 9 (.slice (some ⟨w18.heap.size, 0, none⟩) 64 64)).run Try.prog (mkW w18.drew) = .ok (.string zs) (mkW w18.drew) := hmC2 w18.drew
              have HS : Hid (∀ W' : World, Below w18.heap.size w18 W' → (W'.cell? ⟨mb, mo + i2, none⟩ = some (.int .i64 (p : Int)) ∧ (convert 33 9 (.slice ba 64 64)).run Try.prog W' = .ok (.string zs) W') ∧ Below w18.heap.size w18 W') := hid (fun W' hW => ⟨⟨cell_later (below_call b18 hW) y, by rw [hzs]; exact (N18.row.later hW).conv hsm⟩, hW⟩)
              have HB18 := hid (below_call HB.out b18)
              have HDM : Hid (Below w18.heap.size w18 (mkW w18.drew)) := hid (below_call (Below.refl _ _).drew (hmB w18.drew))
              clear hsm hzs N18 y hmC2 hmC hmB
              by_cases h0 : i2 = 0
              · subst h0
                simp only [Int.cast_ofNat_Int, Nat.add_zero] at *
                refine wp_region_held_drew (S := fun W' => (W'.cell? ⟨mb, mo, none⟩ = some (.int .i64 (p : Int)) ∧ (convert 33 9 (.slice ba 64 64)).run Try.prog W' = .ok (.string zs) W') ∧ Below w18.heap.size w18 W') (by kernel_rfl) (HS.out _ (Below.refl _ _).drew) (fun hHeld => ?_)
                refine wpAnyH_norm (l2 := #[false, false, false, false, false, false, false, false, false, false, false, false, false, false, false, false, false, false, false, false, false, false, false, false, false, false]) (f2 := 26) (by kernel_rfl) (by kernel_rfl) ?_
                refine wpAnyH_take (i := 0) (oi := _) (v := ?_) rfl (by kernel_rfl) (by kernel_rfl) (by kernel_rfl) (fun _ _ _ h => h) (Or.inl ⟨by rfl, ?_⟩) (by assumption) ?_
                rotate_left
                · (intro w hSw; (try dsimp only at hSw); go_simp; try with_reducible rfl)
                simp only [List.getElem_toArray, List.getElem_cons_succ, List.getElem_cons_zero, Act.put, List.setIfInBounds_toArray, List.set_cons_zero, List.set_cons_succ]
                refine wpAnyH_norm (l2 := #[true, false, false, false, false, false, false, false, false, false, false, false, false, false, false, false, false, false, false, false, false, false, false, false, false, false]) (f2 := 25) (by kernel_rfl) (by kernel_rfl) ?_
                refine wpAnyH_ready (rs := [1]) (by kernel_rfl) (by simp) ?_
                refine AllReadyH.cons rfl (fun K hK => ?_) AllReadyH.nil
                go_simp
                go_wp2_with (first | (go_at_call 8; refine (num_any _ _).mono ?_; rintro e w19 ⟨rfl, rfl⟩))
                refine hK.out _ _ (HS.out _ (Below.refl _ _).drew) (fun hHeld => ?_)
                clear hK K
                simp only [List.getElem_toArray, List.getElem_cons_succ, List.getElem_cons_zero, Act.put, List.setIfInBounds_toArray, List.set_cons_zero, List.set_cons_succ]
                refine wpAnyH_norm (l2 := #[true, true, false, false, false, false, false, false, false, false, false, false, false, false, false, false, false, false, false, false, false, false, false, false, false, false]) (f2 := 24) (by kernel_rfl) (by kernel_rfl) ?_
                refine wpAnyH_take (i := 2) (oi := _) (v := ?_) rfl (by kernel_rfl) (by kernel_rfl) (by kernel_rfl) (fun _ _ _ h => h) (Or.inl ⟨by rfl, ?_⟩) (by assumption) ?_
                rotate_left
                · (intro w hSw; (try dsimp only at hSw); go_simp; try with_reducible rfl)
                simp only [List.getElem_toArray, List.getElem_cons_succ, List.getElem_cons_zero, Act.put, List.setIfInBounds_toArray, List.set_cons_zero, List.set_cons_succ]
                refine wpAnyH_norm (l2 := #[true, true, true, false, false, false, false, false, false, false, false, false, false, false, false, false, false, false, false, false, false, false, false, false, false, false]) (f2 := 23) (by kernel_rfl) (by kernel_rfl) ?_
                refine wpAnyH_take (i := 3) (oi := _) (v := ?_) rfl (by kernel_rfl) (by kernel_rfl) (by kernel_rfl) (fun _ _ _ h => h) (Or.inl ⟨by rfl, ?_⟩) (by assumption) ?_
                rotate_left
                · (intro w hSw; (try dsimp only at hSw); go_simp; try with_reducible rfl)
                simp only [List.getElem_toArray, List.getElem_cons_succ, List.getElem_cons_zero, Act.put, List.setIfInBounds_toArray, List.set_cons_zero, List.set_cons_succ]
                refine wpAnyH_norm (l2 := #[true, true, true, true, false, false, false, false, false, false, false, false, false, false, false, false, false, false, false, false, false, false, false, false, false, false]) (f2 := 22) (by kernel_rfl) (by kernel_rfl) ?_
                refine wpAnyH_take (i := 4) (oi := _) (v := ?_) rfl (by kernel_rfl) (by kernel_rfl) (by kernel_rfl) (fun _ _ _ h => h) (Or.inl ⟨by rfl, ?_⟩) (by assumption) ?_
                rotate_left
                · (intro w hSw; (try dsimp only at hSw); go_simp; try with_reducible rfl)
                simp only [List.getElem_toArray, List.getElem_cons_succ, List.getElem_cons_zero, Act.put, List.setIfInBounds_toArray, List.set_cons_zero, List.set_cons_succ]
                refine wpAnyH_norm (l2 := #[true, true, true, true, true, false, false, false, false, false, false, false, false, false, false, false, false, false, false, false, false, false, false, false, false, false]) (f2 := 21) (by kernel_rfl) (by kernel_rfl) ?_
                refine wpAnyH_take (i := 5) (oi := _) (v := ?_) rfl (by kernel_rfl) (by kernel_rfl) (by kernel_rfl) (fun _ _ _ h => h) (Or.inl ⟨by rfl, ?_⟩) (by assumption) ?_
                rotate_left
                · (intro w hSw; (try dsimp only at hSw); go_simp; try with_reducible rfl)
                simp only [List.getElem_toArray, List.getElem_cons_succ, List.getElem_cons_zero, Act.put, List.setIfInBounds_toArray, List.set_cons_zero, List.set_cons_succ]
                refine wpAnyH_norm (l2 := #[true, true, true, true, true, true, false, false, false, false, false, false, false, false, false, false, false, false, false, false, false, false, false, false, false, false]) (f2 := 20) (by kernel_rfl) (by kernel_rfl) ?_
                refine wpAnyH_ready (rs := [6]) (by kernel_rfl) (by simp) ?_
                refine AllReadyH.cons rfl (fun K hK => ?_) AllReadyH.nil
                go_simp
                refine hK.out _ _ (HS.out _ HDM.out) (fun hHeld => ?_)
                clear hK K
                simp only [List.getElem_toArray, List.getElem_cons_succ, List.getElem_cons_zero, Act.put, List.setIfInBounds_toArray, List.set_cons_zero, List.set_cons_succ]
                refine wpAnyH_norm (l2 := #[true, true, true, true, true, true, true, false, false, false, false, false, false, false, false, false, false, false, false, false, false, false, false, false, false, false]) (f2 := 19) (by kernel_rfl) (by kernel_rfl) ?_
                refine wpAnyH_ready (rs := [7]) (by kernel_rfl) (by simp) ?_
                refine AllReadyH.cons rfl (fun K hK => ?_) AllReadyH.nil
                go_simp
                refine hK.out _ _ (HS.out _ HDM.out) (fun hHeld => ?_)
                clear hK K
                simp only [List.getElem_toArray, List.getElem_cons_succ, List.getElem_cons_zero, Act.put, List.setIfInBounds_toArray, List.set_cons_zero, List.set_cons_succ]
                refine wpAnyH_norm (l2 := #[true, true, true, true, true, true, true, true, false, false, false, false, false, false, false, false, false, false, false, false, false, false, false, false, false, false]) (f2 := 18) (by kernel_rfl) (by kernel_rfl) ?_
                refine wpAnyH_take (i := 8) (oi := _) (v := ?_) rfl (by kernel_rfl) (by kernel_rfl) (by kernel_rfl) (fun _ _ _ h => h) (Or.inl ⟨by rfl, ?_⟩) (by assumption) ?_
                rotate_left
                · (intro w hSw; (try dsimp only at hSw); go_simp; try with_reducible rfl)
                simp only [List.getElem_toArray, List.getElem_cons_succ, List.getElem_cons_zero, Act.put, List.setIfInBounds_toArray, List.set_cons_zero, List.set_cons_succ]
                refine wpAnyH_norm (l2 := #[true, true, true, true, true, true, true, true, true, false, false, false, false, false, false, false, false, false, false, false, false, false, false, false, false, false]) (f2 := 17) (by kernel_rfl) (by kernel_rfl) ?_
                refine wpAnyH_take (i := 9) (oi := _) (v := ?_) rfl (by kernel_rfl) (by kernel_rfl) (by kernel_rfl) (fun _ _ _ h => h) (Or.inl ⟨by rfl, ?_⟩) (by assumption) ?_
                rotate_left
                · (intro w hSw; (try dsimp only at hSw); go_simp; try with_reducible rfl)
                simp only [List.getElem_toArray, List.getElem_cons_succ, List.getElem_cons_zero, Act.put, List.setIfInBounds_toArray, List.set_cons_zero, List.set_cons_succ]
                refine wpAnyH_norm (l2 := #[true, true, true, true, true, true, true, true, true, true, false, false, false, false, false, false, false, false, false, false, false, false, false, false, false, false]) (f2 := 16) (by kernel_rfl) (by kernel_rfl) ?_
                refine wpAnyH_take (i := 10) (oi := _) (v := ?_) rfl (by kernel_rfl) (by kernel_rfl) (by kernel_rfl) (fun _ _ _ h => h) (Or.inl ⟨by rfl, ?_⟩) (by assumption) ?_
                rotate_left
                · (intro w hSw; (try dsimp only at hSw); go_simp; try with_reducible rfl)
                simp only [List.getElem_toArray, List.getElem_cons_succ, List.getElem_cons_zero, Act.put, List.setIfInBounds_toArray, List.set_cons_zero, List.set_cons_succ]
                refine wpAnyH_norm (l2 := #[true, true, true, true, true, true, true, true, true, true, true, false, false, false, false, false, false, false, false, false, false, false, false, false, false, false]) (f2 := 15) (by kernel_rfl) (by kernel_rfl) ?_
                refine wpAnyH_take (i := 11) (oi := _) (v := ?_) rfl (by kernel_rfl) (by kernel_rfl) (by kernel_rfl) (fun _ _ _ h => h) (Or.inl ⟨by rfl, ?_⟩) (by assumption) ?_
                rotate_left
                · (intro w hSw; (try dsimp only at hSw); go_simp; try with_reducible rfl)
                simp only [List.getElem_toArray, List.getElem_cons_succ, List.getElem_cons_zero, Act.put, List.setIfInBounds_toArray, List.set_cons_zero, List.set_cons_succ]
                refine wpAnyH_norm (l2 := #[true, true, true, true, true, true, true, true, true, true, true, true, false, false, false, false, false, false, false, false, false, false, false, false, false, false]) (f2 := 14) (by kernel_rfl) (by kernel_rfl) ?_
                refine wpAnyH_take (i := 12) (oi := _) (v := ?_) rfl (by kernel_rfl) (by kernel_rfl) (by kernel_rfl) (fun _ _ _ h => h) (Or.inl ⟨by rfl, ?_⟩) (by assumption) ?_
                rotate_left
                · (intro w hSw; (try dsimp only at hSw); go_simp; try with_reducible rfl)
                simp only [List.getElem_toArray, List.getElem_cons_succ, List.getElem_cons_zero, Act.put, List.setIfInBounds_toArray, List.set_cons_zero, List.set_cons_succ]
                refine wpAnyH_norm (l2 := #[true, true, true, true, true, true, true, true, true, true, true, true, true, false, false, false, false, false, false, false, false, false, false, false, false, false]) (f2 := 13) (by kernel_rfl) (by kernel_rfl) ?_
                refine wpAnyH_take (i := 13) (oi := _) (v := ?_) rfl (by kernel_rfl) (by kernel_rfl) (by kernel_rfl) (fun _ _ _ h => h) (Or.inl ⟨by rfl, ?_⟩) (by assumption) ?_
                rotate_left
                · (intro w hSw; (try dsimp only at hSw); go_simp; try with_reducible rfl)
                simp only [List.getElem_toArray, List.getElem_cons_succ, List.getElem_cons_zero, Act.put, List.setIfInBounds_toArray, List.set_cons_zero, List.set_cons_succ]
                refine wpAnyH_norm (l2 := #[true, true, true, true, true, true, true, true, true, true, true, true, true, true, false, false, false, false, false, false, false, false, false, false, false, false]) (f2 := 12) (by kernel_rfl) (by kernel_rfl) ?_
                refine wpAnyH_take (i := 14) (oi := _) (v := undef) rfl (by kernel_rfl) (by kernel_rfl) (by kernel_rfl) (fun _ _ _ h => h) (Or.inr ⟨by rfl, rfl⟩) (by assumption) ?_
                simp only [List.getElem_toArray, List.getElem_cons_succ, List.getElem_cons_zero, Act.put, List.setIfInBounds_toArray, List.set_cons_zero, List.set_cons_succ]
                refine wpAnyH_norm (l2 := #[true, true, true, true, true, true, true, true, true, true, true, true, true, true, true, false, false, false, false, false, false, false, false, false, false, false]) (f2 := 11) (by kernel_rfl) (by kernel_rfl) ?_
                refine wpAnyH_take (i := 15) (oi := _) (v := undef) rfl (by kernel_rfl) (by kernel_rfl) (by kernel_rfl) (fun _ _ _ h => h) (Or.inr ⟨by rfl, rfl⟩) (by assumption) ?_
                simp only [List.getElem_toArray, List.getElem_cons_succ, List.getElem_cons_zero, Act.put, List.setIfInBounds_toArray, List.set_cons_zero, List.set_cons_succ]
                refine wpAnyH_norm (l2 := #[true, true, true, true, true, true, true, true, true, true, true, true, true, true, true, true, false, false, false, false, false, false, false, false, false, false]) (f2 := 10) (by kernel_rfl) (by kernel_rfl) ?_
                refine wpAnyH_take (i := 16) (oi := _) (v := undef) rfl (by kernel_rfl) (by kernel_rfl) (by kernel_rfl) (fun _ _ _ h => h) (Or.inr ⟨by rfl, rfl⟩) (by assumption) ?_
                simp only [List.getElem_toArray, List.getElem_cons_succ, List.getElem_cons_zero, Act.put, List.setIfInBounds_toArray, List.set_cons_zero, List.set_cons_succ]
                refine wpAnyH_norm (l2 := #[true, true, true, true, true, true, true, true, true, true, true, true, true, true, true, true, true, false, false, false, false, false, false, false, false, false]) (f2 := 9) (by kernel_rfl) (by kernel_rfl) ?_
                refine wpAnyH_take (i := 17) (oi := _) (v := undef) rfl (by kernel_rfl) (by kernel_rfl) (by kernel_rfl) (fun _ _ _ h => h) (Or.inr ⟨by rfl, rfl⟩) (by assumption) ?_
                simp only [List.getElem_toArray, List.getElem_cons_succ, List.getElem_cons_zero, Act.put, List.setIfInBounds_toArray, List.set_cons_zero, List.set_cons_succ]
                refine wpAnyH_norm (l2 := #[true, true, true, true, true, true, true, true, true, true, true, true, true, true, true, true, true, true, false, false, false, false, false, false, false, false]) (f2 := 8) (by kernel_rfl) (by kernel_rfl) ?_
                refine wpAnyH_take (i := 18) (oi := _) (v := undef) rfl (by kernel_rfl) (by kernel_rfl) (by kernel_rfl) (fun _ _ _ h => h) (Or.inr ⟨by rfl, rfl⟩) (by assumption) ?_
                simp only [List.getElem_toArray, List.getElem_cons_succ, List.getElem_cons_zero, Act.put, List.setIfInBounds_toArray, List.set_cons_zero, List.set_cons_succ]
                refine wpAnyH_norm (l2 := #[true, true, true, true, true, true, true, true, true, true, true, true, true, true, true, true, true, true, true, false, false, false, false, false, false, false]) (f2 := 7) (by kernel_rfl) (by kernel_rfl) ?_
                refine wpAnyH_take (i := 19) (oi := _) (v := undef) rfl (by kernel_rfl) (by kernel_rfl) (by kernel_rfl) (fun _ _ _ h => h) (Or.inr ⟨by rfl, rfl⟩) (by assumption) ?_
                simp only [List.getElem_toArray, List.getElem_cons_succ, List.getElem_cons_zero, Act.put, List.setIfInBounds_toArray, List.set_cons_zero, List.set_cons_succ]
                refine wpAnyH_norm (l2 := #[true, true, true, true, true, true, true, true, true, true, true, true, true, true, true, true, true, true, true, true, false, false, false, false, false, false]) (f2 := 6) (by kernel_rfl) (by kernel_rfl) ?_
                refine wpAnyH_take (i := 20) (oi := _) (v := undef) rfl (by kernel_rfl) (by kernel_rfl) (by kernel_rfl) (fun _ _ _ h => h) (Or.inr ⟨by rfl, rfl⟩) (by assumption) ?_
                simp only [List.getElem_toArray, List.getElem_cons_succ, List.getElem_cons_zero, Act.put, List.setIfInBounds_toArray, List.set_cons_zero, List.set_cons_succ]
                refine wpAnyH_norm (l2 := #[true, true, true, true, true, true, true, true, true, true, true, true, true, true, true, true, true, true, true, true, true, false, false, false, false, false]) (f2 := 5) (by kernel_rfl) (by kernel_rfl) ?_
                refine wpAnyH_take (i := 21) (oi := _) (v := undef) rfl (by kernel_rfl) (by kernel_rfl) (by kernel_rfl) (fun _ _ _ h => h) (Or.inr ⟨by rfl, rfl⟩) (by assumption) ?_
                simp only [List.getElem_toArray, List.getElem_cons_succ, List.getElem_cons_zero, Act.put, List.setIfInBounds_toArray, List.set_cons_zero, List.set_cons_succ]
                refine wpAnyH_norm (l2 := #[true, true, true, true, true, true, true, true, true, true, true, true, true, true, true, true, true, true, true, true, true, true, false, false, false, false]) (f2 := 4) (by kernel_rfl) (by kernel_rfl) ?_
                refine wpAnyH_take (i := 22) (oi := _) (v := undef) rfl (by kernel_rfl) (by kernel_rfl) (by kernel_rfl) (fun _ _ _ h => h) (Or.inr ⟨by rfl, rfl⟩) (by assumption) ?_
                simp only [List.getElem_toArray, List.getElem_cons_succ, List.getElem_cons_zero, Act.put, List.setIfInBounds_toArray, List.set_cons_zero, List.set_cons_succ]
                refine wpAnyH_norm (l2 := #[true, true, true, true, true, true, true, true, true, true, true, true, true, true, true, true, true, true, true, true, true, true, true, false, false, false]) (f2 := 3) (by kernel_rfl) (by kernel_rfl) ?_
                refine wpAnyH_take (i := 23) (oi := _) (v := undef) rfl (by kernel_rfl) (by kernel_rfl) (by kernel_rfl) (fun _ _ _ h => h) (Or.inr ⟨by rfl, rfl⟩) (by assumption) ?_
                simp only [List.getElem_toArray, List.getElem_cons_succ, List.getElem_cons_zero, Act.put, List.setIfInBounds_toArray, List.set_cons_zero, List.set_cons_succ]
                refine wpAnyH_norm (l2 := #[true, true, true, true, true, true, true, true, true, true, true, true, true, true, true, true, true, true, true, true, true, true, true, true, false, false]) (f2 := 2) (by kernel_rfl) (by kernel_rfl) ?_
                refine wpAnyH_take (i := 24) (oi := _) (v := ?_) rfl (by kernel_rfl) (by kernel_rfl) (by kernel_rfl) (fun _ _ _ h => h) (Or.inl ⟨by rfl, ?_⟩) (by assumption) ?_
                rotate_left
                · (intro w hSw; (try dsimp only at hSw); go_simp; try with_reducible rfl)
                simp only [List.getElem_toArray, List.getElem_cons_succ, List.getElem_cons_zero, Act.put, List.setIfInBounds_toArray, List.set_cons_zero, List.set_cons_succ]
                refine wpAnyH_norm (l2 := #[true, true, true, true, true, true, true, true, true, true, true, true, true, true, true, true, true, true, true, true, true, true, true, true, true, false]) (f2 := 1) (by kernel_rfl) (by kernel_rfl) ?_
                refine wpAnyH_take (i := 25) (oi := _) (v := ?_) rfl (by kernel_rfl) (by kernel_rfl) (by kernel_rfl) (fun _ _ _ h => h) (Or.inl ⟨by rfl, ?_⟩) (by assumption) ?_
                rotate_left
                · (intro w hSw; (try dsimp only at hSw); go_simp; try with_reducible rfl)
                simp only [List.getElem_toArray, List.getElem_cons_succ, List.getElem_cons_zero, Act.put, List.setIfInBounds_toArray, List.set_cons_zero, List.set_cons_succ]
                refine wpAnyH_norm (l2 := #[true, true, true, true, true, true, true, true, true, true, true, true, true, true, true, true, true, true, true, true, true, true, true, true, true, true]) (f2 := 0) (by kernel_rfl) (by kernel_rfl) ?_
                refine wpAnyH_done (by kernel_rfl) ?_ _
                go_wp2
                exact ⟨⟨1, rfl, by omega, below_call HB18.out HDM.out⟩, by simp [intOf]; omega⟩
              · obtain ⟨k, rfl⟩ : ∃ k, i2 = k + 1 := ⟨i2 - 1, by omega⟩
                obtain ⟨p0, hp0⟩ : ∃ p0, p0 = M[k] := ⟨_, rfl⟩
                have hpp : p0 < p := by rw [hp0, HP.out]; exact HMR.out k hil
                have y0 := cell_later b18 (HCB.out k _ (ints_nats_get M k (by omega)))
                rw [← hp0] at y0
                have HS2 : Hid (∀ W' : World, Below w18.heap.size w18 W' → (W'.cell? ⟨mb, mo + k, none⟩ = some (.int .i64 (p0 : Int)) ∧ W'.cell? ⟨mb, mo + (k + 1), none⟩ = some (.int .i64 (p : Int)) ∧ (convert 33 9 (.slice ba 64 64)).run Try.prog W' = .ok (.string zs) W') ∧ Below w18.heap.size w18 W') := hid (fun W' hW => ⟨⟨cell_later hW y0, (HS.out W' hW).1.1, (HS.out W' hW).1.2⟩, hW⟩)
                have hge : decide ((p0 : Int) ≥ (p : Int)) = false := decide_eq_false (by omega)
                have hgt : decide ((k : Int) + 1 > 0) = true := decide_eq_true (by omega)
                have hkw : IntKind.i64.wrap (k : Int) = (k : Int) := by rw [IntKind.wrap_i64]; omega
                have hkb0 : (0 : Int) ≤ (k : Int) := by omega
                have hkb1 : (k : Int) < (K2 : Int) := by omega
                have hkb2 : (0 : Int) ≤ (k : Int) + 1 := by omega
                have hkb3 : (k : Int) + 1 < (K2 : Int) := by omega
                clear y0 hp0 HP HS h0
                simp only [Int.natCast_add, Int.cast_ofNat_Int]
                refine wp_region_held_drew (S := fun W' => (W'.cell? ⟨mb, mo + k, none⟩ = some (.int .i64 (p0 : Int)) ∧ W'.cell? ⟨mb, mo + (k + 1), none⟩ = some (.int .i64 (p : Int)) ∧ (convert 33 9 (.slice ba 64 64)).run Try.prog W' = .ok (.string zs) W') ∧ Below w18.heap.size w18 W') (by kernel_rfl) (HS2.out _ (Below.refl _ _).drew) (fun hHeld => ?_)
                refine wpAnyH_norm (l2 := #[false, false, false, false, false, false, false, false, false, false, false, false, false, false, false, false, false, false, false, false, false, false, false, false, false, false]) (f2 := 26) (by kernel_rfl) (by kernel_rfl) ?_
                refine wpAnyH_take (i := 0) (oi := _) (v := ?_) rfl (by kernel_rfl) (by kernel_rfl) (by kernel_rfl) (fun _ _ _ h => h) (Or.inl ⟨by rfl, ?_⟩) (by assumption) ?_
                rotate_left
                · (intro w hSw; (try dsimp only at hSw); go_simp; try with_reducible rfl)
                simp only [List.getElem_toArray, List.getElem_cons_succ, List.getElem_cons_zero, Act.put, List.setIfInBounds_toArray, List.set_cons_zero, List.set_cons_succ]
                refine wpAnyH_norm (l2 := #[true, false, false, false, false, false, false, false, false, false, false, false, false, false, false, false, false, false, false, false, false, false, false, false, false, false]) (f2 := 25) (by kernel_rfl) (by kernel_rfl) ?_
                refine wpAnyH_ready (rs := [1]) (by kernel_rfl) (by simp) ?_
                refine AllReadyH.cons rfl (fun K hK => ?_) AllReadyH.nil
                go_simp
                go_wp2_with (first | (go_at_call 8; refine (num_any _ _).mono ?_; rintro e w19 ⟨rfl, rfl⟩))
                refine hK.out _ _ (HS2.out _ (Below.refl _ _).drew) (fun hHeld => ?_)
                clear hK K
                simp only [List.getElem_toArray, List.getElem_cons_succ, List.getElem_cons_zero, Act.put, List.setIfInBounds_toArray, List.set_cons_zero, List.set_cons_succ]
                refine wpAnyH_norm (l2 := #[true, true, false, false, false, false, false, false, false, false, false, false, false, false, false, false, false, false, false, false, false, false, false, false, false, false]) (f2 := 24) (by kernel_rfl) (by kernel_rfl) ?_
                refine wpAnyH_take (i := 2) (oi := _) (v := ?_) rfl (by kernel_rfl) (by kernel_rfl) (by kernel_rfl) (fun _ _ _ h => h) (Or.inl ⟨by rfl, ?_⟩) (by assumption) ?_
                rotate_left
                · (intro w hSw; (try dsimp only at hSw); go_simp; try with_reducible rfl)
                simp only [List.getElem_toArray, List.getElem_cons_succ, List.getElem_cons_zero, Act.put, List.setIfInBounds_toArray, List.set_cons_zero, List.set_cons_succ]
                refine wpAnyH_norm (l2 := #[true, true, true, false, false, false, false, false, false, false, false, false, false, false, false, false, false, false, false, false, false, false, false, false, false, false]) (f2 := 23) (by kernel_rfl) (by kernel_rfl) ?_
                refine wpAnyH_take (i := 3) (oi := _) (v := ?_) rfl (by kernel_rfl) (by kernel_rfl) (by kernel_rfl) (fun _ _ _ h => h) (Or.inl ⟨by rfl, ?_⟩) (by assumption) ?_
                rotate_left
                · (intro w hSw; (try dsimp only at hSw); go_simp; try with_reducible rfl)
                simp only [List.getElem_toArray, List.getElem_cons_succ, List.getElem_cons_zero, Act.put, List.setIfInBounds_toArray, List.set_cons_zero, List.set_cons_succ]
                refine wpAnyH_norm (l2 := #[true, true, true, true, false, false, false, false, false, false, false, false, false, false, false, false, false, false, false, false, false, false, false, false, false, false]) (f2 := 22) (by kernel_rfl) (by kernel_rfl) ?_
                refine wpAnyH_take (i := 4) (oi := _) (v := ?_) rfl (by kernel_rfl) (by kernel_rfl) (by kernel_rfl) (fun _ _ _ h => h) (Or.inl ⟨by rfl, ?_⟩) (by assumption) ?_
                rotate_left
                · (intro w hSw; (try dsimp only at hSw); go_simp; try with_reducible rfl)
                simp only [List.getElem_toArray, List.getElem_cons_succ, List.getElem_cons_zero, Act.put, List.setIfInBounds_toArray, List.set_cons_zero, List.set_cons_succ]
                refine wpAnyH_norm (l2 := #[true, true, true, true, true, false, false, false, false, false, false, false, false, false, false, false, false, false, false, false, false, false, false, false, false, false]) (f2 := 21) (by kernel_rfl) (by kernel_rfl) ?_
                refine wpAnyH_take (i := 5) (oi := _) (v := ?_) rfl (by kernel_rfl) (by kernel_rfl) (by kernel_rfl) (fun _ _ _ h => h) (Or.inl ⟨by rfl, ?_⟩) (by assumption) ?_
                rotate_left
                · (intro w hSw; (try dsimp only at hSw); go_simp; try with_reducible rfl)
                simp only [List.getElem_toArray, List.getElem_cons_succ, List.getElem_cons_zero, Act.put, List.setIfInBounds_toArray, List.set_cons_zero, List.set_cons_succ]
                refine wpAnyH_norm (l2 := #[true, true, true, true, true, true, false, false, false, false, false, false, false, false, false, false, false, false, false, false, false, false, false, false, false, false]) (f2 := 20) (by kernel_rfl) (by kernel_rfl) ?_
                refine wpAnyH_ready (rs := [6]) (by kernel_rfl) (by simp) ?_
                refine AllReadyH.cons rfl (fun K hK => ?_) AllReadyH.nil
                go_simp
                refine hK.out _ _ (HS2.out _ HDM.out) (fun hHeld => ?_)
                clear hK K
                simp only [List.getElem_toArray, List.getElem_cons_succ, List.getElem_cons_zero, Act.put, List.setIfInBounds_toArray, List.set_cons_zero, List.set_cons_succ]
                refine wpAnyH_norm (l2 := #[true, true, true, true, true, true, true, false, false, false, false, false, false, false, false, false, false, false, false, false, false, false, false, false, false, false]) (f2 := 19) (by kernel_rfl) (by kernel_rfl) ?_
                refine wpAnyH_ready (rs := [7]) (by kernel_rfl) (by simp) ?_
                refine AllReadyH.cons rfl (fun K hK => ?_) AllReadyH.nil
                go_simp
                refine hK.out _ _ (HS2.out _ HDM.out) (fun hHeld => ?_)
                clear hK K
                simp only [List.getElem_toArray, List.getElem_cons_succ, List.getElem_cons_zero, Act.put, List.setIfInBounds_toArray, List.set_cons_zero, List.set_cons_succ]
                refine wpAnyH_norm (l2 := #[true, true, true, true, true, true, true, true, false, false, false, false, false, false, false, false, false, false, false, false, false, false, false, false, false, false]) (f2 := 18) (by kernel_rfl) (by kernel_rfl) ?_
                refine wpAnyH_take (i := 8) (oi := _) (v := ?_) rfl (by kernel_rfl) (by kernel_rfl) (by kernel_rfl) (fun _ _ _ h => h) (Or.inl ⟨by rfl, ?_⟩) (by assumption) ?_
                rotate_left
                · (intro w hSw; (try dsimp only at hSw); go_simp; try with_reducible rfl)
                simp only [List.getElem_toArray, List.getElem_cons_succ, List.getElem_cons_zero, Act.put, List.setIfInBounds_toArray, List.set_cons_zero, List.set_cons_succ]
                refine wpAnyH_norm (l2 := #[true, true, true, true, true, true, true, true, true, false, false, false, false, false, false, false, false, false, false, false, false, false, false, false, false, false]) (f2 := 17) (by kernel_rfl) (by kernel_rfl) ?_
                refine wpAnyH_take (i := 9) (oi := _) (v := ?_) rfl (by kernel_rfl) (by kernel_rfl) (by kernel_rfl) (fun _ _ _ h => h) (Or.inl ⟨by rfl, ?_⟩) (by assumption) ?_
                rotate_left
                · (intro w hSw; (try dsimp only at hSw); go_simp; try with_reducible rfl)
                simp only [List.getElem_toArray, List.getElem_cons_succ, List.getElem_cons_zero, Act.put, List.setIfInBounds_toArray, List.set_cons_zero, List.set_cons_succ]
                refine wpAnyH_norm (l2 := #[true, true, true, true, true, true, true, true, true, true, false, false, false, false, false, false, false, false, false, false, false, false, false, false, false, false]) (f2 := 16) (by kernel_rfl) (by kernel_rfl) ?_
                refine wpAnyH_take (i := 10) (oi := _) (v := ?_) rfl (by kernel_rfl) (by kernel_rfl) (by kernel_rfl) (fun _ _ _ h => h) (Or.inl ⟨by rfl, ?_⟩) (by assumption) ?_
                rotate_left
                · (intro w hSw; (try dsimp only at hSw); go_simp; try with_reducible rfl)
                simp only [List.getElem_toArray, List.getElem_cons_succ, List.getElem_cons_zero, Act.put, List.setIfInBounds_toArray, List.set_cons_zero, List.set_cons_succ]
                refine wpAnyH_norm (l2 := #[true, true, true, true, true, true, true, true, true, true, true, false, false, false, false, false, false, false, false, false, false, false, false, false, false, false]) (f2 := 15) (by kernel_rfl) (by kernel_rfl) ?_
                refine wpAnyH_take (i := 11) (oi := _) (v := ?_) rfl (by kernel_rfl) (by kernel_rfl) (by kernel_rfl) (fun _ _ _ h => h) (Or.inl ⟨by rfl, ?_⟩) (by assumption) ?_
                rotate_left
                · (intro w hSw; (try dsimp only at hSw); go_simp; try with_reducible rfl)
                simp only [List.getElem_toArray, List.getElem_cons_succ, List.getElem_cons_zero, Act.put, List.setIfInBounds_toArray, List.set_cons_zero, List.set_cons_succ]
                refine wpAnyH_norm (l2 := #[true, true, true, true, true, true, true, true, true, true, true, true, false, false, false, false, false, false, false, false, false, false, false, false, false, false]) (f2 := 14) (by kernel_rfl) (by kernel_rfl) ?_
                refine wpAnyH_take (i := 12) (oi := _) (v := ?_) rfl (by kernel_rfl) (by kernel_rfl) (by kernel_rfl) (fun _ _ _ h => h) (Or.inl ⟨by rfl, ?_⟩) (by assumption) ?_
                rotate_left
                · (intro w hSw; (try dsimp only at hSw); go_simp; try with_reducible rfl)
                simp only [List.getElem_toArray, List.getElem_cons_succ, List.getElem_cons_zero, Act.put, List.setIfInBounds_toArray, List.set_cons_zero, List.set_cons_succ]
                refine wpAnyH_norm (l2 := #[true, true, true, true, true, true, true, true, true, true, true, true, true, false, false, false, false, false, false, false, false, false, false, false, false, false]) (f2 := 13) (by kernel_rfl) (by kernel_rfl) ?_
                refine wpAnyH_take (i := 13) (oi := _) (v := ?_) rfl (by kernel_rfl) (by kernel_rfl) (by kernel_rfl) (fun _ _ _ h => h) (Or.inl ⟨by rfl, ?_⟩) (by assumption) ?_
                rotate_left
                · (intro w hSw; (try dsimp only at hSw); go_simp; try with_reducible rfl)
                simp only [List.getElem_toArray, List.getElem_cons_succ, List.getElem_cons_zero, Act.put, List.setIfInBounds_toArray, List.set_cons_zero, List.set_cons_succ]
                refine wpAnyH_norm (l2 := #[true, true, true, true, true, true, true, true, true, true, true, true, true, true, false, false, false, false, false, false, false, false, false, false, false, false]) (f2 := 12) (by kernel_rfl) (by kernel_rfl) ?_
                refine wpAnyH_take (i := 14) (oi := _) (v := ?_) rfl (by kernel_rfl) (by kernel_rfl) (by kernel_rfl) (fun _ _ _ h => h) (Or.inl ⟨by rfl, ?_⟩) (by assumption) ?_
                rotate_left
                · (intro w hSw; (try dsimp only at hSw); go_simp; try with_reducible rfl)
                simp only [List.getElem_toArray, List.getElem_cons_succ, List.getElem_cons_zero, Act.put, List.setIfInBounds_toArray, List.set_cons_zero, List.set_cons_succ]
                refine wpAnyH_norm (l2 := #[true, true, true, true, true, true, true, true, true, true, true, true, true, true, true, false, false, false, false, false, false, false, false, false, false, false]) (f2 := 11) (by kernel_rfl) (by kernel_rfl) ?_
                refine wpAnyH_take (i := 15) (oi := _) (v := ?_) rfl (by kernel_rfl) (by kernel_rfl) (by kernel_rfl) (fun _ _ _ h => h) (Or.inl ⟨by rfl, ?_⟩) (by assumption) ?_
                rotate_left
                · (intro w hSw; (try dsimp only at hSw); go_simp; try with_reducible rfl)
                simp only [List.getElem_toArray, List.getElem_cons_succ, List.getElem_cons_zero, Act.put, List.setIfInBounds_toArray, List.set_cons_zero, List.set_cons_succ]
                refine wpAnyH_norm (l2 := #[true, true, true, true, true, true, true, true, true, true, true, true, true, true, true, true, false, false, false, false, false, false, false, false, false, false]) (f2 := 10) (by kernel_rfl) (by kernel_rfl) ?_
                refine wpAnyH_take (i := 16) (oi := _) (v := ?_) rfl (by kernel_rfl) (by kernel_rfl) (by kernel_rfl) (fun _ _ _ h => h) (Or.inl ⟨by rfl, ?_⟩) (by assumption) ?_
                rotate_left
                · (intro w hSw; (try dsimp only at hSw); go_simp; try with_reducible rfl)
                simp only [List.getElem_toArray, List.getElem_cons_succ, List.getElem_cons_zero, Act.put, List.setIfInBounds_toArray, List.set_cons_zero, List.set_cons_succ]
                refine wpAnyH_norm (l2 := #[true, true, true, true, true, true, true, true, true, true, true, true, true, true, true, true, true, false, false, false, false, false, false, false, false, false]) (f2 := 9) (by kernel_rfl) (by kernel_rfl) ?_
                refine wpAnyH_take (i := 17) (oi := _) (v := ?_) rfl (by kernel_rfl) (by kernel_rfl) (by kernel_rfl) (fun _ _ _ h => h) (Or.inl ⟨by rfl, ?_⟩) (by assumption) ?_
                rotate_left
                · (intro w hSw; (try dsimp only at hSw); go_simp; try with_reducible rfl)
                simp only [List.getElem_toArray, List.getElem_cons_succ, List.getElem_cons_zero, Act.put, List.setIfInBounds_toArray, List.set_cons_zero, List.set_cons_succ]
                refine wpAnyH_norm (l2 := #[true, true, true, true, true, true, true, true, true, true, true, true, true, true, true, true, true, true, false, false, false, false, false, false, false, false]) (f2 := 8) (by kernel_rfl) (by kernel_rfl) ?_
                refine wpAnyH_take (i := 18) (oi := _) (v := ?_) rfl (by kernel_rfl) (by kernel_rfl) (by kernel_rfl) (fun _ _ _ h => h) (Or.inl ⟨by rfl, ?_⟩) (by assumption) ?_
                rotate_left
                · (intro w hSw; (try dsimp only at hSw); go_simp; try with_reducible rfl)
                simp only [List.getElem_toArray, List.getElem_cons_succ, List.getElem_cons_zero, Act.put, List.setIfInBounds_toArray, List.set_cons_zero, List.set_cons_succ]
                refine wpAnyH_norm (l2 := #[true, true, true, true, true, true, true, true, true, true, true, true, true, true, true, true, true, true, true, false, false, false, false, false, false, false]) (f2 := 7) (by kernel_rfl) (by kernel_rfl) ?_
                refine wpAnyH_take (i := 19) (oi := _) (v := ?_) rfl (by kernel_rfl) (by kernel_rfl) (by kernel_rfl) (fun _ _ _ h => h) (Or.inl ⟨by rfl, ?_⟩) (by assumption) ?_
                rotate_left
                · (intro w hSw; (try dsimp only at hSw); go_simp; try with_reducible rfl)
                simp only [List.getElem_toArray, List.getElem_cons_succ, List.getElem_cons_zero, Act.put, List.setIfInBounds_toArray, List.set_cons_zero, List.set_cons_succ]
                refine wpAnyH_norm (l2 := #[true, true, true, true, true, true, true, true, true, true, true, true, true, true, true, true, true, true, true, true, false, false, false, false, false, false]) (f2 := 6) (by kernel_rfl) (by kernel_rfl) ?_
                refine wpAnyH_take (i := 20) (oi := _) (v := ?_) rfl (by kernel_rfl) (by kernel_rfl) (by kernel_rfl) (fun _ _ _ h => h) (Or.inl ⟨by rfl, ?_⟩) (by assumption) ?_
                rotate_left
                · (intro w hSw; (try dsimp only at hSw); go_simp; try with_reducible rfl)
                simp only [List.getElem_toArray, List.getElem_cons_succ, List.getElem_cons_zero, Act.put, List.setIfInBounds_toArray, List.set_cons_zero, List.set_cons_succ]
                refine wpAnyH_norm (l2 := #[true, true, true, true, true, true, true, true, true, true, true, true, true, true, true, true, true, true, true, true, true, false, false, false, false, false]) (f2 := 5) (by kernel_rfl) (by kernel_rfl) ?_
                refine wpAnyH_take (i := 21) (oi := _) (v := ?_) rfl (by kernel_rfl) (by kernel_rfl) (by kernel_rfl) (fun _ _ _ h => h) (Or.inl ⟨by rfl, ?_⟩) (by assumption) ?_
                rotate_left
                · (intro w hSw; (try dsimp only at hSw); go_simp; try with_reducible rfl)
                simp only [List.getElem_toArray, List.getElem_cons_succ, List.getElem_cons_zero, Act.put, List.setIfInBounds_toArray, List.set_cons_zero, List.set_cons_succ]
                refine wpAnyH_norm (l2 := #[true, true, true, true, true, true, true, true, true, true, true, true, true, true, true, true, true, true, true, true, true, true, false, false, false, false]) (f2 := 4) (by kernel_rfl) (by kernel_rfl) ?_
                refine wpAnyH_take (i := 22) (oi := _) (v := ?_) rfl (by kernel_rfl) (by kernel_rfl) (by kernel_rfl) (fun _ _ _ h => h) (Or.inl ⟨by rfl, ?_⟩) (by assumption) ?_
                rotate_left
                · (intro w hSw; (try dsimp only at hSw); go_simp; try with_reducible rfl)
                simp only [List.getElem_toArray, List.getElem_cons_succ, List.getElem_cons_zero, Act.put, List.setIfInBounds_toArray, List.set_cons_zero, List.set_cons_succ]
                refine wpAnyH_norm (l2 := #[true, true, true, true, true, true, true, true, true, true, true, true, true, true, true, true, true, true, true, true, true, true, true, false, false, false]) (f2 := 3) (by kernel_rfl) (by kernel_rfl) ?_
                refine wpAnyH_take (i := 23) (oi := _) (v := ?_) rfl (by kernel_rfl) (by kernel_rfl) (by kernel_rfl) (fun _ _ _ h => h) (Or.inl ⟨by rfl, ?_⟩) (by assumption) ?_
                rotate_left
                · (intro w hSw; (try dsimp only at hSw); go_simp; try with_reducible rfl)
                simp only [List.getElem_toArray, List.getElem_cons_succ, List.getElem_cons_zero, Act.put, List.setIfInBounds_toArray, List.set_cons_zero, List.set_cons_succ]
                refine wpAnyH_norm (l2 := #[true, true, true, true, true, true, true, true, true, true, true, true, true, true, true, true, true, true, true, true, true, true, true, true, false, false]) (f2 := 2) (by kernel_rfl) (by kernel_rfl) ?_
                refine wpAnyH_take (i := 24) (oi := _) (v := ?_) rfl (by kernel_rfl) (by kernel_rfl) (by kernel_rfl) (fun _ _ _ h => h) (Or.inl ⟨by rfl, ?_⟩) (by assumption) ?_
                rotate_left
                · (intro w hSw; (try dsimp only at hSw); go_simp; try with_reducible rfl)
                simp only [List.getElem_toArray, List.getElem_cons_succ, List.getElem_cons_zero, Act.put, List.setIfInBounds_toArray, List.set_cons_zero, List.set_cons_succ]
                refine wpAnyH_norm (l2 := #[true, true, true, true, true, true, true, true, true, true, true, true, true, true, true, true, true, true, true, true, true, true, true, true, true, false]) (f2 := 1) (by kernel_rfl) (by kernel_rfl) ?_
                refine wpAnyH_take (i := 25) (oi := _) (v := ?_) rfl (by kernel_rfl) (by kernel_rfl) (by kernel_rfl) (fun _ _ _ h => h) (Or.inl ⟨by rfl, ?_⟩) (by assumption) ?_
                rotate_left
                · (intro w hSw; (try dsimp only at hSw); go_simp; try with_reducible rfl)
                simp only [List.getElem_toArray, List.getElem_cons_succ, List.getElem_cons_zero, Act.put, List.setIfInBounds_toArray, List.set_cons_zero, List.set_cons_succ]
                refine wpAnyH_norm (l2 := #[true, true, true, true, true, true, true, true, true, true, true, true, true, true, true, true, true, true, true, true, true, true, true, true, true, true]) (f2 := 0) (by kernel_rfl) (by kernel_rfl) ?_
                refine wpAnyH_done (by kernel_rfl) ?_ _
                go_wp2
                exact ⟨⟨k + 2, by go_num, by omega, below_call HB18.out HDM.out⟩, by simp [intOf]; omega⟩
            · obtain rfl : K2 = i2 := by omega
              have hd : decide ((K2 : Int) < (K2 : Int)) = false := by simp
              clear HMT HMR hmk hmB hmC
              go_upto_region 35 with fail
              have HA5 := hid (HA.out.later HB.out)
              have HO5 := hid (HO.out.later HB.out)
              have HN5 := hid (HNQ.out.later HB.out)
              have HBW := hid (below_call HBQ.out HB.out)
              have hGl : G.length ≤ 256 := Nat.le_trans (nodup_len K G HG.out.1 HG.out.2) (by omega)
              clear HA HO HNQ HBQ HB HM hlt hi2
              go_loopw [27] (fun v w' => ∃ i : Nat, v = .int .i64 (i : Int) ∧ i ≤ K ∧ Below wp.heap.size wp w') (fun k _ => K - (intOf k).toNat)
              case atStart => exact ⟨0, rfl, Nat.zero_le _, Below.refl _ _⟩
              case round =>
                obtain ⟨i5, rfl, hi5, hB⟩ := hrel
                rename World => w5
                have HB := hid hB
                clear hB
                by_cases hlt : i5 < K
                · have hd : decide ((i5 : Int) < (K : Int)) = true := decide_eq_true (by omega)
                  have HA6 := hid (HA5.out.later HB.out)
                  have HO6 := hid (HO5.out.later HB.out).read
                  have hN6 := (HN5.out.later HB.out).row
                  obtain ⟨lb, lo, rfl, hc⟩ := hN6.plain (by omega)
                  have y := hc i5 _ (ints_nats_get _ i5 (by simpa using hlt))
                  rw [List.getElem_range] at y
                  clear hc hN6
                  go_upto_region 39 with fail
                  go_loopw [28, 29] (ZRel6 G i5 w5) (fun _ k _ => G.length - (intOf k).toNat)
                  case atStart => exact ⟨0, 0, by simp, rfl, Nat.zero_le _, rfl⟩
                  case round =>
                    obtain ⟨j, kd, rfl, rfl, hj, rfl⟩ := hrel
                    by_cases hlt6 : j < G.length
                    · have hd6 : decide ((j : Int) < (G.length : Int)) = true := decide_eq_true (by omega)
                      obtain ⟨gb, go, rfl, hcg⟩ := HO6.out.plain (by omega)
                      have z := hcg j _ (ints_nats_get G j hlt6)
                      obtain ⟨q, hq⟩ : ∃ q, q = G[j] := ⟨_, rfl⟩
                      rw [← hq] at z
                      have HNX := hid (take_mem_next (i5 := i5) hlt6)
                      rw [← hq] at HNX
                      clear hcg hq
                      go_upto_region 41 with fail
                      obtain ⟨L, hL⟩ : ∃ L, L = G.length := ⟨_, rfl⟩
                      by_cases ho : i5 ∈ G.take j
                      · have e1 : decide (¬ i5 ∈ G.take j) = false := decide_eq_false (fun h => h ho)
                        have e2 : decide (¬ i5 ∈ G.take (j + 1)) = false := decide_eq_false (fun h => (HNX.out.1 h).1 ho)
                        rw [e1]
                        go_quiet (fail)
                        go_wp2
                        exact ⟨⟨j + 1, kd + nq, by rw [e2], rfl, by omega, rfl⟩, by simp [intOf]; omega⟩
                      · have e1 : decide (¬ i5 ∈ G.take j) = true := decide_eq_true ho
                        rw [e1]
                        by_cases hqi : q = i5
                        · have e2 : decide (¬ i5 ∈ G.take (j + 1)) = false := decide_eq_false (fun h => (HNX.out.1 h).2 hqi)
                          have hne : ((q : Int) != (i5 : Int)) = false := by simp [hqi]
                          clear hqi
                          go_quiet (fail)
                          go_wp2
                          exact ⟨⟨j + 1, kd + nq, by rw [e2], rfl, by omega, rfl⟩, by simp [intOf]; omega⟩
                        · have e2 : decide (¬ i5 ∈ G.take (j + 1)) = true := decide_eq_true (HNX.out.2 ⟨ho, hqi⟩)
                          have hne : ((q : Int) != (i5 : Int)) = true := by simp; omega
                          clear hqi
                          go_quiet (fail)
                          go_wp2
                          exact ⟨⟨j + 1, kd + nq, by rw [e2], rfl, by omega, rfl⟩, by simp [intOf]; omega⟩
                    · have hd6 : decide ((j : Int) < (G.length : Int)) = false := decide_eq_false (by omega)
                      have e0 : G.take j = G := List.take_of_length_le (by omega)
                      rw [e0]
                      clear e0 HO6 hd6 hj
                      have HA7 := hid (HA6.out.later (below_drewN (Below.refl _ _) kd))
                      have HB7 : Hid (Below wp.heap.size wp (w5.drewN kd)) := hid (below_drewN HB.out kd)
                      have y7 : (w5.drewN kd).cell? ⟨lb, lo + i5, none⟩ = some (.int .i64 (i5 : Int)) := by simpa using y
                      clear HA6 HB y
                      generalize w5.drewN kd = w7 at HA7 HB7 y7 ⊢
                      by_cases ho : i5 ∈ G
                      · rw [decide_eq_false (fun h : ¬ i5 ∈ G => h ho)]
                        go_upto_region 43 with (first | (go_at_call 15; refine (read_some g pb n t4 (B3 x K G) i5 _ HA7.out).mono ?_; rintro e w8 ⟨bv, bc, rfl, b8⟩; replace HB7 := hid (below_call HB7.out b8); clear b8))
                        go_quiet (first | (go_at_call 8; refine Calls.quiet_of_same (num_any _ _)))
                        go_wp2
                        exact ⟨⟨i5 + 1, rfl, by omega, below_drewN HB7.out _⟩, by simp [intOf]; omega⟩
                      · rw [decide_eq_true ho]
                        have ht4 := HT4.out i5 hlt ho
                        go_upto_region 43 with (first | (go_at_call 15; refine (read_ok g pb n t4 (B3 x K G) i5 0 64 _ HA7.out ht4 (by omega)).mono ?_; rintro e w8 ⟨ba, rfl, N8, b8⟩; replace HB7 := hid (below_call HB7.out b8); replace y7 := cell_later b8 y7; clear b8))
                        obtain ⟨bb, bo, rfl, hcb⟩ := N8.row.plain (by omega)
                        have c0 := hcb 0 _ (pgL_get _ _ _ _ 0 (by omega))
                        have c63 := hcb 63 _ (pgL_get _ _ _ _ 63 (by omega))
                        have hB3 : ∀ j, B3 x K G i5 j = xb x i5 := fun j => by unfold B3; rw [if_pos ⟨hlt, ho⟩]
                        rw [hB3, Nat.add_zero] at c0
                        rw [hB3] at c63
                        have hxb := (xb_spec x i5).1
                        obtain ⟨xv, hxv⟩ : ∃ xv, xv = xb x i5 := ⟨_, rfl⟩
                        rw [← hxv] at c0 c63 hxb
                        have hi256 : i5 < 256 := by omega
                        clear hcb hB3 hxv N8
                        go_quiet (first | (go_at_call 8; refine Calls.quiet_of_same (num_any _ _)))
                        go_wp2
                        exact ⟨⟨i5 + 1, rfl, by omega, below_drewN HB7.out _⟩, by simp [intOf]; omega⟩
                · obtain rfl : K = i5 := by omega
                  have hd : decide ((K : Int) < (K : Int)) = false := by simp
                  have HA6 := hid (HA5.out.later HB.out)
                  have HB6 := hid (below_call HBW.out HB.out)
                  have HL0 := hid hL0
                  clear HA5 HO5 HN5 HBW HB hL0
                  go_wp2_with (first
                    | (go_at_call 11; refine (free_any g pb n t4 _ _ HA6.out).mono ?_; rintro e w8 ⟨rfl, b8⟩; rw [HL0.out]; replace HA6 := hid (HA6.out.later b8); replace HB6 := hid (below_call HB6.out b8); clear b8)
                    | (go_at_call 10; refine (take_many g pb n t4 (B3 x K G) ((L0 : Int) + 1) _ HA6.out (by omega) (by rw [HL0.out]; omega)).mono ?_; rintro e w9 ⟨rfl, b9⟩; replace HB6 := hid (below_call HB6.out b9); clear b9)
                    | (go_at_call 8; refine (num_any _ _).mono ?_; rintro e w10 ⟨rfl, rfl⟩))
                  go_ret
                  exact ⟨rfl, HB6.out⟩
end Go.Proofs.Ytfcfacchppkmdaa
