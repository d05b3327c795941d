import Derived.Test.YtcagghfkomodlaaF2
namespace Go.Proofs.Ytcagghfkomodlaa
open Go.RowKit
set_option linter.unusedVariables false
set_option linter.unusedSimpArgs false

def G1Rel (w0 : World) (g r n : Nat) (t : Value) (w : World) : Prop :=
  ∃ (i : Nat) (K : List Cp) (pa : Option Addr) (ca : Nat), i ≤ n ∧ i ≤ 30 ∧ t = .int .i64 (i : Int) ∧ K.length = 2 + i ∧ Fs w0 w g r pa ca K
def G2Rel (wL : World) (K : List Cp) (n : Nat) (s t : Value) (w : World) : Prop :=
  ∃ (i : Nat) (R : List Int) (a : Option Addr) (c : Nat), i ≤ n ∧ i ≤ 32 ∧ s = .slice a i c ∧ t = .int .i64 (i : Int) ∧ R.length = i ∧ (∀ x ∈ R, okI K x = true) ∧ Own w wL.heap.size 3 a i c (ints R) ∧ Below wL.heap.size wL w
def G3Rel (wb : World) (n : Nat) (t : Value) (w : World) : Prop := ∃ i : Nat, i ≤ n ∧ t = .int .i64 (i : Int) ∧ ∃ q, w = wb.drewN q
/-- The first i are turned round. -/
def turn (n : Nat) (R : List Int) : List Int := R.map (fun x => (n : Int) - 1 - x)
structure Tn (n i : Nat) (R X : List Int) : Prop where
  len : X.length = R.length
  fst : ∀ j, j < i → ∀ x, R[j]? = some x → X[j]? = some ((n : Int) - 1 - x)
  rst : ∀ j, i ≤ j → X[j]? = R[j]?
theorem Tn.start (n : Nat) (R : List Int) : Tn n 0 R R := ⟨rfl, fun j hj => absurd hj (Nat.not_lt_zero _), fun _ _ => rfl⟩
theorem Tn.step {n i : Nat} {R X : List Int} {x : Int} (h : Tn n i R X) (hx : R[i]? = some x) : Tn n (i + 1) R (X.set i ((n : Int) - 1 - x)) := by
  have hi := (List.getElem?_eq_some_iff.1 hx).1
  refine ⟨by rw [List.length_set, h.len], fun j hj y hy => ?_, fun j hj => ?_⟩
  · rw [List.getElem?_set]
    rcases Nat.lt_or_ge j i with h3 | h3
    · rw [if_neg (by omega)]
      exact h.fst j h3 y hy
    · obtain rfl : j = i := by omega
      rw [hx] at hy
      cases hy
      rw [if_pos rfl, if_pos (by rw [h.len]; exact hi)]
  · rw [List.getElem?_set, if_neg (by omega)]
    exact h.rst j (by omega)
def G4Rel (wb : World) (gr n k c : Nat) (T : List Int) (t : Value) (w : World) : Prop :=
  ∃ (i : Nat) (X : List Int), i ≤ k ∧ t = .int .i64 (i : Int) ∧ Tn n i T X ∧ Own w 0 3 (some ⟨gr, 0, none⟩) (k + 3) c (ints X) ∧ But (· = gr) wb w
set_option maxRecDepth 100000 in
set_option maxHeartbeats 20000000 in
theorem fresh_any (w : World) {al ap : Option Addr} {nl cl np cp : Nat} {LL : List Cp} {P : List Int} (hl : Rd w al nl LL) (hP : Row w ap np cp (ints P)) (hnl : nl ≤ 9223372036854775807) (hnp : np ≤ 9223372036854775807) :
    Calls Try.prog 4 #[.slice al nl cl, .slice ap np cp] w fun e w' => e = .returned (.bool true) ∧ Below w.heap.size w w' := by
  have h1 := hl.len
  have h3 : P.length = np := by have := hP.len; rwa [ints_length] at this
  subst h1 h3
  have HL := hid hl
  have HP := hid hP
  clear hl hP
  go_enter Try.func4, Try.ntmps4
  go_upto_region 2 with (first | (go_at_call 7; refine (new_ok 32 _ (by omega) (by omega)).mono ?_; rintro e w1 ⟨g, rfl, hd1, hb1⟩; have HD1 := hid hd1; have HB1 := hid hb1; clear hd1 hb1))
  go_upto_region 3 with (first | (go_at_call 7; refine (new_ok 32 _ (by omega) (by omega)).mono ?_; rintro e w2 ⟨r, rfl, hd1, hb1⟩; have HD2 := hid hd1; have HB2 := hid hb1; clear hd1 hb1))
  have hF2 : Fs w w2 g r none 0 [] := ⟨HD1.out.later HB2.out, HD2.out.mono HB1.out.size, fun k e1 e2 => by
    have := (HD1.out.blk k e1).2
    have := (HD2.out.blk k e2).1
    omega, below_call HB1.out HB2.out⟩
  have HF2 := hid hF2
  clear HD1 HD2 HB1 HB2 hF2
  have hkn := hid (known_any w2)
  go_upto_region 5 with (first | (go_at_call 8; refine hkn.out.mono ?_; rintro e w3 ⟨rfl, hb2⟩; have HF3 := hid (HF2.out.later hb2); clear hb2))
  have had := hid (add_more HF3.out.dm (3, 0, 0) (by simp) (by omega))
  simp only [Int.cast_ofNat_Int] at had
  go_upto_region 6 with (first | (go_at_call 9; refine had.out.mono ?_; rintro e w4 ⟨pa4, ca4, rfl, hd4, hr4⟩; have HF4 := hid (HF3.out.wr hd4 hr4); clear hd4 hr4))
  clear had
  have had := hid (add_more HF4.out.dm (4, 0, 0) (by simp) (by omega))
  simp only [Int.cast_ofNat_Int] at had
  go_upto_region 7 with (first | (go_at_call 9; refine had.out.mono ?_; rintro e w5 ⟨pa5, ca5, rfl, hd5, hr5⟩; have HF5 := hid (HF4.out.wr hd5 hr5); clear hd5 hr5))
  have H0 : Hid (G1Rel w g r LL.length (.int .i64 0) w5) := ⟨0, _, pa5, ca5, by omega, by omega, rfl, rfl, HF5.out⟩
  clear had hkn HF2 HF3 HF4 HF5
  go_upto_region 8 with fail
  go_loopw [9] (G1Rel w g r LL.length) (fun t _ => LL.length - (intOf t).toNat)
  case atStart => exact H0.out
  case round =>
    clear H0
    obtain ⟨i, K, pa, ca, hi, hi30, rfl, hKl, hF⟩ := hrel
    have HF := hid hF
    clear hF
    go_upto_region 8 with fail
    go_cut [65] (fun q w' => q = .bool (decide (i < LL.length ∧ i < 30)) ∧ wr = w')
    case first =>
      by_cases hlt : i < LL.length
      · have hd1 : decide ((i : Int) < (LL.length : Int)) = true := decide_eq_true (by omega)
        by_cases h64 : i < 30
        · have hd2 : decide ((i : Int) < 30) = true := decide_eq_true (by omega)
          go_wp2
          go_meet
          case rel => exact ⟨by rw [decide_eq_true ⟨hlt, h64⟩], rfl⟩
        · have hd2 : decide ((i : Int) < 30) = false := decide_eq_false (by omega)
          go_wp2
          go_meet
          case rel => exact ⟨by rw [decide_eq_false (fun h => h64 h.2)], rfl⟩
      · have hd1 : decide ((i : Int) < (LL.length : Int)) = false := decide_eq_false (by omega)
        go_wp2
        go_meet
        case rel => exact ⟨by rw [decide_eq_false (fun h => hlt h.1)], rfl⟩
    case rest =>
      obtain ⟨rfl, rfl⟩ := hcut
      by_cases hlt : i < LL.length ∧ i < 30
      · rw [decide_eq_true hlt]
        obtain ⟨hlt, h64⟩ := hlt
        obtain ⟨x, hx⟩ : ∃ x, LL[i]? = some x := ⟨_, List.getElem?_eq_getElem hlt⟩
        obtain ⟨bl, ol, rfl, hat⟩ := HL.out.at_ (by omega)
        obtain ⟨x0, x1, x2⟩ := (hat i x hx).later HF.out.bl
        clear hat hx
        have had := hid (add_more HF.out.dm x (by omega) (by omega))
        go_wp2_with (first | (go_at_call 9; refine had.out.mono ?_; rintro e w6 ⟨pa6, ca6, rfl, hd6, hr6⟩; have HF6 := hid (HF.out.wr hd6 hr6); clear hd6 hr6))
        exact ⟨⟨i + 1, _, pa6, ca6, by omega, by omega, by go_num, by simp; omega, HF6.out⟩, by simp [intOf]; omega⟩
      · rw [decide_eq_false hlt]
        clear hlt
        have hn2 : 2 ≤ K.length := by omega
        have hn32 : K.length ≤ 32 := by omega
        obtain ⟨wL, hwL⟩ : ∃ wL, wL = wr := ⟨_, rfl⟩
        rw [← hwL] at HF ⊢
        clear hwL hi hi30 hKl
        have hle := hid (len_any HF.out.dm)
        go_upto_region 12 with (first | (go_at_call 11; refine hle.out.mono ?_; rintro e w9 ⟨rfl, hw9⟩; obtain rfl := hw9.symm; clear hw9))
        have H0 : Hid (G2Rel wL K P.length (.slice none 0 0) (.int .i64 0) wL) := ⟨0, [], none, 0, by omega, by omega, rfl, rfl, rfl, fun x hx => (by cases hx), Own.nil _ _ _, Below.refl _ _⟩
        clear hle
        go_upto_region 14 with fail
        go_loopw [11, 12] (G2Rel wL K P.length) (fun _ t _ => P.length - (intOf t).toNat)
        case atStart => exact H0.out
        case round =>
          clear H0
          obtain ⟨i, R, a, c, hi, hi32, rfl, rfl, hRl, hok, hO, hB⟩ := hrel
          have HOK := hid hok
          have HO := hid hO
          have HB := hid hB
          clear hok hO hB
          go_upto_region 14 with fail
          go_cut [83] (fun q w' => q = .bool (decide (i < P.length ∧ i < 32)) ∧ wr = w')
          case first =>
            by_cases hlt : i < P.length
            · have hd1 : decide ((i : Int) < (P.length : Int)) = true := decide_eq_true (by omega)
              by_cases h64 : i < 32
              · have hd2 : decide ((i : Int) < 32) = true := decide_eq_true (by omega)
                go_wp2
                go_meet
                case rel => exact ⟨by rw [decide_eq_true ⟨hlt, h64⟩], rfl⟩
              · have hd2 : decide ((i : Int) < 32) = false := decide_eq_false (by omega)
                go_wp2
                go_meet
                case rel => exact ⟨by rw [decide_eq_false (fun h => h64 h.2)], rfl⟩
            · have hd1 : decide ((i : Int) < (P.length : Int)) = false := decide_eq_false (by omega)
              go_wp2
              go_meet
              case rel => exact ⟨by rw [decide_eq_false (fun h => hlt h.1)], rfl⟩
          case rest =>
            obtain ⟨rfl, rfl⟩ := hcut
            by_cases hlt : i < P.length ∧ i < 32
            · rw [decide_eq_true hlt]
              obtain ⟨hlt, h64⟩ := hlt
              obtain ⟨x, hx⟩ : ∃ x, P[i]? = some x := ⟨_, List.getElem?_eq_getElem hlt⟩
              have hbw := HF.out.bl.trans (HB.out.mono HF.out.bl.size)
              obtain ⟨br, or_, rfl, hat⟩ := (HP.out.later hbw).plain (by omega)
              have y0 := hat i (.int .i64 x) (by simp only [ints, List.getElem?_map, hx, Option.map_some])
              have hin := hid (into_any x K.length wr (by omega) (by omega))
              obtain ⟨z, hz⟩ : ∃ z, z = intoN x K.length := ⟨_, rfl⟩
              have hzl : z < K.length := by rw [hz]; exact intoN_lt x (by omega)
              rw [← hz] at hin
              obtain ⟨a2, c2, w2, hr2, ho2, hb2⟩ := room_app HO.out (z : Int) HB.out.size (by omega)
              have HR2 := hid hr2
              have HO2 := hid ho2
              have HB2 := hid (HB.out.trans hb2)
              have HZ : Hid (∀ y ∈ R ++ [(z : Int)], okI K y = true) := fun y hy => by
                rcases List.mem_append.1 hy with h | h
                · exact HOK.out y h
                · rw [List.mem_singleton] at h
                  subst h
                  exact okI_iff.2 ⟨by omega, by omega⟩
              clear hat hx hz hr2 ho2 hb2 hbw hzl
              go_wp2_with (first
                | (go_at_call 6; refine hin.out.mono ?_; rintro e w9 ⟨rfl, hw9⟩; obtain rfl := hw9.symm; clear hw9)
                | (at_builtin; refine wpList_append_known rfl _ _ 23 rfl _ _ rfl rfl _ w2 HR2.out ?_))
              exact ⟨⟨i + 1, R ++ [(z : Int)], a2, c2, by omega, by omega, rfl, by go_num, by simp; omega, HZ.out, HO2.out, HB2.out⟩, by simp [intOf]; omega⟩
            · rw [decide_eq_false hlt]
              clear hlt
              obtain ⟨w6, hw6⟩ : ∃ w6, w6 = wr := ⟨_, rfl⟩
              rw [← hw6] at HO HB ⊢
              clear hw6
              obtain ⟨k, hk⟩ : ∃ k, k = i := ⟨_, rfl⟩
              rw [← hk] at hRl HO hi32 ⊢
              clear hk hi
              -- was
              obtain ⟨aw, cw, w7, hr7, ho7, hb7⟩ := ints_copy HO.out.read (by omega)
              have HR7 := hid hr7
              have HO7 := hid ho7
              have HB7 := hid hb7
              clear hr7 ho7 hb7
              go_upto_region 19 with (first | (at_builtin; refine wpList_append_known rfl _ _ 23 rfl _ _ rfl rfl _ w7 HR7.out ?_))
              -- room, lengthened
              obtain ⟨ar, cr, w8, hr8, ho8, hb8, hon8, hcr⟩ := room_three (HO.out.later HB7.out) (Nat.le_trans HB.out.size HB7.out.size) (by omega)
              obtain ⟨gr, rfl⟩ := ho8.form (by omega)
              have HR8 := hid hr8
              have HBL7 : Hid (Below wL.heap.size wL w7) := HB.out.trans (HB7.out.mono HB.out.size)
              have hBL8 : Below wL.heap.size wL w8 := But.below HBL7.out hb8 (fun j hj => HO.out.blk j hj)
              have hgr : wL.heap.size ≤ gr ∧ gr < w8.heap.size ∧ (gr < w6.heap.size ∨ w7.heap.size ≤ gr) := by
                refine ⟨ho8.blk gr ⟨_, rfl, rfl⟩, ho8.lt gr ⟨_, rfl, rfl⟩, ?_⟩
                rcases hon8 gr ⟨_, rfl, rfl⟩ with e | e
                · exact .inl (HO.out.lt gr e)
                · exact .inr e
              have hWas8 : Row w8 aw k cw (ints R) := HO7.out.read.but hb8 (fun j hj e => by have := HO7.out.blk j hj; have := HO.out.lt j e; omega)
              have HWB : Hid (∀ j, Blk aw j → w6.heap.size ≤ j ∧ j < w7.heap.size) := fun j hj => ⟨HO7.out.blk j hj, HO7.out.lt j hj⟩
              have HW8 := hid hWas8
              have HO8 := hid ho8
              have HBL8 := hid hBL8
              have HGR := hid hgr
              have hs78 : Hid (w6.heap.size ≤ w7.heap.size ∧ w7.heap.size ≤ w8.heap.size) := ⟨HB7.out.size, hb8.size⟩
              have hF8 := HF.out.later hBL8
              have HF8 := hid hF8
              clear hr8 ho8 hb8 hon8 hBL8 hgr hWas8 hF8 HO7 HBL7
              go_upto_region 20 with (first | (at_builtin; refine wpList_append_known rfl _ _ 23 rfl _ _ rfl rfl _ w8 HR8.out ?_))
              clear HR7 HR8
              -- All, twice
              have hal := hid (all_any HF8.out.dm hn32)
              go_upto_region 21 with (first | (go_at_call 13; refine hal.out.mono ?_; rintro e w9 ⟨aa, ca9, rfl, ho, hb⟩; have HA9 := hid ho; have HB9 := hid hb; clear ho hb))
              clear hal
              have hal := hid (all_any (HF8.out.later HB9.out).dm hn32)
              go_upto_region 22 with (first | (go_at_call 13; refine hal.out.mono ?_; rintro e w10 ⟨ab, cb10, rfl, ho, hb⟩; have HA10 := hid ho; have HB10 := hid hb; clear ho hb))
              clear hal
              -- Pick, twice
              have hall : R.all (okI K) = true := List.all_eq_true.2 HOK.out
              have hk32 : k ≤ 32 := hi32
              obtain ⟨e1, e2⟩ := pick_good (m := 32) hall (by rw [hRl]; omega)
              have hPL : (R.map (atC K)).length = k := by rw [List.length_map]; exact hRl
              have HRM : Hid (∀ U X, Own U 0 3 (some ⟨gr, 0, none⟩) (k + 3) cr (ints (X ++ [901, 902, 903])) → X.length = k → Row U (some ⟨gr, 0, none⟩) k cr (ints X)) := fun U X hU hX => by
                have := hU.read.sub (m := k) (c := cr) (by omega) (by omega) (fun e => by cases e)
                rw [ints_append, List.take_left' (by rw [ints_length]; exact hX)] at this
                exact this
              have hB8_10 := below_call HB9.out HB10.out
              have hp1 := hid (pick_any (HF8.out.later hB8_10).dm (HRM.out _ R ((HO8.out.later hB8_10).mono (Nat.zero_le _)) hRl) (by omega) hn32 (by omega))
              rw [e1, e2, hPL] at hp1
              have hkc : (k : Int) ≤ (cr : Int) := by omega
              have HB810 := hid hB8_10
              clear hB8_10
              go_upto_region 23 with (first | (go_at_call 15; refine hp1.out.mono ?_; rintro e w11 ⟨app, cp11, rfl, ho, hb⟩; have HA11 := hid ho; have HB11 := hid hb; clear ho hb))
              clear hp1
              have hB8_11 := below_call HB810.out HB11.out
              have hp1 := hid (pick_any (HF8.out.later hB8_11).dm (HRM.out _ R ((HO8.out.later hB8_11).mono (Nat.zero_le _)) hRl) (by omega) hn32 (by omega))
              rw [e1, e2, hPL] at hp1
              have HB811 := hid hB8_11
              clear hB8_11
              go_upto_region 24 with (first | (go_at_call 15; refine hp1.out.mono ?_; rintro e w12 ⟨aq, cq12, rfl, ho, hb⟩; have HA12 := hid ho; have HB12 := hid hb; clear ho hb))
              clear hp1
              -- the copies
              obtain ⟨a13, c13, w13, hr13, ho13, hb13⟩ := caps_copy (HA9.out.later (below_call HB10.out (below_call HB11.out HB12.out))) (by omega)
              have HR13 := hid hr13
              have HA13 := hid ho13
              have HB13 := hid hb13
              clear hr13 ho13 hb13
              go_upto_region 25 with (first | (at_builtin; refine wpList_append_known rfl _ _ 22 rfl _ _ rfl rfl _ w13 HR13.out ?_))
              obtain ⟨a14, c14, w14, hr14, ho14, hb14⟩ := caps_copy (HA11.out.later (below_call HB12.out HB13.out)) (by omega)
              have HR14 := hid hr14
              have HA14 := hid ho14
              have HB14 := hid hb14
              clear hr14 ho14 hb14
              go_upto_region 26 with (first | (at_builtin; refine wpList_append_known rfl _ _ 22 rfl _ _ rfl rfl _ w14 HR14.out ?_))
              clear HR13 HR14
              have sA := HB9.out.size
              have sB := HB10.out.size
              have sC := HB11.out.size
              have sD := HB12.out.size
              have sE := HB13.out.size
              have sF := HB14.out.size
              have HSZ := hid (And.intro sA (And.intro sB (And.intro sC (And.intro sD (And.intro sE sF)))))
              clear sA sB sC sD sE sF
              have HB1014 := hid (below_call HB11.out (below_call HB12.out (below_call HB13.out HB14.out)))
              have HB1214 := hid (below_call HB13.out HB14.out)
              have hs1 : Hid (Calls Try.prog 12 #[.slice ab K.length cb10, .slice a13 K.length c13] w14 fun e w' => e = .returned (.bool true) ∧ Below w14.heap.size w14 w') := by
                refine (sameC_any cb10 c13 ((HA10.out.later HB1014.out).rd rfl) ((HA13.out.later HB14.out).rd rfl) (by omega) (by omega)).mono ?_
                rintro e w' ⟨rfl, q, rfl⟩
                exact ⟨ret_bool (by simp), below_drewN (Below.refl _ _) q⟩
              have hs2 : Hid (∀ U, Below w14.heap.size w14 U → Calls Try.prog 12 #[.slice aq k cq12, .slice a14 k c14] U fun e w' => e = .returned (.bool true) ∧ Below w14.heap.size w14 w') := fun U hU => by
                refine (sameC_any cq12 c14 (((HA12.out.later HB1214.out).later hU).rd hPL) ((HA14.out.later hU).rd hPL) (by omega) (by omega)).mono ?_
                rintro e w' ⟨rfl, q, rfl⟩
                exact ⟨ret_bool (by simp), below_drewN hU q⟩
              have hmk : Hid (∀ U, Below w14.heap.size w14 U → Calls Try.prog 16 #[.slice (some ⟨U.heap.size, 0, none⟩) 4 4] (U.alloc (Obj.cells #[.slice aa K.length ca9, .slice ab K.length cb10, .slice app k cp11, .slice aq k cq12] 22)) fun e w' => e = .returned (.bool true) ∧ But (fun j => w8.heap.size ≤ j ∧ j < w12.heap.size) w14 w') := fun U hU => by
                have hsz := HSZ.out
                have hus := hU.size
                have hB9_14 := below_call HB10.out HB1014.out
                have hB11_14 := below_call HB12.out HB1214.out
                refine (marked4 (r0 := w8.heap.size) (r1 := w9.heap.size) (r2 := w10.heap.size) (r3 := w11.heap.size) (r4 := w12.heap.size) ((HA9.out.later hB9_14).later hU) ((HA10.out.later HB1014.out).later hU) ((HA11.out.later hB11_14).later hU) ((HA12.out.later HB1214.out).later hU) rfl rfl hPL hPL
                  (fun j hj => HA9.out.blk j hj) (fun j hj => HA10.out.blk j hj) (fun j hj => HA11.out.blk j hj) (fun j hj => HA12.out.blk j hj) ⟨by omega, by omega, by omega, by omega, by omega⟩ ⟨by omega, by omega, by omega, by omega⟩).mono ?_
                rintro e w' ⟨rfl, hb⟩
                exact ⟨rfl, (But.of (below_call hU (below1 _ _))).trans hb⟩
              have HMK : Hid (∀ W, But (fun j => w8.heap.size ≤ j ∧ j < w12.heap.size) w14 W → Fs w W g r pa ca K ∧ Own W 0 3 (some ⟨gr, 0, none⟩) (k + 3) cr (ints (R ++ [901, 902, 903])) ∧ Row W aw k cw (ints R) ∧ Rd W a13 K.length K ∧ Rd W a14 k (R.map (atC K)) ∧ w14.heap.size ≤ W.heap.size) := fun W hW => by
                have hsz := HSZ.out
                have hB8_14 := below_call HB811.out (below_call HB12.out HB1214.out)
                have hgr := HGR.out
                have h78 := hs78.out
                refine ⟨?_, ?_, ?_, ?_, ?_, hW.size⟩
                · have hF14 := HF8.out.later hB8_14
                  have hlt : ∀ j, (j = g ∨ Blk pa j) → j < w8.heap.size := fun j hj => (HF8.out.dm.blk j hj).2
                  have hlt2 : ∀ j, (j = r ∨ Blk none j) → j < w8.heap.size := fun j hj => (HF8.out.do_.blk j hj).2
                  refine ⟨hF14.dm.but hW (fun e => by have := hlt g (.inl rfl); omega) (fun j hj e => by have := hlt j (.inr hj); omega), hF14.do_.but hW (fun e => by have := hlt2 r (.inl rfl); omega) (fun j hj e => by have := hlt2 j (.inr hj); omega), hF14.dj, But.below hF14.bl hW (fun j hj => by have := HF8.out.bl.size; omega)⟩
                · refine ((HO8.out.later hB8_14).mono (Nat.zero_le _)).but hW (fun j hj e => ?_)
                  obtain ⟨_, e1, e2⟩ := hj
                  cases e1
                  simp only at e2
                  omega
                · exact (HW8.out.later hB8_14).but hW (fun j hj e => by have := HWB.out j hj; omega)
                · exact ((HA13.out.later HB14.out).rd rfl).but hW (fun j hj e => by have := (HA13.out.blk j hj).1; omega)
                · exact (HA14.out.rd hPL).but hW (fun j hj e => by have := (HA14.out.blk j hj).1; omega)
              have hlo : Hid (∀ W, Fs w W g r pa ca K → Calls Try.prog 11 #[.pointer (some ⟨r, 0, none⟩)] W fun e w' => e = .returned (.int .i64 0) ∧ w' = W) := fun W hW => len_any hW.do_
              clear e1 e2
              go_upto_region 28 with (first
                | (go_at_call 12; refine (hs2.out _ HB15.out).mono ?_; rintro e w16 ⟨rfl, hb⟩; have HB16 := hid hb; clear hb)
                | (go_at_call 12; refine hs1.out.mono ?_; rintro e w15 ⟨rfl, hb⟩; have HB15 := hid hb; clear hb)
                | (go_at_call 16; refine (hmk.out _ HB16.out).mono ?_; rintro e wM ⟨rfl, hb⟩; have HM := hid (HMK.out _ hb); clear hb)
                | (go_at_call 11; refine (hlo.out _ HM.out.1).mono ?_; rintro e w99 ⟨rfl, hw99⟩; obtain rfl := hw99.symm; clear hw99))
              have HNG : Hid (¬ Blk a13 gr) := fun e => by have := (HA13.out.blk gr e).1; have := HGR.out; have := HSZ.out; omega
              have HNW : Hid (¬ Two g pa r none gr ∧ w.heap.size ≤ gr) := by
                have hgr := HGR.out
                have hwl := HF.out.bl.size
                refine ⟨fun e => ?_, by omega⟩
                have : gr < wL.heap.size := by
                  rcases e with e | e
                  · exact (HF.out.dm.blk gr e).2
                  · exact (HF.out.do_.blk gr e).2
                omega
              clear hs1 hs2 hmk HMK hlo HB15 HB16 HA9 HA10 HA11 HA12 HA13 HA14 HB9 HB10 HB11 HB12 HB13 HB14 HB1014 HB1214 HSZ HB810 HB811 HWB HW8 HO8 HF8 HGR hs78 HBL8
              -- nothing has come to room
              have H0 : Hid (G3Rel wM k (.int .i64 0) wM) := ⟨0, by omega, rfl, 0, rfl⟩
              go_upto_region 29 with fail
              go_loopw [23] (G3Rel wM k) (fun t _ => k - (intOf t).toNat)
              case atStart => exact H0.out
              case round =>
                clear H0
                obtain ⟨i, hi, rfl, q, rfl⟩ := hrel
                have hBq : Below wM.heap.size wM (wM.drewN q) := below_drewN (Below.refl _ _) q
                by_cases hlt : i < k
                · have hd1 : decide ((i : Int) < (k : Int)) = true := decide_eq_true (by omega)
                  obtain ⟨x, hx⟩ : ∃ x, R[i]? = some x := ⟨_, List.getElem?_eq_getElem (by omega)⟩
                  have hRr := HRM.out _ R (HM.out.2.1.later hBq) hRl
                  obtain ⟨b1, o1, e1, h1⟩ := hRr.plain (by omega)
                  cases e1
                  have y0 := h1 i (.int .i64 x) (by simp only [ints, List.getElem?_map, hx, Option.map_some])
                  rw [Nat.zero_add] at y0
                  obtain ⟨b2, o2, rfl, h2⟩ := (HM.out.2.2.1.later hBq).plain (by omega)
                  have y1 := h2 i (.int .i64 x) (by simp only [ints, List.getElem?_map, hx, Option.map_some])
                  have hq1 : (x != x) = false := by simp
                  have hik : (i : Int) < (k : Int) + 3 := by omega
                  generalize hwq : wM.drewN q = wq at *
                  have HWQ := hid hwq
                  clear hwq h1 h2 hRr hx
                  go_upto_region 31 with fail
                  go_quiet (fail)
                  go_wp2
                  exact ⟨⟨i + 1, by omega, by go_num, q + nq, by rw [← HWQ.out]; simp [World.drewN, Nat.add_assoc]⟩, by simp [intOf]; omega⟩
                · obtain rfl : i = k := by omega
                  have hd1 : decide ((i : Int) < (i : Int)) = false := by simp
                  have HM2 : Hid (Fs w (wM.drewN q) g r pa ca K ∧ Own (wM.drewN q) 0 3 (some ⟨gr, 0, none⟩) (i + 3) cr (ints (R ++ [901, 902, 903])) ∧ Rd (wM.drewN q) a13 K.length K ∧ Rd (wM.drewN q) a14 i (R.map (atC K))) := ⟨HM.out.1.later hBq, HM.out.2.1.later hBq, HM.out.2.2.2.1.later hBq, HM.out.2.2.2.2.1.later hBq⟩
                  clear hBq HM
                  generalize wM.drewN q = wN at *
                  have hget : ∀ (j : Nat) (v : Int), (R ++ [901, 902, 903])[j]? = some v → wN.cell? ⟨gr, j, none⟩ = some (.int .i64 v) := fun j v hv => by
                    have := HM2.out.2.1.read.cells ⟨gr, 0, none⟩ rfl j (.int .i64 v) (by simp only [ints, List.getElem?_map, hv, Option.map_some])
                    rwa [addr_add0] at this
                  have z0 := hget i 901 (by rw [List.getElem?_append_right (by omega), hRl, Nat.sub_self]; rfl)
                  have z1 := hget (i + 1) 902 (by rw [List.getElem?_append_right (by omega), hRl, show i + 1 - i = 1 by omega]; rfl)
                  have z2 := hget (i + 2) 903 (by rw [List.getElem?_append_right (by omega), hRl, show i + 2 - i = 2 by omega]; rfl)
                  have hw1 : IntKind.i64.wrap ((i : Int) + 1) = (i : Int) + 1 := by rw [IntKind.wrap_i64]; omega
                  have hw2 : IntKind.i64.wrap ((i : Int) + 2) = (i : Int) + 2 := by rw [IntKind.wrap_i64]; omega
                  have hj0 : (i : Int) < (i : Int) + 3 := by omega
                  have hj1 : (i : Int) + 1 < (i : Int) + 3 := by omega
                  have hj2 : (i : Int) + 2 < (i : Int) + 3 := by omega
                  clear hget
                  go_upto_region 35 with fail
                  clear z0 z1 z2
                  -- asked again
                  obtain ⟨e1, e2⟩ := pick_good (m := 32) hall (by rw [hRl]; omega)
                  have hp1 := hid (pick_any HM2.out.1.dm (HRM.out _ R HM2.out.2.1 hRl) (by omega) hn32 (by omega))
                  rw [e1, e2, hPL] at hp1
                  clear e1 e2
                  go_upto_region 36 with (first | (go_at_call 15; refine hp1.out.mono ?_; rintro e w20 ⟨a20, c20, rfl, ho, hb⟩; have HA20 := hid (Ow.rd (K := R.map (atC K)) ho hPL); have HB20 := hid hb; clear ho hb))
                  clear hp1
                  have hs1 : Hid (Calls Try.prog 12 #[.slice a20 i c20, .slice a14 i c14] w20 fun e w' => e = .returned (.bool true) ∧ Below wN.heap.size wN w') := by
                    refine (sameC_any c20 c14 HA20.out (HM2.out.2.2.2.later HB20.out) (by omega) (by omega)).mono ?_
                    rintro e w' ⟨rfl, q, rfl⟩
                    exact ⟨ret_bool (by simp), below_drewN HB20.out q⟩
                  have hal : Hid (∀ U, Below wN.heap.size wN U → Calls Try.prog 13 #[.pointer (some ⟨g, 0, none⟩)] U fun e w' => ∃ p c, e = .returned (.slice p K.length c) ∧ Rd w' p K.length K ∧ Below wN.heap.size wN w') := fun U hU => by
                    refine (all_any (HM2.out.1.dm.later hU) hn32).mono ?_
                    rintro e w' ⟨p, c, rfl, ho, hb⟩
                    exact ⟨p, c, rfl, Ow.rd (K := K) ho rfl, hU.trans (hb.mono hU.size)⟩
                  have hs2 : Hid (∀ U p c, Below wN.heap.size wN U → Rd U p K.length K → Calls Try.prog 12 #[.slice p K.length c, .slice a13 K.length c13] U fun e w' => e = .returned (.bool true) ∧ Below wN.heap.size wN w') := fun U p c hU hp => by
                    refine (sameC_any c c13 hp (HM2.out.2.2.1.later hU) (by omega) (by omega)).mono ?_
                    rintro e w' ⟨rfl, q, rfl⟩
                    exact ⟨ret_bool (by simp), below_drewN hU q⟩
                  go_upto_region 38 with (first
                    | (go_at_call 12; refine (hs2.out _ _ _ HB22.out HA22.out).mono ?_; rintro e w23 ⟨rfl, hb⟩; have HB23 := hid hb; clear hb)
                    | (go_at_call 12; refine hs1.out.mono ?_; rintro e w21 ⟨rfl, hb⟩; have HB21 := hid hb; clear hb)
                    | (go_at_call 13; refine (hal.out _ HB21.out).mono ?_; rintro e w22 ⟨p22, c22, rfl, hp, hb⟩; have HA22 := hid hp; have HB22 := hid hb; clear hp hb))
                  have HM3 : Hid (Fs w w23 g r pa ca K ∧ Own w23 0 3 (some ⟨gr, 0, none⟩) (i + 3) cr (ints (R ++ [901, 902, 903])) ∧ Rd w23 a13 K.length K) := ⟨HM2.out.1.later HB23.out, HM2.out.2.1.later HB23.out, HM2.out.2.2.1.later HB23.out⟩
                  have HG13 : Hid (¬ Blk a13 gr) := HNG.out
                  have HGW := hid HNW.out
                  clear hs1 hal hs2 HA20 HB20 HB21 HA22 HB22 HB23 HM2
                  -- room is turned round
                  obtain ⟨k, hk⟩ : ∃ k, k = i := ⟨_, rfl⟩
                  rw [← hk] at hRl HM3 hPL hkc HRM hi32 hk32 ⊢
                  clear hk hi hj0 hj1 hj2 hw1 hw2 hd1
                  have H0 : Hid (G4Rel w23 gr K.length k cr (R ++ [901, 902, 903]) (.int .i64 0) w23) := ⟨0, _, by omega, rfl, Tn.start _ _, HM3.out.2.1, But.refl _ _⟩
                  go_upto_region 39 with fail
                  go_loopw [24] (G4Rel w23 gr K.length k cr (R ++ [901, 902, 903])) (fun t _ => k - (intOf t).toNat)
                  case atStart => exact H0.out
                  case round =>
                    clear H0
                    obtain ⟨i, X, hi, rfl, hT, hO, hB⟩ := hrel
                    have HT := hid hT
                    have HO := hid hO
                    have HB := hid hB
                    clear hT hO hB
                    by_cases hlt : i < k
                    · have hd1 : decide ((i : Int) < (k : Int)) = true := decide_eq_true (by omega)
                      obtain ⟨x, hx⟩ : ∃ x, R[i]? = some x := ⟨_, List.getElem?_eq_getElem (by omega)⟩
                      have hx2 : (R ++ [901, 902, 903])[i]? = some x := by rw [List.getElem?_append_left (by omega)]; exact hx
                      have hxX : X[i]? = some x := by rw [HT.out.rst i (Nat.le_refl _)]; exact hx2
                      obtain ⟨gq, e1, hl⟩ := HO.out.lies rfl (j := i) (u := .int .i64 x) (by simp only [ints, List.getElem?_map, hxX, Option.map_some])
                      cases e1
                      obtain ⟨y0, f0⟩ := hl
                      have hxo := okI_iff.1 (HOK.out x (List.mem_of_getElem? hx))
                      have HT2 := hid (HT.out.step hx2)
                      have HO2 : Hid (Own (wr.setCell ⟨gr, i, none⟩ (.int .i64 ((K.length : Int) - 1 - x))) 0 3 (some ⟨gr, 0, none⟩) (k + 3) cr (ints (X.set i ((K.length : Int) - 1 - x)))) := Own.set HO.out
                      have HB2 : Hid (But (· = gr) w23 (wr.setCell ⟨gr, i, none⟩ (.int .i64 ((K.length : Int) - 1 - x)))) := HB.out.setCell (p := ⟨gr, i, none⟩) rfl _
                      have hwa : IntKind.i64.wrap ((K.length : Int) - 1) = (K.length : Int) - 1 := by rw [IntKind.wrap_i64]; omega
                      have hwb : IntKind.i64.wrap ((K.length : Int) - 1 - x) = (K.length : Int) - 1 - x := by rw [IntKind.wrap_i64]; omega
                      have hik : (i : Int) < (k : Int) + 3 := by omega
                      clear hx hx2 hxX hxo
                      go_wp2
                      exact ⟨⟨i + 1, _, by omega, by go_num, HT2.out, HO2.out, HB2.out⟩, by simp [intOf]; omega⟩
                    · obtain rfl : i = k := by omega
                      have hd1 : decide ((i : Int) < (i : Int)) = false := by simp
                      obtain ⟨Y, hY⟩ : ∃ Y, Y = X.take i := ⟨_, rfl⟩
                      have hXl : X.length = i + 3 := by rw [HT.out.len]; simp; omega
                      have hYl : Y.length = i := by rw [hY, List.length_take]; omega
                      have hYe : ∀ j x, R[j]? = some x → Y[j]? = some ((K.length : Int) - 1 - x) := fun j x hx => by
                        have hj := (List.getElem?_eq_some_iff.1 hx).1
                        rw [hY, List.getElem?_take_of_lt (by omega)]
                        exact HT.out.fst j (by omega) x (by rw [List.getElem?_append_left hj]; exact hx)
                      have hYok : ∀ y ∈ Y, okI K y = true := fun y hy => by
                        obtain ⟨j, hj⟩ := List.getElem?_of_mem hy
                        have hjl := (List.getElem?_eq_some_iff.1 hj).1
                        have h1 := hYe j _ (List.getElem?_eq_getElem (show j < R.length by omega))
                        rw [hj] at h1
                        have h2 := okI_iff.1 (HOK.out _ (List.getElem_mem (show j < R.length by omega)))
                        have h3 := Option.some.inj h1
                        exact okI_iff.2 ⟨by omega, by omega⟩
                      have HYR : Hid (Row wr (some ⟨gr, 0, none⟩) i cr (ints Y)) := by
                        have := HO.out.read.sub (m := i) (c := cr) (by omega) (by omega) (fun e => by cases e)
                        rw [show (ints X).take i = ints Y by rw [hY]; simp [ints, List.map_take]] at this
                        exact this
                      have hallY : Y.all (okI K) = true := List.all_eq_true.2 hYok
                      have HF5 : Hid (Fs w wr g r pa ca K) := by
                        have hF := HM3.out.1
                        have hne := HGW.out
                        refine ⟨hF.dm.but HB.out (fun e => hne.1 (.inl (.inl e.symm))) (fun j hj e => hne.1 (.inl (.inr (by rw [← show j = gr from e]; exact hj)))), hF.do_.but HB.out (fun e => hne.1 (.inr (.inl e.symm))) (fun j hj e => hne.1 (.inr (.inr (by rw [← show j = gr from e]; exact hj)))), hF.dj, But.below hF.bl HB.out (fun j e => by rw [show j = gr from e]; exact hne.2)⟩
                      have HA5 : Hid (Rd wr a13 K.length K) := HM3.out.2.2.but HB.out (fun j hj e => HG13.out (by rw [← show j = gr from e]; exact hj))
                      obtain ⟨e1, e2⟩ := pick_good (m := 32) hallY (by rw [hYl]; omega)
                      have hp1 := hid (pick_any HF5.out.dm HYR.out (by omega) hn32 (by omega))
                      have hPY : (Y.map (atC K)).length = i := by rw [List.length_map]; exact hYl
                      rw [e1, e2, hPY] at hp1
                      have HYO := hid hYok
                      clear e1 e2 hY hXl hYe hYok hallY hall
                      go_upto_region 43 with (first | (go_at_call 15; refine hp1.out.mono ?_; rintro e w30 ⟨a30, c30, rfl, ho, hb⟩; have HA30 := hid (Ow.rd (K := Y.map (atC K)) ho hPY); have HB30 := hid hb; clear ho hb))
                      have HF30 := hid (HF5.out.later HB30.out)
                      have HY30 := hid (HYR.out.later HB30.out)
                      have HR30 := hid (HA5.out.later HB30.out)
                      clear hp1 HF5 HYR HA5 HB30 HT HO HB HM3
                      obtain ⟨k, hk⟩ : ∃ k, k = i := ⟨_, rfl⟩
                      rw [← hk] at hYl HY30 HA30 hk32 hkc ⊢
                      clear hk hi hd1 hPY hPL hRl HRM
                      have H0 : Hid (G3Rel w30 k (.int .i64 0) w30) := ⟨0, by omega, rfl, 0, rfl⟩
                      go_upto_region 44 with fail
                      go_loopw [25] (G3Rel w30 k) (fun t _ => k - (intOf t).toNat)
                      case atStart => exact H0.out
                      case round =>
                        clear H0
                        obtain ⟨i, hi, rfl, q, rfl⟩ := hrel
                        have hBq : Below w30.heap.size w30 (w30.drewN q) := below_drewN (Below.refl _ _) q
                        by_cases hlt : i < k
                        · have hd1 : decide ((i : Int) < (k : Int)) = true := decide_eq_true (by omega)
                          obtain ⟨x, hx⟩ : ∃ x, Y[i]? = some x := ⟨_, List.getElem?_eq_getElem (by omega)⟩
                          obtain ⟨j, rfl, hj, hjc⟩ := atC_ok (HYO.out x (List.mem_of_getElem? hx))
                          obtain ⟨z, hz⟩ : ∃ z, z = atC K (j : Int) := ⟨_, rfl⟩
                          rw [← hz] at hjc
                          obtain ⟨b1, o1, e1, h1⟩ := (HY30.out.later hBq).plain (by omega)
                          cases e1
                          have y0 := h1 i (.int .i64 (j : Int)) (by simp only [ints, List.getElem?_map, hx, Option.map_some])
                          rw [Nat.zero_add] at y0
                          obtain ⟨bo, oo, rfl, hat2⟩ := (HR30.out.later hBq).at_ (by omega)
                          obtain ⟨v0, v1, v2⟩ := hat2 j z hjc
                          obtain ⟨bp, op, rfl, hat3⟩ := (HA30.out.later hBq).at_ (by omega)
                          obtain ⟨u0, u1, u2⟩ := hat3 i z (by rw [List.getElem?_map, hx, Option.map_some, ← hz])
                          have heq := fun W => neqC z.1 (z.2.1 : Int) (z.2.2 : Int) z.1 (z.2.1 : Int) (z.2.2 : Int) W
                          have hq1 : cEq z.1 (z.2.1 : Int) (z.2.2 : Int) z.1 (z.2.1 : Int) (z.2.2 : Int) = true := by simp [cEq]
                          simp only [hq1] at heq
                          have hjK : (j : Int) < (K.length : Int) := by omega
                          have hq2 : ((k : Int) != (k : Int)) = false := by simp
                          have hik : (i : Int) < (k : Int) + 3 := by omega
                          generalize hwq : w30.drewN q = wq at *
                          have HWQ := hid hwq
                          clear h1 hat2 hat3 hq1 hx hz hjc hwq
                          go_upto_region 46 with fail
                          go_quiet (fail)
                          go_wp2
                          exact ⟨⟨i + 1, by omega, by go_num, q + nq, by rw [← HWQ.out]; simp [World.drewN, Nat.add_assoc]⟩, by simp [intOf]; omega⟩
                        · obtain rfl : i = k := by omega
                          have hd1 : decide ((i : Int) < (i : Int)) = false := by simp
                          have hq3 : ((K.length : Int) == (K.length : Int)) = true := by simp
                          have HBF := hid (HF30.out.later hBq).bl
                          clear hBq
                          generalize w30.drewN q = wq at *
                          go_wp2
                          go_ret
                          exact ⟨rfl, HBF.out⟩
end Go.Proofs.Ytcagghfkomodlaa
