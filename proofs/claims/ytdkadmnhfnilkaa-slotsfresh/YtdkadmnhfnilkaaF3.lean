import Derived.Test.YtdkadmnhfnilkaaF2
import Derived.Test.YtdkadmnhfnilkaaS1
namespace Go.Proofs.Ytdkadmnhfnilkaa
open Go.RowKit
set_option linter.unusedVariables false

/-- Both tables. -/
def FrRel (w : World) (g gb k1 N1 h hb k2 N2 n : Nat) (t : Value) (w' : World) : Prop :=
  ∃ (i : Nat) (E : List (Cp × Int)), i ≤ n ∧ i ≤ 256 ∧ t = .int .i64 (i : Int) ∧ E.length ≤ i ∧ I.Tb w' g gb k1 256 N1 E ∧ I.Tb w' h hb k2 256 N2 [] ∧ Below w.heap.size w w'
def GtRel (w : World) (n : Nat) (t : Value) (w' : World) : Prop := ∃ i : Nat, i ≤ n ∧ t = .int .i64 (i : Int) ∧ Below w.heap.size w w'
theorem own_none (w : World) : (w.alloc (Obj.cells #[] 34)).ownsRow w.heap.size 34 3 (.slice (some ⟨w.heap.size, 0, none⟩) 0 0) 0 (caps []) :=
  ⟨rfl, .inr ⟨w.heap.size, 0, #[], rfl, Nat.le_refl _, heap_alloc_new w _, Nat.le_refl _, by unfold maxLen; omega, by simp, by simp [caps]⟩⟩
theorem same_true {w : World} {a b : Option Addr} {n m : Nat} {K : List Cp} (ca cb : Nat) (h : Rd w a n K) (k : Rd w b m K) (hn : n ≤ 140737488355328) (hm : m ≤ 140737488355328) :
    Calls Try.prog 14 #[.slice a n ca, .slice b m cb] w fun e w' => e = .returned (.bool true) ∧ ∃ q, w' = w.drewN q := by
  refine (same_any ca cb h k hn hm).mono ?_
  rintro e w1 ⟨rfl, hw1⟩
  exact ⟨by simp, hw1⟩
set_option maxRecDepth 100000 in
set_option maxHeartbeats 20000000 in
theorem fresh_law (a : Option Addr) (n cap : Nat) (Kl : List Cp) (x1 : Int) (w : World) (hrd : Rd w a n Kl) (hkl : ∀ (i : Nat) (c : Cp), Kl[i]? = some c → c.2.1 < B64 ∧ c.2.2 < B64) (hn : n ≤ 9223372036854775807) :
    Calls Try.prog 4 #[.slice a n cap, .int .i64 x1] w fun e w' => e = .returned (.bool true) ∧ Below w.heap.size w w' := by
  have HRD := hid hrd
  have HKL := hid hkl
  clear hrd hkl
  go_enter Try.func4, Try.ntmps4
  go_upto_region 2 with (first | (go_at_call 16; refine (I.new_ok _ 256 k1 (by omega) (by omega) (by omega)).mono ?_; rintro e w4 ⟨g, gb, N1, rfl, T4, hg, hgb, hb4⟩; have HT4 := hid T4; have HB4 := hid hb4; clear T4 hb4) | (go_at_call 7; refine (into_any _ 65 _ (by omega) (by omega)).mono ?_; rintro e w3 ⟨⟨k1, hk1, rfl⟩, hw⟩; obtain rfl := hw.symm; clear hw))
  go_upto_region 3 with (first | (go_at_call 16; refine (I.new_ok _ 256 k2 (by omega) (by omega) (by omega)).mono ?_; rintro e w6 ⟨h, hb, N2, rfl, T6, hh, hhb, hb6⟩; have HT6 := hid T6; have HB6 := hid hb6; clear T6 hb6) | (go_at_call 7; refine (into_any _ 65 _ (by omega) (by omega)).mono ?_; rintro e w5 ⟨⟨k2, hk2, rfl⟩, hw⟩; obtain rfl := hw.symm; clear hw))
  have hgl := HT4.out.lt
  have hgl2 := HT4.out.lt2
  have hsz := HB4.out.size
  have hd1 : Hid (∀ k, I.In g gb k → ¬ (k = h ∨ k = hb)) := by
    rintro k (rfl | rfl) (e | e) <;> omega
  have hin : Hid (∀ k, I.In g gb k → w.heap.size ≤ k) := by
    rintro k (rfl | rfl) <;> omega
  have HT4' := hid (HT4.out.later HB6.out)
  have HBB := hid (below_call HB4.out HB6.out)
  clear HT4 HB4 HB6 hgl hgl2 hsz
  go_upto_region 5 with (first | (go_at_call 9; refine (known_any _).mono ?_; rintro e w7 ⟨rfl, hb7⟩; have HA7 := hid (HT4'.out.later hb7); have HC7 := hid (HT6.out.later hb7); have HB7 := hid (below_call HBB.out hb7); clear hb7))
  clear HT4' HT6 HBB
  go_upto_region 6 with fail
  go_loopw [9] (FrRel w g gb k1 N1 h hb k2 N2 n) (fun t _ => n - (intOf t).toNat)
  case atStart => exact ⟨0, [], Nat.zero_le _, by omega, rfl, Nat.le_refl _, HA7.out, HC7.out, HB7.out⟩
  case round =>
    obtain ⟨i, E, hi, hi2, rfl, hEl, hT, hU, hB⟩ := hrel
    have HT := hid hT
    have HU := hid hU
    have HB := hid hB
    clear hT hU hB
    by_cases hlt : i < n ∧ i < 256
    · obtain ⟨hl1, hl2⟩ := hlt
      have hrd := HRD.out.later HB.out
      obtain ⟨b, o, rfl, hcel⟩ := hrd.at_ (by omega)
      obtain ⟨c, hc⟩ : ∃ c, Kl[i]? = some c := ⟨_, List.getElem?_eq_getElem (by rw [hrd.len]; exact hl1)⟩
      obtain ⟨c0, c1, c2⟩ := hcel i c hc
      obtain ⟨hok1, hok2⟩ := HKL.out i c hc
      obtain ⟨co, ch, cl⟩ := c
      simp only at c0 c1 c2 hok1 hok2
      clear hrd hcel hc
      rcases there_or E (co, ch, cl) with ⟨u, hu⟩ | hno
      · have HC := hid (key_mem hu)
        clear hu
        go_wp2_with (first | (go_at_call 17; refine (I.put_there HT.out co ch cl (i : Int) hok1 hok2 HC.out).mono ?_; rintro e w8 ⟨rfl, hb8⟩; have HB8 := hid hb8; clear hb8))
        exact ⟨⟨i + 1, E, by omega, by omega, by go_num, by omega, HT.out.later HB8.out, HU.out.later HB8.out, below_call HB.out HB8.out⟩, by simp [intOf]; omega⟩
      · have HC := hid hno
        have HL : Hid (E.length < 256) := by unfold Hid; omega
        clear hno
        go_wp2_with (first | (go_at_call 17; refine (I.put_ok HT.out co ch cl (i : Int) hok1 hok2 HC.out HL.out).mono ?_; rintro e w8 ⟨rfl, t8, b8⟩; have HT8 := hid t8; have HB8 := hid b8; clear t8 b8))
        exact ⟨⟨i + 1, _, by omega, by omega, by go_num, by simp; omega, HT8.out, HU.out.but HB8.out (fun e => hd1.out _ e (.inl rfl)) (fun e => hd1.out _ e (.inr rfl)), HB8.out.below HB.out hin.out⟩, by simp [intOf]; omega⟩
    · have hE2 : E.length ≤ 256 := by omega
      have hex : ¬ ((i : Int) < (n : Int)) ∨ ((i : Int) < (n : Int) ∧ ¬ ((i : Int) < 256)) := by omega
      have HKN : Hid ((srt (E.map Prod.fst)).length = E.length) := by unfold Hid; rw [(srt_perm _).length_eq, List.length_map]
      rcases hex with hex | ⟨hex1, hex⟩
      · go_upto_region 10 with (first | (go_at_call 18; refine (I.caps_any HT.out).mono ?_; rintro e w8 ⟨q0, rfl, C8, hq0, hb8⟩; have HT8 := hid (HT.out.later hb8); have HU8 := hid (HU.out.later hb8); have HC8 := hid C8; have HB8 := hid (below_call HB.out hb8); have hs8 := hb8.size; clear C8 hb8))
        go_upto_region 11 with (first | (go_at_call 18; refine (I.caps_any HT8.out).mono ?_; rintro e w9 ⟨q1, rfl, C9, hq1, hb9⟩; have HT9 := hid (HT8.out.later hb9); have HU9 := hid (HU8.out.later hb9); have HC8' := hid (HC8.out.later hb9); have HC9 := hid C9; have HB9 := hid (below_call HB8.out hb9); have hs9 := hb9.size; clear C9 hb9))
        have hq0l := HC8.out.lt
        have hq1l := HC9.out.lt
        have htl := HT.out.lt
        have htl2 := HT.out.lt2
        have hul := HU.out.lt
        have hul2 := HU.out.lt2
        have hwl := HB.out.size
        obtain ⟨aw, cw, w10, hrw, how, hgw⟩ := append_k 43 34 _ 3 24 Try.underlying43 info34 rfl (by decide) (by decide) (own_none w9) ((HC8'.out.alloc (Obj.cells #[] 34)).cr HKN.out) (Nat.le_of_lt (by simp)) (by omega)
        have hbn := below1 w9 (Obj.cells #[] 34)
        have hb10 : Below w9.heap.size w9 w10 := hbn.trans (Gr.below' hgw (own_none w9) hbn.size)
        rw [Nat.zero_add] at hrw how
        have e0 : caps [] ++ caps (srt (E.map Prod.fst)) = caps (srt (E.map Prod.fst)) := by simp [caps]
        rw [e0] at how
        have HRW := hid hrw
        have RW := hid (rd_of how)
        have HBW : Hid (∀ k, Blk aw k → w9.heap.size ≤ k) := hid (fun k hk => (own_block how k (Blk.of.2 hk)).1)
        have HT10 := hid (HT9.out.later hb10)
        have HU10 := hid (HU9.out.later hb10)
        have CA := hid (HC8'.out.later hb10)
        have CB := hid (HC9.out.later hb10)
        have HB10 := hid (below_call HB9.out hb10)
        have hkeys := hid (fun (m : Nat) (c : Cp) (hc : (srt (E.map Prod.fst))[m]? = some c) => (srt_perm (E.map Prod.fst)).mem_iff.1 (List.mem_of_getElem? hc))
        clear hrw how hgw hbn hb10 e0 HC8 HC8' HC9 HT8 HT9 HU8 HU9
        obtain ⟨K, hK⟩ : ∃ K, K = srt (E.map Prod.fst) := ⟨_, rfl⟩
        have HSE : Hid (srt (E.map Prod.fst) = K) := hid hK.symm
        rw [← hK] at RW CA CB hkeys
        have HKN2 : Hid (K.length = E.length) := by unfold Hid; rw [hK]; exact HKN.out
        clear hK
        go_upto_region 12 with (first | (at_builtin; refine wpList_append_known rfl _ _ 43 rfl _ _ rfl rfl _ w10 HRW.out ?_))
        have hQw : Hid (∀ k, Qb (fun k => if k = 0 then q0 else q1) k → w.heap.size ≤ k) := by
          rintro k (e | e)
          · change k = q0 at e; omega
          · change k = q1 at e; omega
        have hQt : Hid (¬ Qb (fun k => if k = 0 then q0 else q1) g ∧ ¬ Qb (fun k => if k = 0 then q0 else q1) gb ∧ ¬ Qb (fun k => if k = 0 then q0 else q1) h ∧ ¬ Qb (fun k => if k = 0 then q0 else q1) hb) := by
          refine ⟨?_, ?_, ?_, ?_⟩
          · rintro (e | e)
            · change g = q0 at e; omega
            · change g = q1 at e; omega
          · rintro (e | e)
            · change gb = q0 at e; omega
            · change gb = q1 at e; omega
          · rintro (e | e)
            · change h = q0 at e; omega
            · change h = q1 at e; omega
          · rintro (e | e)
            · change hb = q0 at e; omega
            · change hb = q1 at e; omega
        have hQa : Hid (∀ k, Blk aw k → ¬ Qb (fun k => if k = 0 then q0 else q1) k) := by
          intro k hk
          have h3 := HBW.out k hk
          rintro (e | e)
          · change k = q0 at e; omega
          · change k = q1 at e; omega
        have hq01 : q0 ≠ q1 := by omega
        have hMK : Hid (∀ W : World, Ca W q0 K → Ca W q1 K → Mk (W.alloc (Obj.cells #[.slice (some ⟨q0, 0, none⟩) E.length E.length, .slice (some ⟨q1, 0, none⟩) E.length E.length] 43)) W.heap.size (fun k => if k = 0 then q0 else q1) E.length (fun _ => K)) := hid (fun W h0 h1 => by
          have l0 := h0.lt
          have l1 := h1.lt
          refine ⟨fun k hk => ?_, fun k hk => ?_, fun k hk => HKN2.out, hq01, fun k hk => ?_, by omega⟩
          · have e : k = 0 ∨ k = 1 := by omega
            rcases e with rfl | rfl
            · simp [go_sem]
            · simp [go_sem]
          · have e : k = 0 ∨ k = 1 := by omega
            rcases e with rfl | rfl
            · exact h0.alloc _
            · exact h1.alloc _
          · have e : k = 0 ∨ k = 1 := by omega
            rcases e with rfl | rfl
            · show q0 ≠ W.heap.size; omega
            · show q1 ≠ W.heap.size; omega)
        go_upto_region 14 with (first
          | (go_at_call 18; have hq_ := mkL; clear hq_; refine (I.caps_any HU14.out).mono ?_; rintro e w15 ⟨bk5, rfl, C15, _, hb15⟩; have HT15 := hid (HT14.out.later hb15); have HU15 := hid (HU14.out.later hb15); have RW15 := hid (RW14.out.later hb15); have HB15 := hid (below_call HB14.out hb15); clear C15 hb15)
          | (go_at_call 20; refine (tb_len HU14.out).mono ?_; rintro e w145 ⟨rfl, hw145⟩; obtain rfl := hw145.symm; clear hw145; obtain ⟨mkL, _⟩ : ∃ m : Nat, m = 0 := ⟨0, rfl⟩)
          | (go_at_call 14; have hq_ := HT13; clear hq_; refine (same_true _ _ (CD13.out.rd HKN2.out) RW13.out (by omega) (by omega)).mono ?_; rintro e w14 ⟨rfl, q14, hw14⟩; have HT14 := hid (HT13.out.later (drew_below hw14)); have HU14 := hid (HU13.out.later (drew_below hw14)); have RW14 := hid (RW13.out.later (drew_below hw14)); have HB14 := hid (below_call HB13.out (drew_below hw14)); clear hw14)
          | (go_at_call 18; have hq_ := HT12; clear hq_; refine (I.caps_any HT12.out).mono ?_; rintro e w13 ⟨bk3, rfl, C13, _, hb13⟩; have CD13 : Hid (Ca w13 bk3 K) := (by unfold Hid; rw [← HSE.out]; exact C13); have HT13 := hid (HT12.out.later hb13); have HU13 := hid (HU12.out.later hb13); have RW13 := hid (RW12.out.later hb13); have HB13 := hid (below_call HB12.out hb13); clear C13 hb13)
          | (go_at_call 19; refine (mark_any _ (hMK.out w11 CA11.out CB11.out)).mono ?_; rintro e w12 ⟨rfl, b12⟩; have HT12 := hid (((HT11.out.alloc _).but b12 hQt.out.1 hQt.out.2.1)); have HU12 := hid (((HU11.out.alloc _).but b12 hQt.out.2.2.1 hQt.out.2.2.2)); have RW12 := hid ((RW11.out.later (below1 _ _)).but b12 hQa.out); have HB12 := hid (b12.below (below_call HB11.out (below1 _ _)) hQw.out); clear b12)
          | (go_at_call 14; refine (same_true _ _ (CB.out.rd HKN2.out) RW.out (by omega) (by omega)).mono ?_; rintro e w11 ⟨rfl, q11, hw11⟩; have HT11 := hid (HT10.out.later (drew_below hw11)); have HU11 := hid (HU10.out.later (drew_below hw11)); have RW11 := hid (RW.out.later (drew_below hw11)); have CA11 := hid (CA.out.later (drew_below hw11)); have CB11 := hid (CB.out.later (drew_below hw11)); have HB11 := hid (below_call HB10.out (drew_below hw11)); clear hw11))
        go_upto_region 15 with fail
        go_loopw [13] (GtRel w15 E.length) (fun t _ => E.length - (intOf t).toNat)
        case atStart => exact ⟨0, Nat.zero_le _, rfl, Below.refl _ _⟩
        case round =>
          obtain ⟨j, hj, rfl, hBj⟩ := hrel
          have HBj := hid hBj
          clear hBj
          have HTj := hid (HT15.out.later HBj.out)
          have HUj := hid (HU15.out.later HBj.out)
          by_cases hjl : j < E.length
          · have hrj := RW15.out.later HBj.out
            obtain ⟨b, o, hab, hcel⟩ := hrj.at_ (by omega)
            subst hab
            obtain ⟨c, hc⟩ : ∃ c, K[j]? = some c := ⟨_, List.getElem?_eq_getElem (by rw [HKN2.out]; exact hjl)⟩
            have hmm := hkeys.out j c hc
            obtain ⟨y, hy, hyc⟩ := List.mem_map.1 hmm
            have hcl := hcel j c hc
            obtain ⟨hok1, hok2⟩ := HTj.out.ok hmm
            obtain ⟨yc, yv⟩ := y
            simp only at hyc
            subst hyc
            obtain ⟨co, ch, cl⟩ := yc
            have hcl2 := hcl.later (Below.refl wr.heap.size wr)
            obtain ⟨c0, c1, c2⟩ := hcl
            simp only at c0 c1 c2 hok1 hok2
            have HCL := hid hcl2
            have HY := hid hy
            clear hrj hcel hc hmm hy hcl2
            go_upto_region 18 with (first | (go_at_call 21; refine (I.get_ok HTj.out co ch cl hok1 hok2 yv HY.out).mono ?_; rintro e w16 ⟨rfl, hb16⟩; have HB16 := hid hb16; have HU16 := hid (HUj.out.later hb16); have hcl3 := HCL.out.later hb16; clear hb16))
            obtain ⟨d0, d1, d2⟩ := hcl3
            simp only at d0 d1 d2
            go_wp2_with (first | (go_at_call 21; refine (I.get_none HU16.out co ch cl hok1 hok2 (by simp)).mono ?_; rintro e w17 ⟨rfl, hb17⟩; have HB17 := hid hb17; clear hb17))
            exact ⟨⟨j + 1, by omega, by go_num, below_call HBj.out (below_call HB16.out HB17.out)⟩, by simp [intOf]; omega⟩
          · go_wp2_with (first | (go_at_call 20; refine (tb_len HTj.out).mono ?_; rintro e w18 ⟨rfl, hw18⟩; obtain rfl := hw18.symm; clear hw18))
            go_ret
            exact ⟨ret_bool (by simp), below_call HB15.out HBj.out⟩
      · go_upto_region 10 with (first | (go_at_call 18; refine (I.caps_any HT.out).mono ?_; rintro e w8 ⟨q0, rfl, C8, hq0, hb8⟩; have HT8 := hid (HT.out.later hb8); have HU8 := hid (HU.out.later hb8); have HC8 := hid C8; have HB8 := hid (below_call HB.out hb8); have hs8 := hb8.size; clear C8 hb8))
        go_upto_region 11 with (first | (go_at_call 18; refine (I.caps_any HT8.out).mono ?_; rintro e w9 ⟨q1, rfl, C9, hq1, hb9⟩; have HT9 := hid (HT8.out.later hb9); have HU9 := hid (HU8.out.later hb9); have HC8' := hid (HC8.out.later hb9); have HC9 := hid C9; have HB9 := hid (below_call HB8.out hb9); have hs9 := hb9.size; clear C9 hb9))
        have hq0l := HC8.out.lt
        have hq1l := HC9.out.lt
        have htl := HT.out.lt
        have htl2 := HT.out.lt2
        have hul := HU.out.lt
        have hul2 := HU.out.lt2
        have hwl := HB.out.size
        obtain ⟨aw, cw, w10, hrw, how, hgw⟩ := append_k 43 34 _ 3 24 Try.underlying43 info34 rfl (by decide) (by decide) (own_none w9) ((HC8'.out.alloc (Obj.cells #[] 34)).cr HKN.out) (Nat.le_of_lt (by simp)) (by omega)
        have hbn := below1 w9 (Obj.cells #[] 34)
        have hb10 : Below w9.heap.size w9 w10 := hbn.trans (Gr.below' hgw (own_none w9) hbn.size)
        rw [Nat.zero_add] at hrw how
        have e0 : caps [] ++ caps (srt (E.map Prod.fst)) = caps (srt (E.map Prod.fst)) := by simp [caps]
        rw [e0] at how
        have HRW := hid hrw
        have RW := hid (rd_of how)
        have HBW : Hid (∀ k, Blk aw k → w9.heap.size ≤ k) := hid (fun k hk => (own_block how k (Blk.of.2 hk)).1)
        have HT10 := hid (HT9.out.later hb10)
        have HU10 := hid (HU9.out.later hb10)
        have CA := hid (HC8'.out.later hb10)
        have CB := hid (HC9.out.later hb10)
        have HB10 := hid (below_call HB9.out hb10)
        have hkeys := hid (fun (m : Nat) (c : Cp) (hc : (srt (E.map Prod.fst))[m]? = some c) => (srt_perm (E.map Prod.fst)).mem_iff.1 (List.mem_of_getElem? hc))
        clear hrw how hgw hbn hb10 e0 HC8 HC8' HC9 HT8 HT9 HU8 HU9
        obtain ⟨K, hK⟩ : ∃ K, K = srt (E.map Prod.fst) := ⟨_, rfl⟩
        have HSE : Hid (srt (E.map Prod.fst) = K) := hid hK.symm
        rw [← hK] at RW CA CB hkeys
        have HKN2 : Hid (K.length = E.length) := by unfold Hid; rw [hK]; exact HKN.out
        clear hK
        go_upto_region 12 with (first | (at_builtin; refine wpList_append_known rfl _ _ 43 rfl _ _ rfl rfl _ w10 HRW.out ?_))
        have hQw : Hid (∀ k, Qb (fun k => if k = 0 then q0 else q1) k → w.heap.size ≤ k) := by
          rintro k (e | e)
          · change k = q0 at e; omega
          · change k = q1 at e; omega
        have hQt : Hid (¬ Qb (fun k => if k = 0 then q0 else q1) g ∧ ¬ Qb (fun k => if k = 0 then q0 else q1) gb ∧ ¬ Qb (fun k => if k = 0 then q0 else q1) h ∧ ¬ Qb (fun k => if k = 0 then q0 else q1) hb) := by
          refine ⟨?_, ?_, ?_, ?_⟩
          · rintro (e | e)
            · change g = q0 at e; omega
            · change g = q1 at e; omega
          · rintro (e | e)
            · change gb = q0 at e; omega
            · change gb = q1 at e; omega
          · rintro (e | e)
            · change h = q0 at e; omega
            · change h = q1 at e; omega
          · rintro (e | e)
            · change hb = q0 at e; omega
            · change hb = q1 at e; omega
        have hQa : Hid (∀ k, Blk aw k → ¬ Qb (fun k => if k = 0 then q0 else q1) k) := by
          intro k hk
          have h3 := HBW.out k hk
          rintro (e | e)
          · change k = q0 at e; omega
          · change k = q1 at e; omega
        have hq01 : q0 ≠ q1 := by omega
        have hMK : Hid (∀ W : World, Ca W q0 K → Ca W q1 K → Mk (W.alloc (Obj.cells #[.slice (some ⟨q0, 0, none⟩) E.length E.length, .slice (some ⟨q1, 0, none⟩) E.length E.length] 43)) W.heap.size (fun k => if k = 0 then q0 else q1) E.length (fun _ => K)) := hid (fun W h0 h1 => by
          have l0 := h0.lt
          have l1 := h1.lt
          refine ⟨fun k hk => ?_, fun k hk => ?_, fun k hk => HKN2.out, hq01, fun k hk => ?_, by omega⟩
          · have e : k = 0 ∨ k = 1 := by omega
            rcases e with rfl | rfl
            · simp [go_sem]
            · simp [go_sem]
          · have e : k = 0 ∨ k = 1 := by omega
            rcases e with rfl | rfl
            · exact h0.alloc _
            · exact h1.alloc _
          · have e : k = 0 ∨ k = 1 := by omega
            rcases e with rfl | rfl
            · show q0 ≠ W.heap.size; omega
            · show q1 ≠ W.heap.size; omega)
        go_upto_region 14 with (first
          | (go_at_call 18; have hq_ := mkL; clear hq_; refine (I.caps_any HU14.out).mono ?_; rintro e w15 ⟨bk5, rfl, C15, _, hb15⟩; have HT15 := hid (HT14.out.later hb15); have HU15 := hid (HU14.out.later hb15); have RW15 := hid (RW14.out.later hb15); have HB15 := hid (below_call HB14.out hb15); clear C15 hb15)
          | (go_at_call 20; refine (tb_len HU14.out).mono ?_; rintro e w145 ⟨rfl, hw145⟩; obtain rfl := hw145.symm; clear hw145; obtain ⟨mkL, _⟩ : ∃ m : Nat, m = 0 := ⟨0, rfl⟩)
          | (go_at_call 14; have hq_ := HT13; clear hq_; refine (same_true _ _ (CD13.out.rd HKN2.out) RW13.out (by omega) (by omega)).mono ?_; rintro e w14 ⟨rfl, q14, hw14⟩; have HT14 := hid (HT13.out.later (drew_below hw14)); have HU14 := hid (HU13.out.later (drew_below hw14)); have RW14 := hid (RW13.out.later (drew_below hw14)); have HB14 := hid (below_call HB13.out (drew_below hw14)); clear hw14)
          | (go_at_call 18; have hq_ := HT12; clear hq_; refine (I.caps_any HT12.out).mono ?_; rintro e w13 ⟨bk3, rfl, C13, _, hb13⟩; have CD13 : Hid (Ca w13 bk3 K) := (by unfold Hid; rw [← HSE.out]; exact C13); have HT13 := hid (HT12.out.later hb13); have HU13 := hid (HU12.out.later hb13); have RW13 := hid (RW12.out.later hb13); have HB13 := hid (below_call HB12.out hb13); clear C13 hb13)
          | (go_at_call 19; refine (mark_any _ (hMK.out w11 CA11.out CB11.out)).mono ?_; rintro e w12 ⟨rfl, b12⟩; have HT12 := hid (((HT11.out.alloc _).but b12 hQt.out.1 hQt.out.2.1)); have HU12 := hid (((HU11.out.alloc _).but b12 hQt.out.2.2.1 hQt.out.2.2.2)); have RW12 := hid ((RW11.out.later (below1 _ _)).but b12 hQa.out); have HB12 := hid (b12.below (below_call HB11.out (below1 _ _)) hQw.out); clear b12)
          | (go_at_call 14; refine (same_true _ _ (CB.out.rd HKN2.out) RW.out (by omega) (by omega)).mono ?_; rintro e w11 ⟨rfl, q11, hw11⟩; have HT11 := hid (HT10.out.later (drew_below hw11)); have HU11 := hid (HU10.out.later (drew_below hw11)); have RW11 := hid (RW.out.later (drew_below hw11)); have CA11 := hid (CA.out.later (drew_below hw11)); have CB11 := hid (CB.out.later (drew_below hw11)); have HB11 := hid (below_call HB10.out (drew_below hw11)); clear hw11))
        go_upto_region 15 with fail
        go_loopw [13] (GtRel w15 E.length) (fun t _ => E.length - (intOf t).toNat)
        case atStart => exact ⟨0, Nat.zero_le _, rfl, Below.refl _ _⟩
        case round =>
          obtain ⟨j, hj, rfl, hBj⟩ := hrel
          have HBj := hid hBj
          clear hBj
          have HTj := hid (HT15.out.later HBj.out)
          have HUj := hid (HU15.out.later HBj.out)
          by_cases hjl : j < E.length
          · have hrj := RW15.out.later HBj.out
            obtain ⟨b, o, hab, hcel⟩ := hrj.at_ (by omega)
            subst hab
            obtain ⟨c, hc⟩ : ∃ c, K[j]? = some c := ⟨_, List.getElem?_eq_getElem (by rw [HKN2.out]; exact hjl)⟩
            have hmm := hkeys.out j c hc
            obtain ⟨y, hy, hyc⟩ := List.mem_map.1 hmm
            have hcl := hcel j c hc
            obtain ⟨hok1, hok2⟩ := HTj.out.ok hmm
            obtain ⟨yc, yv⟩ := y
            simp only at hyc
            subst hyc
            obtain ⟨co, ch, cl⟩ := yc
            have hcl2 := hcl.later (Below.refl wr.heap.size wr)
            obtain ⟨c0, c1, c2⟩ := hcl
            simp only at c0 c1 c2 hok1 hok2
            have HCL := hid hcl2
            have HY := hid hy
            clear hrj hcel hc hmm hy hcl2
            go_upto_region 18 with (first | (go_at_call 21; refine (I.get_ok HTj.out co ch cl hok1 hok2 yv HY.out).mono ?_; rintro e w16 ⟨rfl, hb16⟩; have HB16 := hid hb16; have HU16 := hid (HUj.out.later hb16); have hcl3 := HCL.out.later hb16; clear hb16))
            obtain ⟨d0, d1, d2⟩ := hcl3
            simp only at d0 d1 d2
            go_wp2_with (first | (go_at_call 21; refine (I.get_none HU16.out co ch cl hok1 hok2 (by simp)).mono ?_; rintro e w17 ⟨rfl, hb17⟩; have HB17 := hid hb17; clear hb17))
            exact ⟨⟨j + 1, by omega, by go_num, below_call HBj.out (below_call HB16.out HB17.out)⟩, by simp [intOf]; omega⟩
          · go_wp2_with (first | (go_at_call 20; refine (tb_len HTj.out).mono ?_; rintro e w18 ⟨rfl, hw18⟩; obtain rfl := hw18.symm; clear hw18))
            go_ret
            exact ⟨ret_bool (by simp), below_call HB15.out HBj.out⟩
end Go.Proofs.Ytdkadmnhfnilkaa
