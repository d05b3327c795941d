import Derived.Test.YtdkadmnhfnilkaaQ1
import Derived.Test.YtdkadmnhfnilkaaD1
namespace Go.Proofs.Ytdkadmnhfnilkaa
open Go.RowKit I
set_option linter.unusedVariables false

def TurnRel (w : World) (g gb kn mo N s m tu : Nat) (t : Value) (w' : World) : Prop :=
  ∃ i : Nat, i ≤ mo + tu ∧ t = .int .i64 (i : Int) ∧ Tb w' g gb kn mo N (eeT s m (i - mo) (i - (i - mo))) ∧ Below w.heap.size w w'
theorem max0 {i mo a : Nat} (h : a = i + 1 - mo) : max (0 : Int) ((i : Int) + 1 - (mo : Int)) = (a : Int) := by omega
theorem min0 {i mo a : Nat} (h : a = i + 1 - mo) : min ((i : Int) + 1) (mo : Int) = ((i + 1 - a : Nat) : Int) := by omega
def CapRel (w : World) (n : Nat) (t : Value) (w' : World) : Prop := ∃ j : Nat, 1 ≤ j ∧ t = .int .i64 (j : Int) ∧ Below w.heap.size w w'

set_option maxRecDepth 100000 in
set_option maxHeartbeats 20000000 in
theorem turns_law (x0 x1 x2 : Int) (s : Nat) (w : World) (hs : s < B64) :
    Calls Try.prog 5 #[.int .i64 x0, .int .i64 x1, .int .i64 x2, .int .u64 (s : Int)] w fun e w' => e = .returned (.bool true) ∧ Below w.heap.size w w' := by
  have hor := u64_or1 s hs
  have hodd := hid (or1_odd s)
  have hmlt := or1_lt s hs
  generalize s ||| 1 = m at hor hodd hmlt
  go_enter Try.func5, Try.ntmps5
  go_upto_region 2 with (first | (go_at_call 7; refine (into_any _ 40 _ (by omega) (by omega)).mono ?_; rintro e w1 ⟨⟨r, hr, rfl⟩, hw⟩; obtain rfl := hw.symm; obtain ⟨mo, hmo, hm1, hm2⟩ : ∃ mo : Nat, (1 : Int) + (r : Int) = (mo : Int) ∧ 1 ≤ mo ∧ mo ≤ 40 := ⟨1 + r, by omega, by omega, by omega⟩))
  clear hmo hr
  go_upto_region 3 with (first | (go_at_call 7; refine (into_any _ 400 _ (by omega) (by omega)).mono ?_; rintro e w2 ⟨⟨tu, htu, rfl⟩, hw⟩; obtain rfl := hw.symm))
  go_upto_region 4 with (first | (go_at_call 16; refine (new_ok _ mo kn (by omega) (by omega) (by omega)).mono ?_; rintro e w4 ⟨g, gb, N, rfl, T4, hg, hgb, hb4⟩; have HT4 := hid T4; have HB4 := hid hb4; clear T4 hb4) | (go_at_call 7; refine (into_any _ 65 _ (by omega) (by omega)).mono ?_; rintro e w3 ⟨⟨kn, hkn, rfl⟩, hw⟩; obtain rfl := hw.symm))
  go_upto_region 6 with (first | (go_at_call 9; refine (known_any _).mono ?_; rintro e w5 ⟨rfl, hb5⟩; have HT5 := hid (HT4.out.later hb5); have HB5 := hid (below_call HB4.out hb5); clear hb5))
  have hin : Hid (∀ k, In g gb k → w.heap.size ≤ k) := by
    rintro k (rfl | rfl) <;> assumption
  go_upto_region 7 with fail
  go_loopw [11] (TurnRel w g gb kn mo N s m tu) (fun t _ => mo + tu - (intOf t).toNat)
  case atStart => exact ⟨0, Nat.zero_le _, rfl, by rw [Nat.zero_sub]; exact HT5.out, HB5.out⟩
  case round =>
    obtain ⟨i, hi, rfl, hT, hB⟩ := hrel
    have HT := hid hT
    have HB := hid hB
    clear hT hB
    by_cases hlt : i < mo + tu
    · have hlti : (i : Int) < (mo : Int) + (tu : Int) := by omega
      have hwi := wrap_small i (by omega)
      have hmul := mul_val m i
      have hki := hid (show kyT s m i = ((i : Int) % 3, s, loN m i) from rfl)
      have hll := loN_lt m i
      obtain ⟨a, ha⟩ : ∃ a, a = i + 1 - mo := ⟨_, rfl⟩
      obtain ⟨kk, hkk⟩ : ∃ kk, kk = a + (i * 7) % (i + 1 - a) := ⟨_, rfl⟩
      have hmod : (i * 7) % (i + 1 - a) < i + 1 - a := Nat.mod_lt _ (by omega)
      have hkkI : (a : Int) + ((i : Int) * 7) % ((i : Int) + 1 - (a : Int)) = (kk : Int) := by
        have e1 : (i : Int) + 1 - (a : Int) = ((i + 1 - a : Nat) : Int) := by omega
        rw [e1, hkk]
        simp
      have hmx := max0 ha
      obtain ⟨nn, hnn⟩ : ∃ nn, nn = i + 1 - a := ⟨_, rfl⟩
      have hmn : min ((i : Int) + 1) (mo : Int) = (nn : Int) := by rw [hnn]; exact min0 ha
      have HNN := hid hnn
      clear hnn
      have HA := hid ha
      have HKK := hid hkk
      have hk1 : a ≤ kk := by omega
      have hk2 : kk ≤ i := by omega
      have hai : a ≤ i := by omega
      clear ha hkk hmod
      have hwk := wrap_small kk (by omega)
      have hmulk := mul_val m kk
      have hllk := loN_lt m kk
      by_cases hge : mo ≤ i
      · obtain ⟨j, hj⟩ : ∃ j, j = i - mo := ⟨_, rfl⟩
        have hsub : (i : Int) - (mo : Int) = (j : Int) := by omega
        have hwj := wrap_small j (by omega)
        have hmulj := mul_val m j
        have hllj := loN_lt m j
        have HJ := hid hj
        clear hj
        have hEl : i - (i - mo) = mo := by omega
        have HT1 : Hid (Tb wr g gb kn mo N (eeT s m j mo)) := by
          have := HT.out
          rw [hEl, ← HJ.out] at this
          exact this
        have hgei : (mo : Int) ≤ (i : Int) := by omega
        clear HT hEl
        have hcn := hid (eeT_not (s := s) (m := m) (a := j) (n := mo) (j := i) hodd.out (by omega) (by omega) (.inr (by omega)))
        have hcn2 := hid (eeT_not (s := s) (m := m) (a := j + 1) (n := mo - 1) (j := i) hodd.out (by omega) (by omega) (.inr (by omega)))
        have hon := hid (eeT_not (s := s) (m := m) (a := j + 1) (n := mo - 1) (j := j) hodd.out (by omega) (by omega) (.inl (by omega)))
        have hco := hid (eeT_cons s m j (mo - 1))
        have hmo1 : mo - 1 + 1 = mo := by omega
        rw [hmo1] at hco
        clear hmo1
        have hmj := hid (eeT_mem (s := s) (m := m) (a := j) (n := mo) (j := j) (Nat.le_refl _) (by omega))
        have hep : Hid (eeT s m (j + 1) (mo - 1) ++ [(kyT s m i, (i : Int))] = eeT s m a nn) := by
          have := eeT_add s m (j + 1) (mo - 1)
          have e1 : j + 1 + (mo - 1) = i := by omega
          have e2 : mo - 1 + 1 = nn := by rw [HNN.out]; omega
          have e3 : j + 1 = a := by rw [HA.out]; omega
          rw [e1, e2, e3] at this
          rw [e3]
          exact this.symm
        have hltn := hid (show (eeT s m (j + 1) (mo - 1)).length < mo by rw [eeT_length]; omega)
        have hrl := HT1.out.lt
        have hrl2 := HT1.out.lt2
        have hni0 : Hid (¬ In g gb wr.heap.size) := by rintro (h3 | h3) <;> omega
        have hni1 : Hid (¬ In g gb (wr.heap.size + 1)) := by rintro (h3 | h3) <;> omega
        clear hrl hrl2
        go_upto_region 13 with (first | (go_at_call 17; refine (put_full ((HT1.out.alloc _).alloc _) _ s (loN m i) _ hs hll hcn.out (eeT_length _ _ _ _)).mono ?_; rintro e w6 ⟨rfl, hb6⟩; have HT6 := hid (((HT1.out.alloc _).alloc _).later hb6); have HB6 := hid (below_call (below_call HB.out (below2 _ _ _)) hb6); have BX6 := hid (((Bx.new wr _ s (loN m i)).later (below1 _ _)).later hb6); have BO6 := hid ((bx_two wr _ _ s (loN m j)).later hb6); clear hb6))
        obtain ⟨o0, o1, o2⟩ := (⟨BO6.out.c0, BO6.out.c1, BO6.out.c2⟩ : _ ∧ _ ∧ _)
        go_upto_region 14 with (first | (go_at_call 22; refine (drop_ok HT6.out _ s (loN m j) hs hllj (j : Int) hmj.out (eeT s m (j + 1) (mo - 1)) (by rw [hco.out]; exact List.Perm.refl _)).mono ?_; rintro e w7 ⟨rfl, T7, B7⟩; have HT7 := hid T7; have HB7 := hid (B7.below HB6.out hin.out); have BX7 := hid (BX6.out.but B7 hni0.out); have BO7 := hid (BO6.out.but B7 hni1.out); clear T7 B7))
        clear o0 o1 o2
        obtain ⟨o0, o1, o2⟩ := (⟨BO7.out.c0, BO7.out.c1, BO7.out.c2⟩ : _ ∧ _ ∧ _)
        go_upto_region 15 with (first | (go_at_call 21; refine (get_none HT7.out _ s (loN m j) hs hllj hon.out).mono ?_; rintro e w8 ⟨rfl, hb8⟩; have HT8 := hid (HT7.out.later hb8); have HB8 := hid (below_call HB7.out hb8); have BX8 := hid (BX7.out.later hb8); clear hb8))
        clear o0 o1 o2
        obtain ⟨o0, o1, o2⟩ := (⟨BX8.out.c0, BX8.out.c1, BX8.out.c2⟩ : _ ∧ _ ∧ _)
        go_upto_region 18 with (first | (go_at_call 17; refine (put_ok HT8.out _ s (loN m i) _ hs hll hcn2.out hltn.out).mono ?_; rintro e w9 ⟨rfl, T9, B9⟩; have HT9 : Hid (Tb w9 g gb kn mo N (eeT s m a nn)) := hid (hep.out ▸ T9); have HB9 := hid (B9.below HB8.out hin.out); have BX9 := hid (BX8.out.but B9 hni0.out); clear T9 B9))
        clear o0 o1 o2
        obtain ⟨b0, b1, b2⟩ := (⟨BX9.out.c0, BX9.out.c1, BX9.out.c2⟩ : _ ∧ _ ∧ _)
        have hmem := hid (eeT_mem (s := s) (m := m) (a := a) (n := nn) (j := i) hai (by rw [HNN.out]; omega))
        have hmemk := hid (eeT_mem (s := s) (m := m) (a := a) (n := nn) (j := kk) hk1 (by rw [HNN.out]; omega))
        have hlen := hid (eeT_length s m a nn)
        go_upto_region 19 with (first | (go_at_call 21; refine (get_ok HT9.out _ s (loN m i) hs hll (i : Int) hmem.out).mono ?_; rintro e w10 ⟨rfl, hb10⟩; have HT10 := hid (HT9.out.later hb10); have HB10 := hid (below_call HB9.out hb10); clear hb10))
        clear b0 b1 b2
        have hnz : ¬ ((i : Int) + 1 - (a : Int) = 0) := by omega
        have hpz : 0 ≤ (i : Int) + 1 - (a : Int) := by omega
        go_upto_region 23 with (first | (go_at_call 20; refine (tb_len HT10.out).mono ?_; rintro e w11 ⟨rfl, hw11⟩; obtain rfl := hw11.symm; rw [hlen.out]))
        go_wp2_with (first | (go_at_call 21; refine (get_ok HT10.out _ s (loN m kk) hs hllk (kk : Int) hmemk.out).mono ?_; rintro e w12 ⟨rfl, hb12⟩; have HT12 := hid (HT10.out.later hb12); have HB12 := hid (below_call HB10.out hb12); clear hb12))
        refine ⟨⟨i + 1, by omega, by go_num, ?_, HB12.out⟩, by simp [intOf]; omega⟩
        rw [← HA.out, ← HNN.out]
        exact HT12.out
      · have hgei : ¬ (mo : Int) ≤ (i : Int) := by omega
        have e0 : i - mo = 0 := by omega
        have HT1 : Hid (Tb wr g gb kn mo N (eeT s m 0 i)) := by
          have := HT.out
          rw [e0, Nat.sub_zero] at this
          exact this
        clear HT e0
        have hcn := hid (eeT_not (s := s) (m := m) (a := 0) (n := i) (j := i) hodd.out (by omega) (by omega) (.inr (by omega)))
        have hep : Hid (eeT s m 0 i ++ [(kyT s m i, (i : Int))] = eeT s m a nn) := by
          have := eeT_add s m 0 i
          have e3 : a = 0 := by rw [HA.out]; omega
          have e2 : nn = i + 1 := by rw [HNN.out]; omega
          rw [Nat.zero_add] at this
          rw [e2, e3]
          exact this.symm
        have hltn := hid (show (eeT s m 0 i).length < mo by rw [eeT_length]; omega)
        have hrl := HT1.out.lt
        have hrl2 := HT1.out.lt2
        have hni0 : Hid (¬ In g gb wr.heap.size) := by rintro (h3 | h3) <;> omega
        clear hrl hrl2
        go_upto_region 18 with (first | (go_at_call 17; refine (put_ok (HT1.out.alloc _) _ s (loN m i) _ hs hll hcn.out hltn.out).mono ?_; rintro e w9 ⟨rfl, T9, B9⟩; have HT9 : Hid (Tb w9 g gb kn mo N (eeT s m a nn)) := hid (hep.out ▸ T9); have HB9 := hid (B9.below (below_call HB.out (below1 _ _)) hin.out); have BX9 := hid ((Bx.new wr _ s (loN m i)).but B9 hni0.out); clear T9 B9))
        obtain ⟨b0, b1, b2⟩ := (⟨BX9.out.c0, BX9.out.c1, BX9.out.c2⟩ : _ ∧ _ ∧ _)
        have hmem := hid (eeT_mem (s := s) (m := m) (a := a) (n := nn) (j := i) hai (by rw [HNN.out]; omega))
        have hmemk := hid (eeT_mem (s := s) (m := m) (a := a) (n := nn) (j := kk) hk1 (by rw [HNN.out]; omega))
        have hlen := hid (eeT_length s m a nn)
        go_upto_region 19 with (first | (go_at_call 21; refine (get_ok HT9.out _ s (loN m i) hs hll (i : Int) hmem.out).mono ?_; rintro e w10 ⟨rfl, hb10⟩; have HT10 := hid (HT9.out.later hb10); have HB10 := hid (below_call HB9.out hb10); clear hb10))
        clear b0 b1 b2
        have hnz : ¬ ((i : Int) + 1 - (a : Int) = 0) := by omega
        have hpz : 0 ≤ (i : Int) + 1 - (a : Int) := by omega
        go_upto_region 23 with (first | (go_at_call 20; refine (tb_len HT10.out).mono ?_; rintro e w11 ⟨rfl, hw11⟩; obtain rfl := hw11.symm; rw [hlen.out]))
        go_wp2_with (first | (go_at_call 21; refine (get_ok HT10.out _ s (loN m kk) hs hllk (kk : Int) hmemk.out).mono ?_; rintro e w12 ⟨rfl, hb12⟩; have HT12 := hid (HT10.out.later hb12); have HB12 := hid (below_call HB10.out hb12); clear hb12))
        refine ⟨⟨i + 1, by omega, by go_num, ?_, HB12.out⟩, by simp [intOf]; omega⟩
        rw [← HA.out, ← HNN.out]
        exact HT12.out
    · have hlti : ¬ (i : Int) < (mo : Int) + (tu : Int) := by omega
      obtain ⟨E, hE⟩ : ∃ E, E = eeT s m (i - mo) (i - (i - mo)) := ⟨_, rfl⟩
      rw [← hE] at HT
      clear hE
      have hEl : E.length ≤ 40 := by have := HT.out.most; omega
      go_upto_region 28 with (first | (go_at_call 18; refine (caps_any HT.out).mono ?_; rintro e w6 ⟨bk, rfl, C6, hbk, hb6⟩; have HT6 := hid (HT.out.later hb6); have HC6 := hid C6; have HB6 := hid (below_call HB.out hb6); clear C6 hb6))
      have HKl : Hid ((srt (E.map Prod.fst)).length = E.length) := by unfold Hid; rw [(srt_perm _).length_eq, List.length_map]
      have hstr := hid (srt_strict HT6.out.nodup)
      have hok := hid (fun (c : Cp) (hc : c ∈ srt (E.map Prod.fst)) => HT6.out.ok ((srt_perm _).mem_iff.1 hc))
      generalize srt (E.map Prod.fst) = K at *
      go_loopw [24] (CapRel w6 E.length) (fun t _ => E.length - (intOf t).toNat)
      case atStart => exact ⟨1, Nat.le_refl _, rfl, Below.refl _ _⟩
      case round =>
        obtain ⟨j, hj, rfl, hB7⟩ := hrel
        by_cases hltj : j < E.length
        · obtain ⟨p, hp⟩ : ∃ p, j = p + 1 := ⟨j - 1, by omega⟩
          obtain ⟨c, hc⟩ : ∃ c, K[p]? = some c := ⟨_, List.getElem?_eq_getElem (by rw [HKl.out]; omega)⟩
          obtain ⟨d, hd⟩ : ∃ d, K[j]? = some d := ⟨_, List.getElem?_eq_getElem (by rw [HKl.out]; omega)⟩
          have hcd : Hid (ltC c d) := hstr.out p j c d (by omega) hc hd
          have hp2 : p < E.length := by omega
          have hp6 : wrap64 ((j : Int) - 1) = (p : Int) := by unfold wrap64; omega
          have hp7 : IntKind.i64.wrap ((j : Int) - 1) = (p : Int) := by rw [IntKind.wrap_i64]; omega
          have hC7 := HC6.out.later hB7
          obtain ⟨x0, x1, x2⟩ := hC7.at_ _ _ hc
          obtain ⟨y0, y1, y2⟩ := hC7.at_ _ _ hd
          have hokc := hok.out c (List.mem_of_getElem? hc)
          have hokd := hok.out d (List.mem_of_getElem? hd)
          have hS : Hid (∀ U : World, Below wr.heap.size wr U → (U.cell? ⟨bk, p * 3, none⟩ = some (.int .i64 c.1) ∧ U.cell? ⟨bk, p * 3 + 1, none⟩ = some (.int .u64 (c.2.1 : Int)) ∧ U.cell? ⟨bk, p * 3 + 2, none⟩ = some (.int .u64 (c.2.2 : Int)) ∧ U.cell? ⟨bk, j * 3, none⟩ = some (.int .i64 d.1) ∧ U.cell? ⟨bk, j * 3 + 1, none⟩ = some (.int .u64 (d.2.1 : Int)) ∧ U.cell? ⟨bk, j * 3 + 2, none⟩ = some (.int .u64 (d.2.2 : Int))) ∧ Below wr.heap.size wr U) := fun U hU => ⟨⟨cell_later hU x0, cell_later hU x1, cell_later hU x2, cell_later hU y0, cell_later hU y1, cell_later hU y2⟩, hU⟩
          have HB7 := hid hB7
          have hle := fun W => less_any c d W hokc hokd
          have hdt : decide (ltC c d) = true := decide_eq_true hcd.out
          rw [hdt] at hle
          clear hc hd hC7 hp hB7 hokc hokd hdt
          go_upto_region 30 with fail
          go_region_held3 (fun U => (U.cell? ⟨bk, p * 3, none⟩ = some (.int .i64 c.1) ∧ U.cell? ⟨bk, p * 3 + 1, none⟩ = some (.int .u64 (c.2.1 : Int)) ∧ U.cell? ⟨bk, p * 3 + 2, none⟩ = some (.int .u64 (c.2.2 : Int)) ∧ U.cell? ⟨bk, j * 3, none⟩ = some (.int .i64 d.1) ∧ U.cell? ⟨bk, j * 3 + 1, none⟩ = some (.int .u64 (d.2.1 : Int)) ∧ U.cell? ⟨bk, j * 3 + 2, none⟩ = some (.int .u64 (d.2.2 : Int))) ∧ Below wr.heap.size wr U) (first | exact hS.out _ hb8.out | exact hS.out _ (Below.refl _ _).drew) (first | (go_at_call 23; refine (hle _).mono ?_; rintro e w8 ⟨rfl, hb8'⟩; have hb8 := hid (below_call (Below.refl wr.heap.size wr).drew hb8')))
          go_wp2
          exact ⟨⟨j + 1, by omega, by go_num, below_call HB7.out hb8.out⟩, by simp [intOf]; omega⟩
        · have HB7 := hid hB7
          clear hB7
          go_wp2_with (first | (go_at_call 20; refine (tb_len (HT6.out.later HB7.out)).mono ?_; rintro e w11 ⟨rfl, hw11⟩; obtain rfl := hw11.symm))
          go_ret
          exact ⟨ret_bool (by simp), below_call HB6.out HB7.out⟩
end Go.Proofs.Ytdkadmnhfnilkaa
