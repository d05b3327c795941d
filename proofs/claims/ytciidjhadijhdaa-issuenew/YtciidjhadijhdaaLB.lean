import Derived.Test.YtciidjhadijhdaaJB
namespace Go.Proofs.Ytciidjhadijhdaa.D
open Go.RowKit
open Go.Proofs.Ytciidjhadijhdaa.H (B64)
set_option linter.unusedVariables false

def N1RelB (w0 : World) (g gb n : Nat) (c : Nat → Nat) (t q : Nat) (x : Option Addr) (m mc : Nat) (u : Nat → Nat) (rb : Nat) (rm : Nat → Nat) (bx : Nat) (r0 r1 : Int) (v : Value) (w' : World) : Prop :=
  ∃ i : Nat, i ≤ q ∧ v = .int .i64 (i : Int) ∧ Hid (Nw w0 w' g gb n c (t + i) x m mc u rb rm) ∧ Hid (Box w' bx r0 r1)
def N2RelB (wz : World) (m : Nat) (v : Value) (w' : World) : Prop := ∃ i : Nat, i ≤ m ∧ v = .int .i64 (i : Int) ∧ Hid (Below wz.heap.size wz w')
set_option maxRecDepth 100000 in
set_option maxHeartbeats 8000000 in
theorem new_B (a x : Option Addr) (n0 cap m mc : Nat) (f u : Nat → Nat) (v z : Int) (w : World) (hl : Ws w a n0 cap f) (hu : Ws w x m mc u) (hm : (m + 2) * 16 ≤ 140737488355328) (hold : 0 < m → ∀ y, x = some y → y.block < w.heap.size)
    (hcd : (drawR (hasW u m) (cutF f (wid v)) (min n0 500) 9 (att z (min n0 500))).2.1 = 11) :
    Calls Try.prog 3 #[.slice a n0 cap, .int .i64 v, .int .i64 z, .slice x m mc] w fun e w' => e = .returned (.bool true) ∧ Below w.heap.size w w' := by
  obtain ⟨W, hW, hW1, hW2⟩ := width_in v
  have t1 : -128 < v.tmod 128 := Int.lt_tmod_of_pos v (by omega)
  have t2 : v.tmod 128 < 128 := Int.tmod_lt_of_pos v (by omega)
  obtain ⟨n, hn, hR1, hcase⟩ := first_n hl 500 (by omega)
  have hnn : min n0 500 = n := by omega
  have hwid : wid v = W := hW
  rw [hnn, hwid] at hcd
  have HCD := hid hcd
  have HR : Hid (Ws w a n cap f) := hR1
  have HP : Hid (Ws w a n0 cap f) := hl
  have HU := hid hu
  have HOL := hid hold
  clear hR1 hl hu hold hcd hnn hwid
  go_enter Try.func3, Try.ntmps3
  go_upto_if 32 with fail
  clear hW t1 t2
  go_cut [0] (fun s w' => s = .slice a n cap ∧ w = w')
  case first =>
    rcases hcase with ⟨h1, rfl⟩ | ⟨h1, rfl⟩
    · go_wp2
      go_meet
      case rel => exact ⟨rfl, rfl⟩
    · obtain ⟨b, o, rfl, _⟩ := HP.out.plain (by omega)
      have hcp := HP.out.cap_
      go_wp2
      go_meet
      case rel => exact ⟨rfl, rfl⟩
  case rest =>
    clear HP hcase
    obtain ⟨rfl, rfl⟩ := hcut
    have hnw := hid (D.new_ok a n cap f W w HR.out hW1 hW2 (by omega))
    go_upto_region 5 with (first | (go_at_call 6; refine hnw.out.mono ?_; rintro e w1 ⟨g, gb, rfl, hD, hg1, hg2, hg3, hB1⟩; have HD := hid hD; have HB1 := hid hB1; clear hD hB1))
    go_upto_region 7 with (first | (go_at_call 7; refine (known_any _).mono ?_; rintro e w2 ⟨rfl, hB2⟩; have HD2 := hid (HD.out.later hB2); have HB2 := hid (below_call HB1.out hB2); clear hB2))
    have hglt : g < w2.heap.size := HD2.out.lt
    have hgb2 : Hid (0 < n → gb < w2.heap.size) := fun h0 => HD2.out.lt2 h0
    have hsz2 := HB2.out.size
    clear hnw HD HB1
    obtain ⟨ht, hat, at1, at2⟩ := at_in z n hn
    obtain ⟨t, htt⟩ : ∃ t, t = att z n := ⟨_, rfl⟩
    rw [← htt] at ht hat HCD
    clear htt
    obtain ⟨c, hc⟩ : ∃ c, c = cutF f W := ⟨_, rfl⟩
    have HCS : Hid (∀ i, i < n → c i < B64 * B64) := by rw [hc]; exact cutF_sm HR.out.small W n
    have HD3 : Hid (Dr w2 g gb n c 0) := by rw [hc]; exact HD2.out
    rw [← hc] at HCD
    clear hc HD2
    go_upto_region 8 with fail
    clear hat at1 at2
    have hsk := hid (skip_ok g gb n c 0 t w2 HD3.out ht)
    go_upto_region 9 with (first | (go_at_call 8; refine hsk.out.mono ?_; rintro e w3 ⟨rfl, hD4, hB4⟩; have HD4 := hid hD4; have HB3 := hid (below_but HB2.out hB4 hg1); have hsz3 := hB4.size; clear hD4 hB4))
    have HU3 := hid (HU.out.later HB3.out)
    obtain ⟨g1, c1, w4, hrun1, hown1, hb4⟩ := copy_run HU3.out (by omega) _ rfl
    obtain ⟨rb, rc, w5, hrun2, hA, hrb, hrc, hb5⟩ := room_run hown1 hm hb4.size _ rfl
    have hsz5 : w3.heap.size ≤ w5.heap.size := Nat.le_trans hb4.size hb5.size
    have HB35 : Hid (Below w3.heap.size w3 w5) := hb4.trans hb5
    have HN5 : Hid (Nw w w5 g gb n c t x m mc u rb (room u m)) := ⟨HD4.out.later HB35.out, hA, HU3.out.later HB35.out, by omega, fun h0 => by have := hgb2.out h0; omega, fun h0 y hy => by have := HOL.out h0 y hy; exact ⟨by omega, by omega⟩, hg1, by omega, HB3.out.trans (HB35.out.mono HB3.out.size)⟩
    have HRS : Hid (∀ i, room u m i < B64 * B64) := room_small HU.out.small m
    have HRUN1 := hid hrun1
    have HRUN2 := hid hrun2
    have hlr := hA.lt
    clear hrun1 hrun2 hown1 hb4 hb5 hA HD3 HD4 HU3 HB35 HB2 hsk
    go_upto_region 10 with (first | (at_builtin; have hq_ := MK1; clear hq_; refine wpList_append_known rfl _ _ 22 rfl _ _ rfl rfl _ _ HRUN2.out ?_) | (at_builtin; refine wpList_append_known rfl _ _ 22 rfl _ _ rfl rfl _ _ HRUN1.out ?_; obtain ⟨MK1, _⟩ : ∃ m : Nat, m = 0 := ⟨0, rfl⟩))
    clear HRUN1 HRUN2 HR
    have hdr : Hid (∀ V, Nw w V g gb n c t x m mc u rb (room u m) → _) := fun V hV => hV.draw HCS.out HRS.out hm rc (by omega)
    have hPP : hasW (room u m) m = hasW u m := funext fun N => hasW_congr (fun i hi => room_lt u m i hi)
    rw [hPP] at hdr
    obtain ⟨R, hRR⟩ : ∃ R, R = drawR (hasW u m) c n 9 t := ⟨_, rfl⟩
    have hspec := drawR_spec (P := hasW u m) (c := c) (n := n) (k := 9) (t := t) ht
    have hsm := drawR_small (P := hasW u m) HCS.out (k := 9) (t := t)
    rw [← hRR] at hdr HCD hspec hsm
    have hcd := HCD.out
    clear hRR hPP HCD
    obtain ⟨q, hq1, hq9, hqn, hsp⟩ := hspec
    have hrc2 : (m : Int) ≤ (rc : Int) := by omega
    have hsq : R.1 = 0 ∧ t + q = n ∧ q < 9 ∧ ∀ j, j < q → hasW u m (c (t + j)) = true := by
      rcases hsp with ⟨h, _⟩ | ⟨_, h⟩ | ⟨h, _⟩
      · rw [hcd] at h; exact absurd h (by decide)
      · exact h
      · rw [hcd] at h; exact absurd h (by decide)
    clear hsp
    obtain ⟨N, cd, tt⟩ := R
    simp only at hdr hcd hsm hq1 hsq
    subst hcd
    subst hq1
    obtain ⟨hN0, hqe, hq8, hall⟩ := hsq
    have HQE := hid hqe
    have HALL := hid hall
    subst hN0
    rw [hiI_zero, loI_zero] at hdr
    clear hall hqe
    go_upto_region 11 with (first | (go_at_call 9; refine (hdr.out _ HN5.out).mono ?_; rintro e w6 ⟨rfl, hN6, hB6⟩; have HN6 := hid hN6; have hsz6 := hB6.size; clear hN6 hB6))
    obtain ⟨w7, hw7⟩ : ∃ w7, w7 = w6.alloc (.cells #[.int .u64 0, .int .u64 0] 31) := ⟨_, rfl⟩
    have hb7 : Below w6.heap.size w6 w7 := by rw [hw7]; exact below1 _ _
    have HN7 := hid (HN6.out.later hb7)
    have HX7 : Hid (Box w7 w6.heap.size 0 0) := by rw [hw7]; exact Box.new w6 _ _
    rw [← hw7]
    clear hw7 hb7 HN6 HN5
    have htk := hid (taken_any g gb n c (t + q) w7 HN7.out.d)
    go_upto_region 12 with (first | (go_at_call 10; refine htk.out.mono ?_; rintro e v9 ⟨rfl, hv9⟩; obtain rfl := hv9.symm; clear hv9))
    clear htk
    have hqi : ((t + q : Nat) : Int) - (t : Int) = (q : Int) := by omega
    have hqj : (t : Int) + (q : Int) - (t : Int) = (q : Int) := by omega
    try rw [hqi]
    try rw [hqj]
    obtain ⟨y0, y1⟩ := HN7.out.r.at_ m (by omega)
    obtain ⟨y2, y3⟩ := HN7.out.r.at_ (m + 1) (by omega)
    rw [room_71] at y0 y1
    rw [room_72] at y2 y3
    rw [show hiI (71 * B64) = 71 from rfl] at y0
    rw [show loI (71 * B64) = 0 from rfl] at y1
    rw [show hiI (72 * B64) = 72 from rfl] at y2
    rw [show loI (72 * B64) = 0 from rfl] at y3
    have hq71 := fun V => wNe_same 71 0 V
    have hq72 := fun V => wNe_same 72 0 V
    go_upto_region 14 with fail
    clear y0 y1 y2 y3 hq71 hq72
    go_upto_region 15 with (first | (go_at_call 8; refine (HN7.out.skip t ht).mono ?_; rintro e w8 ⟨rfl, hN8, hB8⟩; have HN8 := hid hN8; have HX8 := hid (HX7.out.but hB8 (by show ¬ (w6.heap.size = g); omega)); clear hN8 hB8))
    clear HN7 HX7
    go_upto_region 16 with fail
    go_loopw [15] (N1RelB w g gb n c t q x m mc u rb (room u m) w6.heap.size 0 0) (fun v _ => q - (intOf v).toNat)
    case atStart => exact ⟨0, Nat.zero_le _, rfl, HN8, HX8⟩
    case round =>
      obtain ⟨i, hi, rfl, hN, hX⟩ := hrel
      by_cases hlt : i < q
      · have hdo := hid (hN.out.one (by omega))
        have hcs := HCS.out (t + i) (by omega)
        have hP := HALL.out i (by omega)
        generalize c (t + i) = M at *
        go_upto_region 19 with (first | (go_at_call 11; refine hdo.out.mono ?_; rintro e w9 ⟨rfl, hN9, hB9⟩; have HN9 := hid hN9; have HX9 := hid (hX.out.but hB9 (by show ¬ (w6.heap.size = g); omega)); clear hN9 hB9))
        obtain ⟨wa, hwa⟩ : ∃ wa, wa = w9.alloc (.cells #[.int .u64 (hiI M), .int .u64 (loI M)] 31) := ⟨_, rfl⟩
        have hba : Below w9.heap.size w9 wa := by rw [hwa]; exact below1 _ _
        have HNa := hid (HN9.out.later hba)
        have HXa := hid (HX9.out.later hba)
        have HYa : Hid (Box wa w9.heap.size (hiI M) (loI M)) := by rw [hwa]; exact Box.new w9 _ _
        rw [← hwa]
        have ham := hid (among_any HNa.out.s (by omega) hcs)
        rw [hP] at ham
        obtain ⟨z0, z1⟩ := HYa.out
        clear hwa hba hdo hN hX HN9 HX9 hP
        go_upto_region 20 with fail
        go_wp2_with (first | (go_at_call 12; refine ham.out.mono ?_; rintro e wb ⟨rfl, hbb⟩; have HNb := hid (HNa.out.later hbb); have HXb := hid (HXa.out.later hbb); clear hbb))
        exact ⟨⟨i + 1, by omega, by go_num, HNb, HXb⟩, by simp [intOf]; omega⟩
      · obtain rfl : i = q := by omega
        have hlf : Hid (Calls Try.prog 13 #[.pointer (some ⟨g, 0, none⟩)] wr fun e w' => e = .returned (.int .i64 0) ∧ Below wr.heap.size wr w') := by have hq := left_any g gb n c (t + i) wr hN.out.d; rw [show n - (t + i) = 0 by have := HQE.out; omega] at hq; exact hq
        have hf1 : ((i : Int) == 9) = false := by simp; omega
        go_upto_region 23 with (first | (go_at_call 13; refine hlf.out.mono ?_; rintro e w9 ⟨rfl, hB9⟩; have HN9 := hid (hN.out.later hB9); have HX9 := hid (hX.out.later hB9); clear hB9))
        obtain ⟨x0, x1⟩ := HX9.out
        have hneq := fun V => wNe_same 0 0 V
        clear hN hX hlf
        go_upto_region 25 with fail
        go_upto_region 26 with (first | (go_at_call 8; refine (HN9.out.skip t ht).mono ?_; rintro e wa ⟨rfl, hNa, hBa⟩; have HNa := hid hNa; have HXa := hid (HX9.out.but hBa (by show ¬ (w6.heap.size = g); omega)); clear hNa hBa))
        go_upto_region 27 with (first | (go_at_call 9; refine (hdr.out _ HNa.out).mono ?_; rintro e wb ⟨rfl, hNb, hBb⟩; have HNb := hid hNb; have HXb := hid (HXa.out.but hBb (by show ¬ (w6.heap.size = g); omega)); clear hNb hBb))
        obtain ⟨wc, hwc⟩ : ∃ wc, wc = wb.alloc (.cells #[.int .u64 0, .int .u64 0] 31) := ⟨_, rfl⟩
        have hbc : Below wb.heap.size wb wc := by rw [hwc]; exact below1 _ _
        have HNc := hid (HNb.out.later hbc)
        have HXc := hid (HXb.out.later hbc)
        obtain ⟨y0, y1⟩ : Box wc wb.heap.size 0 0 := by rw [hwc]; exact Box.new wb _ _
        obtain ⟨y2, y3⟩ := HXc.out
        rw [← hwc]
        clear hwc hbc HNb HXb HNa HXa HN9 HX9 x0 x1
        go_upto_region 29 with fail
        clear y0 y1 y2 y3
        go_upto_region 30 with fail
        go_loopw [22] (N2RelB wc m) (fun v _ => m - (intOf v).toNat)
        case atStart => exact ⟨0, Nat.zero_le _, rfl, Below.refl _ _⟩
        case round =>
          obtain ⟨j, hj, rfl, hB⟩ := hrel
          by_cases hlt2 : j < m
          · have hNj := HNc.out.later hB.out
            obtain ⟨b, o, rfl, hpl⟩ := hNj.s.plain (by omega)
            obtain ⟨y0, y1⟩ := hpl j hlt2
            obtain ⟨y2, y3⟩ := hNj.r.at_ j (by omega)
            rw [room_lt u m j hlt2] at y2 y3
            generalize hiI (u j) = r0 at *
            generalize loI (u j) = r1 at *
            have hnj := fun V => wNe_same r0 r1 V
            clear hNj hpl
            go_upto_region 32 with fail
            go_quiet (fail)
            go_wp2
            exact ⟨⟨j + 1, by omega, by go_num, below_drewN hB.out _⟩, by simp [intOf]; omega⟩
          · obtain rfl : j = m := by omega
            have HBE := hid (HNc.out.later hB.out).hb
            go_wp2
            go_ret
            exact ⟨rfl, HBE.out⟩
end Go.Proofs.Ytciidjhadijhdaa.D
