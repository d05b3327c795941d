import Derived.Test.YtpajmpfdaihehaaE2
namespace Go.Proofs.Ytpajmpfdaihehaa
open Go.RowKit
set_option linter.unusedVariables false

/-- A number by its rest, never below nought. -/
theorem rest_pos (x : Int) (t : Nat) (ht : 0 < t) : ∃ m : Nat, m < t ∧ (x.tmod (t : Int) + (t : Int)).tmod (t : Int) = (m : Int) ∧ 0 < x.tmod (t : Int) + (t : Int) ∧ x.tmod (t : Int) + (t : Int) < 2 * (t : Int) := by
  have t1 : -(t : Int) < x.tmod t := Int.lt_tmod_of_pos x (by omega)
  have t2 : x.tmod t < t := Int.tmod_lt_of_pos x (by omega)
  have t3 : 0 ≤ (x.tmod (t : Int) + (t : Int)).tmod (t : Int) := Int.tmod_nonneg _ (by omega)
  have t4 : (x.tmod (t : Int) + (t : Int)).tmod (t : Int) < t := Int.tmod_lt_of_pos _ (by omega)
  exact ⟨((x.tmod (t : Int) + (t : Int)).tmod (t : Int)).toNat, by omega, by omega, by omega, by omega⟩
theorem wrap_small {x : Int} (h1 : -9223372036854775808 ≤ x) (h2 : x < 9223372036854775808) : IntKind.i64.wrap x = x := by rw [IntKind.wrap_i64]; omega
def StepRel (w : World) (k : Nat) (t : Value) (w' : World) : Prop := ∃ i : Nat, i ≤ k ∧ t = .int .i64 (i : Int) ∧ Below w.heap.size w w'
def CutRel (w : World) (g gb m : Nat) (l : Fo) (n : Int) (t : Value) (w' : World) : Prop := ∃ i : Nat, i ≤ (Fl l n).length ∧ t = .int .i64 (i : Int) ∧ Ki w' g gb m (cuts l ((Fl l n).take i)) ∧ But (· = gb) w w'
/-- What is said of the i-th of a subtree. -/
theorem down_facts {m : Nat} {l : Fo} (h : Ok m l) {n : Int} {i : Nat} (hi : i < (G true l n).length) :
    ∃ x p, (G true l n)[i]? = some x ∧ (x, p) ∈ l ∧ x ∈ Fl l n ∧ x ∉ (G true l n).take i ∧ (i = 0 → x = n) ∧ (0 < i → p ∈ (G true l n).take i) ∧ n ∈ U l x := by
  obtain ⟨x, hx⟩ := get_some hi
  have hm := List.mem_of_getElem? hx
  obtain ⟨p, hp⟩ := mem_nums.1 (G_nums h hm)
  refine ⟨x, p, hx, hp, (mem_Fl h).2 hm, fun ht => ?_, fun h0 => ?_, fun h0 => ?_, (mem_G_iff h).1 hm⟩
  · obtain ⟨j, hj⟩ := List.getElem?_of_mem ht
    rw [List.getElem?_take] at hj
    split at hj
    · next hji =>
      have := nd_idx (G_nodup h true n) hj hx
      omega
    · cases hj
  · subst h0
    have hn : n ∈ nums l := Classical.byContradiction fun hn => by rw [G_out hn] at hx; simp at hx
    rw [G_eq h hn] at hx
    simp at hx
    exact hx.symm
  · have := G_behind h h0 hx
    rwa [par_eq h hp] at this
theorem cuts_gone {m : Nat} {l : Fo} (h : Ok m l) (n : Int) : n ∉ nums (cuts l (Fl l n)) := fun hn => by
  obtain ⟨h1, h2⟩ := nums_cuts.1 hn
  exact h2 ((mem_Fl h).2 (G_self h h1))
theorem Row.cut {w : World} {a : Option Addr} {n cap : Nat} {A : List Int} (h : Row w a n cap (ints A)) {i : Nat} (hi : i ≤ n) (ha : 0 < n) : Row w a i cap (ints (A.take i)) := by
  have := h.sub (m := i) (c := cap) hi (Nat.le_trans hi h.cap_) (fun e => by have := h.none_ e; omega)
  rwa [show (ints A).take i = ints (A.take i) by simp [ints, List.map_take]] at this
theorem downs_G {w : World} {g gb m : Nat} {l : Fo} (h : Ki w g gb m l) (n : Int) :
    Calls Try.prog 9 #[.pointer (some ⟨g, 0, none⟩), .int .i64 n] w fun e w' => ∃ a c, e = .returned (.tuple #[.slice a (G true l n).length c, .bool true]) ∧ Row w' a (G true l n).length c (ints (G true l n)) ∧ (∀ k, Blk a k → w.heap.size ≤ k) ∧ Below w.heap.size w w' := by
  refine (downs_any h n).mono ?_
  rintro e w' ⟨a, k, c, rfl, hO, hb⟩
  have hl := hO.len
  rw [ints_length] at hl
  subst hl
  exact ⟨a, c, rfl, hO.read, hO.blk, hb⟩
theorem ups_U {w : World} {g gb m : Nat} {l : Fo} (h : Ki w g gb m l) (n : Int) :
    Calls Try.prog 14 #[.pointer (some ⟨g, 0, none⟩), .int .i64 n] w fun e w' => ∃ a c, e = .returned (.tuple #[.slice a (U l n).length c, .bool true]) ∧ Row w' a (U l n).length c (ints (U l n)) ∧ (∀ k, Blk a k → w.heap.size ≤ k) ∧ Below w.heap.size w w' := by
  refine (ups_any h n).mono ?_
  rintro e w' ⟨a, k, c, rfl, hO, hb⟩
  have hl := hO.len
  rw [ints_length] at hl
  subst hl
  exact ⟨a, c, rfl, hO.read, hO.blk, hb⟩
theorem fall_F {w : World} {g gb m : Nat} {l : Fo} (h : Ki w g gb m l) (n : Int) :
    Calls Try.prog 10 #[.pointer (some ⟨g, 0, none⟩), .int .i64 n] w fun e w' => ∃ a c, e = .returned (.slice a (Fl l n).length c) ∧ Own w' w.heap.size 3 a (Fl l n).length c (ints (Fl l n)) ∧ Below w.heap.size w w' := by
  refine (fall_any h n).mono ?_
  rintro e w' ⟨a, k, c, rfl, hO, hb⟩
  have hl := hO.len
  rw [ints_length] at hl
  subst hl
  exact ⟨a, c, rfl, hO, hb⟩
theorem has_len {w : World} {g gb m : Nat} {l : Fo} (h : Ki w g gb m l) (n : Int) :
    Calls Try.prog 11 #[.pointer (some ⟨g, 0, none⟩), .int .i64 n] w fun e w' => e = .returned (.bool (decide (0 < (G true l n).length))) ∧ w' = w := by
  have hh := has_any h n
  rwa [show decide (n ∈ nums l) = decide (0 < (G true l n).length) from by
    by_cases hn : n ∈ nums l
    · rw [decide_eq_true hn, G_eq h.ok hn]; simp
    · rw [decide_eq_false hn, G_out hn]; simp] at hh
set_option maxRecDepth 100000 in
set_option maxHeartbeats 4000000 in
theorem relates_law (x0 : Int) (a : Option Addr) (k0 cap : Nat) (f : Nat → Op3) (n : Int) (w : World) (hS : Ss w a k0 f) (hk : k0 ≤ 9223372036854775807) :
    Calls Try.prog 3 #[.int .i64 x0, .slice a k0 cap, .int .i64 n] w fun e w' => e = .returned (.bool true) ∧ Below w.heap.size w w' := by
  obtain ⟨m, hm, hmv, hm1, hm2⟩ := rest_pos x0 100 (by omega)
  simp only [Int.cast_ofNat_Int] at hmv hm1 hm2
  have hwr : IntKind.i64.wrap (x0.tmod 100 + 100) = x0.tmod 100 + 100 := wrap_small (by omega) (by omega)
  have HF := hid (forest_any m (by omega) a k0 cap f w hS hk)
  generalize playL m f k0 = l at HF
  clear hS
  go_enter Try.func3, Try.ntmps3
  go_upto_region 2 with fail
  clear hmv hm1 hm2 hwr
  go_upto_region 7 with (first | (go_at_call 7; refine HF.out.mono ?_; rintro e w1 ⟨g, gb, r, rfl, hD, hB1, hg, hgb, _⟩; have HK1 := hid hD.ki; have HB1 := hid hB1; clear hD hB1 HF) | (go_at_call 8; refine (alive_any _).mono ?_; rintro e w2 ⟨rfl, hb2⟩; have HK2 := hid (HK1.out.later hb2); have HB2 := hid (below_call HB1.out hb2); have HOK := hid HK1.out.ok; clear hb2 HK1 HB1) | (go_at_call 9; refine (downs_G HK2.out n).mono ?_; rintro e w3 ⟨a3, c3, rfl, hR3, _, hb3⟩; have HR3 := hid hR3; have HK3 := hid (HK2.out.later hb3); have HB3 := hid (below_call HB2.out hb3); clear hR3 hb3 HK2 HB2) | (go_at_call 10; refine (fall_F HK3.out n).mono ?_; rintro e w4 ⟨a4, c4, rfl, hO4, hb4⟩; have HO4 := hid hO4; have hgb3 := HK3.out.lt; have HR4 := hid (HR3.out.later hb4); have HK4 := hid (HK3.out.later hb4); have HB4 := hid (below_call HB3.out hb4); clear hO4 hb4 HK3 HB3 HR3))
  have hl34 := Fl_len HOK.out n
  have hhas := has_len HK4.out n
  have HFA := hid (fun i => @down_facts m l HOK.out n i)
  have hkm : (G true l n).length ≤ m := G_len HOK.out true n
  rw [hl34]
  obtain ⟨kk, hkk⟩ : ∃ kk, kk = (G true l n).length := ⟨_, rfl⟩
  have HKK := hid hkk
  rw [← hkk] at hhas hkm ⊢
  have HR5 := HR4
  rw [← hkk] at HR5
  have HO5 : Hid (Own w4 w3.heap.size 3 a4 kk c4 (ints (Fl l n))) := hid (by rw [hkk, ← hl34]; exact HO4.out)
  clear HR4 HO4 hl34 hkk
  go_upto_region 10 with (first | (go_at_call 11; refine hhas.mono ?_; rintro e w9 ⟨rfl, rfl⟩))
  clear hhas
  go_loopw [13] (StepRel w9 kk) (fun t _ => kk - (intOf t).toNat)
  case atStart => exact ⟨0, Nat.zero_le _, rfl, Below.refl _ _⟩
  case round =>
    obtain ⟨i, hi, rfl, hB⟩ := hrel
    have HB := hid hB
    have HK6 := hid (HK4.out.later hB)
    have HR6 := hid (HR5.out.later hB)
    have HF6 := hid (HO5.out.read.later hB)
    clear hB
    by_cases hlt : i < kk
    · obtain ⟨x, p, hx, hp, hxF, hxA, h0, h1, hU⟩ := HFA.out i (by rw [← HKK.out]; exact hlt)
      have hM1 := fun W (hb : Below wr.heap.size wr W) => among_any a4 kk c4 (Fl l n) x W (HF6.out.later hb) (by omega)
      have hM2 := fun W (hb : Below wr.heap.size wr W) => among_any a3 i c3 ((G true l n).take i) x W ((HR6.out.cut hi (by omega)).later hb) (by omega)
      rw [decide_eq_true hxF] at hM1
      rw [decide_eq_false hxA] at hM2
      obtain ⟨b3, o3, rfl, hc⟩ := HR6.out.plain (by omega)
      have y := hc i (.int .i64 x) (by simp [ints, hx])
      have hcap : i ≤ c3 := by have := HR6.out.cap_; omega
      have HM1 := hid hM1
      have HM2 := hid hM2
      clear hM1 hM2 hxF hxA hc HFA
      go_upto_region 12 with fail
      go_quiet (first | (go_at_call_of 12 (Value.slice a4 kk c4); refine Calls.quiet_of_same (HM1.out _ (below_drewN (Below.refl _ _) _))) | (go_at_call 12; refine Calls.quiet_of_same (HM2.out _ (below_drewN (Below.refl _ _) _))))
      have hbd : Below wr.heap.size wr (wr.drewN nq) := below_drewN (Below.refl _ _) nq
      generalize wr.drewN nq = w10 at hbd ⊢
      have HB10 := hid (HB.out.trans (hbd.mono HB.out.size))
      have HK10 := hid (HK6.out.later hbd)
      have HM3 := hid (fun W (hb : Below w10.heap.size w10 W) => among_any (some ⟨b3, o3, none⟩) i c3 ((G true l n).take i) p W ((HR6.out.cut hi (by omega)).later (hbd.trans (hb.mono hbd.size))) (by omega))
      have HY := hid (fun W (hb : Below w10.heap.size w10 W) => cell_later hb (cell_later hbd y))
      have y10 := HY.out _ (Below.refl _ _)
      have hpa := parent_any HK10.out x
      rw [show parV l x = .tuple #[.int .i64 p, .bool true] by unfold parV; rw [find_in HOK.out hp]] at hpa
      have HU := hid hU
      have H0 := hid h0
      have H1 := hid h1
      clear hbd y HM1 HM2 hU h0 h1 hx hp HK6
      go_upto_region 15 with (first | (go_at_call 13; refine hpa.mono ?_; rintro e w11 ⟨rfl, h11⟩; subst h11))
      clear hpa
      go_cut [120] from 96 to 119 (fun s w' => s = .bool false ∧ w11 = w')
      case first =>
        rcases Nat.eq_zero_or_pos i with hi0 | hi0
        · subst hi0
          rw [Nat.add_zero] at y10
          obtain rfl := H0.out rfl
          clear H0 H1 HM3 HY
          go_wp2
          go_meet
          exact ⟨rfl, rfl⟩
        · have hM := HM3.out _ (Below.refl _ _)
          rw [decide_eq_true (H1.out hi0)] at hM
          have hne : ((i : Int) == 0) = false := by simp; omega
          have hgt : (0 : Int) < (i : Int) := by omega
          clear H0 H1 HM3 HY
          go_wp2_with (first | (go_at_call 12; refine hM.mono ?_; rintro e w12 ⟨rfl, h12⟩; subst h12))
          go_meet
          exact ⟨rfl, rfl⟩
      case rest =>
        obtain ⟨rfl, rfl⟩ := hcut
        clear H0 H1 HM3
        go_upto_region 18 with (first | (go_at_call 14; refine (ups_U HK10.out x).mono ?_; rintro e w12 ⟨a12, c12, rfl, hR12, _, hb12⟩; have HR12 := hid hR12; have HB12 := hid (HB10.out.trans (hb12.mono HB10.out.size)); have HK12 := hid (HK10.out.later hb12); have y12 := HY.out _ hb12; have HM4 := hid (fun W (hb : Below w12.heap.size w12 W) (q : Int) => among_any a12 _ c12 (U l x) q W (hR12.later hb) (by have := U_len HOK.out x; omega)); clear hR12 hb12))
        have hM := HM4.out _ (Below.refl _ _) n
        rw [decide_eq_true HU.out] at hM
        clear HY y10 HK10
        go_upto_region 21 with (first | (go_at_call 12; refine hM.mono ?_; rintro e w13 ⟨rfl, h13⟩; subst h13))
        clear hM
        go_loopw [18] (StepRel w13 m) (fun t _ => m - (intOf t).toNat)
        case atStart => exact ⟨0, Nat.zero_le _, rfl, Below.refl _ _⟩
        case round =>
          obtain ⟨k, hk2, rfl, hB2⟩ := hrel
          by_cases hkm2 : k < m
          · have hun := under_any (HK12.out.later hB2) (k : Int) x
            have HMk := hid (fun W (hb : Below w13.heap.size w13 W) => HM4.out W hb (k : Int))
            have y13 := cell_later hB2 y12
            have HB13 := hid hB2
            generalize decide ((k : Int) ∈ U l x) = bb at hun HMk
            clear hB2 y12
            have hbb : (bb != bb) = false := by cases bb <;> rfl
            go_wp2_with (first | (go_at_call 15; refine hun.mono ?_; rintro e w14 ⟨rfl, hb14⟩; have HB14 := hid (HB13.out.trans (hb14.mono HB13.out.size)); clear hb14 hun) | (go_at_call 12; refine (HMk.out _ HB14.out).mono ?_; rintro e w15 ⟨rfl, h15⟩; subst h15))
            go_roundw
            case rel => exact ⟨k + 1, by omega, by go_num, HB14.out⟩
            case measure => simp [intOf]; omega
          · obtain rfl : k = m := by omega
            have HBE := hid (HB12.out.trans (hB2.mono HB12.out.size))
            clear hB2 y12
            go_wp2
            go_roundw
            case rel => exact ⟨i + 1, by omega, by go_num, HBE.out⟩
            case measure => simp [intOf]; omega
    · obtain rfl : i = kk := by omega
      have HO6 := hid (HO5.out.later HB.out)
      have HB6 := hid (below_call HB4.out HB.out)
      have hFl : (Fl l n).length = i := by rw [Fl_len HOK.out n]; exact HKK.out.symm
      have HFL := hid hFl
      clear HR6 HF6 HR5 HK4 HFA HB
      go_upto_region 26 with fail
      go_loopw [19] (CutRel wr g gb m l n) (fun t _ => i - (intOf t).toNat)
      case atStart => exact ⟨0, Nat.zero_le _, rfl, by rw [List.take_zero, cuts_nil]; exact HK6.out, But.refl _ _⟩
      case round =>
        obtain ⟨j, hj, rfl, hK, hB⟩ := hrel
        rw [HFL.out] at hj
        have hO7 := HO6.out.but hB (fun k hk e => by have := HO6.out.blk k hk; omega)
        have HB7 := hid (But.below HB6.out hB (fun k hk => by rw [hk]; exact hgb))
        by_cases hlt2 : j < i
        · obtain ⟨x, hx⟩ := get_some (L := Fl l n) (i := j) (by rw [HFL.out]; exact hlt2)
          obtain ⟨s1, s2, s3⟩ := fall_step HOK.out hx
          have hc := cut_any hK x
          rw [show cutE (cuts l ((Fl l n).take j)) x = 0 by unfold cutE; rw [if_pos s1, if_pos s2], show cutL (cuts l ((Fl l n).take j)) x = cuts l ((Fl l n).take (j + 1)) by unfold cutL; rw [if_pos ⟨s1, s2⟩, s3]] at hc
          have hno : decide (x ∈ nums (cuts l ((Fl l n).take (j + 1)))) = false := decide_eq_false (fun hh => (nums_cuts.1 hh).2 (by rw [List.take_succ_eq_append_getElem (by rw [HFL.out]; exact hlt2)]; have := (List.getElem?_eq_some_iff.1 hx).2; rw [this]; simp))
          obtain ⟨b4, rfl⟩ := hO7.form (by omega)
          obtain ⟨_, e4, hL4⟩ := hO7.lies rfl (j := j) (u := .int .i64 x) (by simp [ints, hx])
          cases e4
          have y := hL4.1
          have hb4 : b4 ≠ gb := fun e => by have := hO7.blk b4 ⟨_, rfl, rfl⟩; omega
          have HB8 := hid hB
          obtain ⟨l2, hl2⟩ : ∃ l2, l2 = cuts l ((Fl l n).take (j + 1)) := ⟨_, rfl⟩
          have HL2 := hid hl2
          rw [← hl2] at hc hno
          have HC := hid hc
          have HNO := hid hno
          clear hc hno hl2 hK hB hO7 hL4 s1 s2 s3 hx
          go_wp2_with (first | (go_at_call 17; refine HC.out.mono ?_; rintro e w15 ⟨rfl, hK15, hB15⟩; have y15 := cell_but hB15 y hb4; have hno15 := has_any hK15 x; rw [HNO.out] at hno15; have HK15 := hid hK15; have HB15 := hid (HB8.out.trans hB15); clear hK15 hB15) | (go_at_call 16; refine (num_any _ _).mono ?_; rintro e w16 ⟨rfl, h16⟩; subst h16) | (go_at_call 11; refine hno15.mono ?_; rintro e w17 ⟨rfl, h17⟩; subst h17))
          go_roundw
          case rel => exact ⟨j + 1, by rw [HFL.out]; omega, by go_num, by rw [← HL2.out]; exact HK15.out, HB15.out⟩
          case measure => simp [intOf]; omega
        · obtain rfl : j = i := by omega
          rw [List.take_of_length_le (by rw [HFL.out]; exact Nat.le_refl _)] at hK
          have hg2 := cuts_gone HOK.out n
          generalize cuts l (Fl l n) = l2 at hK hg2
          have HD := hid (fun (W : World) (hk : Ki W g gb m l2) => downs_G hk n)
          have HFF := hid (fun (W : World) (hk : Ki W g gb m l2) => fall_F hk n)
          have HU := hid (fun (W : World) (hk : Ki W g gb m l2) => under_any hk n n)
          rw [G_out hg2] at HD
          rw [Fl_out hg2] at HFF
          rw [U_out hg2] at HU
          simp only [List.length_nil, List.not_mem_nil, decide_false] at HD HFF HU
          have HK8 := hid hK
          clear hK hB hO7 hg2 hlt hlt2
          go_wp2_with (first | (go_at_call 9; refine (HD.out _ HK8.out).mono ?_; rintro e w15 ⟨a15, c15, rfl, _, _, hb15⟩; have HK15 := hid (HK8.out.later hb15); have HB15 := hid (below_call HB7.out hb15); clear hb15) | (go_at_call 10; refine (HFF.out _ HK15.out).mono ?_; rintro e w16 ⟨a16, c16, rfl, _, hb16⟩; have HK16 := hid (HK15.out.later hb16); have HB16 := hid (below_call HB15.out hb16); clear hb16) | (go_at_call 15; refine (HU.out _ HK16.out).mono ?_; rintro e w17 ⟨rfl, hb17⟩; have HB17 := hid (below_call HB16.out hb17); clear hb17))
          go_ret
          exact ⟨rfl, HB17.out⟩
end Go.Proofs.Ytpajmpfdaihehaa
