import Derived.Test.YtlelglfdamakaaaG1
namespace Go.Proofs.Ytlelglfdamakaaa
open Go.RowKit H
set_option linter.unusedVariables false
set_option linter.unusedSimpArgs false
variable {w w' : World} {H : Hv} {X : List Tk} {l : Fo}

/-! ### ValidateGone -/
def u64s (L : List Nat) : List Value := L.map (fun (n : Nat) => Value.int .u64 (n : Int))
theorem u64s_get (L : List Nat) (i : Nat) (h : i < L.length) : (u64s L)[i]? = some (.int .u64 (L[i] : Int)) := by simp [u64s, h]
theorem u64s_len (L : List Nat) : (u64s L).length = L.length := by simp [u64s]
theorem Ds.plt (h : Ds w H X l) : ∀ k, H.Pw k → k < w.heap.size := fun k hk => by
  rcases hk with hk | hk
  · exact h.vt.cat.lt k (.inr (.inr hk))
  · rw [hk]; exact h.gl
def GnRel (v : World) (H : Hv) (n : Nat) (t : Value) (wr : World) : Prop :=
  ∃ (i : Nat) (X : List Tk) (l : Fo), t = .int .i64 (i : Int) ∧ i ≤ n ∧ i ≤ 12 ∧ Ds wr H X l ∧ Gn X l (1 + i) ∧ But H.Pw v wr
theorem yd19 : 1 + modN 19 20 = 20 := by decide
set_option maxRecDepth 100000 in
set_option maxHeartbeats 16000000 in
theorem gone_law (a0 a1 a2 : Int) (w : World) {a : Option Addr} {n cap : Nat} {L : List Nat} (hr : Row w a n cap (u64s L)) (hL : ∀ x ∈ L, x < B64) (hn : n ≤ 9223372036854775807) (old rights need : Int) :
    Calls Try.prog 3 #[.agg #[.int .i64 a0, .int .i64 a1, .int .i64 a2], .slice a n cap, .int .i64 old, .int .i64 rights, .int .i64 need] w fun e w' => e = .returned (.bool true) ∧ Below w.heap.size w w' := by
  obtain ⟨w0, hw0⟩ : ∃ w0, w0 = w.alloc (Obj.cells #[.int .i64 a0, .int .i64 a1, .int .i64 a2] 23) := ⟨_, rfl⟩
  have hB0 : Below w.heap.size w w0 := by rw [hw0]; exact below1 _ _
  have y0 : w0.cell? ⟨w.heap.size, 0, none⟩ = some (.int .i64 a0) := by rw [hw0]; simp [go_sem]
  have y1 : w0.cell? ⟨w.heap.size, 1, none⟩ = some (.int .i64 a1) := by rw [hw0]; simp [go_sem]
  have y2 : w0.cell? ⟨w.heap.size, 2, none⟩ = some (.int .i64 a2) := by rw [hw0]; simp [go_sem]
  have HDk := hid (desk_any 19 a0 a1 a2 w0)
  rw [yd19] at HDk
  have hln : L.length = n := by have := hr.len; rwa [u64s_len] at this
  have HRo := hid hr
  have HLw := hid hL
  have HB0 := hid hB0
  obtain ⟨o1, ho1, ho2, ho3, ho4, ho5⟩ := rests old 31 (by decide)
  obtain ⟨r1, hr1, hr2, hr3, hr4, hr5⟩ := rests rights 31 (by decide)
  obtain ⟨n1, hn1, hn2, hn3, hn4, hn5⟩ := rests need 31 (by decide)
  have HVs := hid (valid_rest old)
  have HVr := hid (valid_rest rights)
  have HVq := hid (valid_rest need)
  generalize modN old 31 = o2 at *
  generalize modN rights 31 = r2 at *
  generalize modN need 31 = n2 at *
  have HLn := hid hln
  clear hr hL hB0 hln
  go_enter Try.func3, Try.ntmps3
  go_upto_region 1 with fail
  rw [← hw0]
  clear hw0
  go_upto_region 2 with (first | (go_at_call 6; refine HDk.out.mono ?_; rintro e w1 ⟨H, rfl, hl⟩; have HLa := hid hl; clear hl))
  clear y0 y1 y2 HDk
  go_upto_region 4 with (first | (go_at_call 7; refine (alive_any _).mono ?_; rintro e w2 ⟨rfl, hb⟩; have HB2 := hid hb; clear hb))
  obtain ⟨w3, hw3⟩ : ∃ w3, w3 = w2.alloc (Obj.cells #[.int .i64 1, .int .u64 1, .int .u64 0] 32) := ⟨_, rfl⟩
  have hB3 : Below w2.heap.size w2 w3 := by rw [hw3]; exact below1 _ _
  have hcr : Cel w3 w2.heap.size 0 gr := by rw [hw3]; exact ⟨by simp [go_sem, gr], by simp [go_sem, gr], by simp [go_sem, gr]⟩
  have HMo : Hid (H.mo = 20) := HLa.out.mo_
  have HD3 : Hid (Ds w3 H (List.replicate 20 tz) []) := (HLa.out.ds.later HB2.out).later hB3
  have HLo : Hid (∀ k, H.Pw k → w.heap.size ≤ k) := fun k hk => by
    have e0 := HB0.out.size
    have := HLa.out.lo k hk.all
    omega
  have HHi : Hid (∀ k, H.Pw k → k < w2.heap.size) := fun k hk => by
    have e2 := HB2.out.size
    have := HLa.out.hi k hk.all
    omega
  have HBw : Hid (Below w.heap.size w w3) := below_call (below_call (below_call HB0.out HLa.out.be) HB2.out) hB3
  have HCr : Hid (∀ U, But H.Pw w3 U → Cel U w2.heap.size 0 gr) := fun U hU => hcr.but hU (fun e => by have := HHi.out _ e; omega)
  have HT3 : Hid (∀ U, But H.Pw w3 U → Tp U H.d H.A.g H.v H.r) := fun U hU => HD3.out.tp.own HD3.out.vt.dis hU
  have HFin : Hid (∀ U, But H.Pw w3 U → Below w.heap.size w U) := fun U hU => But.below HBw.out hU HLo.out
  have HC5 := hid (fun (U : World) (h : Ds U H (List.replicate 20 tz) []) => droot h HMo.out gr 31 (by decide))
  have HS5 : Hid (∀ U, But H.Pw w3 U → (U.cell? ⟨H.d, 0, none⟩ = some (.pointer (some ⟨H.A.g, 0, none⟩)) ∧ U.cell? ⟨w2.heap.size, 0, none⟩ = some (.int .i64 1) ∧ U.cell? ⟨w2.heap.size, 1, none⟩ = some (.int .u64 1) ∧ U.cell? ⟨w2.heap.size, 2, none⟩ = some (.int .u64 0)) ∧ But H.Pw w3 U) := fun U hU => ⟨⟨(HT3.out U hU).c0, (HCr.out U hU).c0, (HCr.out U hU).c1, (HCr.out U hU).c2⟩, hU⟩
  clear HLa HB2 HB0 hcr hB3
  go_upto_region 5 with fail
  rw [← hw3]
  clear hw3
  generalize w2.heap.size = rb at *
  unfold gr at HC5
  go_region_held3 (fun U => (U.cell? ⟨H.d, 0, none⟩ = some (.pointer (some ⟨H.A.g, 0, none⟩)) ∧ U.cell? ⟨rb, 0, none⟩ = some (.int .i64 1) ∧ U.cell? ⟨rb, 1, none⟩ = some (.int .u64 1) ∧ U.cell? ⟨rb, 2, none⟩ = some (.int .u64 0)) ∧ But H.Pw w3 U) (first | exact HS5.out _ HB5.out | exact HS5.out _ (But.of (Below.refl _ _).drew)) (first
    | (go_at_call 8; refine (HC5.out _ (HD3.out.later (Below.refl _ _).drew)).mono ?_; rintro e v0 ⟨rfl, hd, hb⟩; have HD5 := hid hd; have HB5 := hid ((But.of (S := H.Pw) (Below.refl w3.heap.size w3).drew).trans hb); clear hd hb))
  go_upto_region 10 with fail
  clear ho1 ho2 ho3 ho4 hr1 hr2 hr3 hr4 hn1 hn2 hn3 hn4
  generalize 1 + (o2 : Int) = sI at *
  generalize 1 + (r2 : Int) = rI at *
  generalize 1 + (n2 : Int) = qI at *
  obtain ⟨zs, b1, hzs, hb1, hp1⟩ := or_bits HVq.out HVs.out
  obtain ⟨zr, b2, hzr, hb2, hp2⟩ := or_bits HVq.out HVr.out
  have HPs := hid hp1
  have HPr := hid hp2
  clear hp1 hp2 ho5 hr5 hn5
  have HGs := hid gn_start
  unfold gr at HGs
  generalize (rootR 20 (List.replicate 20 tz) [] (1, 1, 0) 31).X = X0 at *
  generalize (rootR 20 (List.replicate 20 tz) [] (1, 1, 0) 31).l = l0 at *
  go_loopw [16] (GnRel w3 H n) (fun t _ => n - (intOf t).toNat)
  case atStart => exact ⟨0, X0, l0, rfl, by omega, by omega, HD5.out, HGs.out, HB5.out⟩
  case round =>
    obtain ⟨i, X, l, rfl, hi, hi12, hD, hG, hB⟩ := hrel
    have HD0 := hid hD
    have HGn := hid hG
    have HB := hid hB
    clear hD hG hB
    by_cases hlt : i < n
    · have hd : decide ((i : Int) < (n : Int)) = true := decide_eq_true (by omega)
      by_cases hl2 : i < 12
      · have hd2 : decide ((i : Int) < 12) = true := decide_eq_true (by omega)
        obtain ⟨b, o, rfl, hat⟩ := HRo.out.plain (by omega)
        have hil : i < L.length := by have := HLn.out; omega
        have hx := cell_later (HFin.out _ HB.out) (hat i _ (u64s_get L i hil))
        have HXw := hid (HLw.out _ (List.getElem_mem hil))
        have HInv : Hid (Inv 20 X l) := by have := HD0.out.vt.inv; unfold Hid; rwa [HMo.out] at this
        generalize L[i] = x at *
        clear hat hil
        obtain ⟨w4, hw4⟩ : ∃ w4, w4 = wr.alloc (Obj.cells #[.int .i64 1, .int .u64 0, .int .u64 (x : Int)] 32) := ⟨_, rfl⟩
        have hB4 : Below wr.heap.size wr w4 := by rw [hw4]; exact below1 _ _
        have hcc : Cel w4 wr.heap.size 0 (1, 0, x) := by rw [hw4]; exact ⟨by simp [go_sem], by simp [go_sem], by simp [go_sem]⟩
        have HEnd : Hid (∀ U, But H.Pw w4 U → But H.Pw w3 U) := fun U hU => (HB.out.call hB4).trans hU
        have HS0 : Hid (∀ U, But H.Pw w4 U → Cel U wr.heap.size 0 (1, 0, x)) := fun U hU => hcc.but hU (fun e => by have := HD0.out.plt _ e; omega)
        have HD := hid (HD0.out.later hB4)
        have HR4 : Hid (But H.Pw w4 w4) := But.refl _ _
        clear hB4 hcc
        go_upto_region 13 with fail
        rw [← hw4]
        clear hw4 hx
        generalize wr.heap.size = cb at *
        have HS : Hid (∀ U, But H.Pw w4 U → (U.cell? ⟨H.d, 0, none⟩ = some (.pointer (some ⟨H.A.g, 0, none⟩)) ∧ U.cell? ⟨H.d, 1, none⟩ = some (.pointer (some ⟨H.v, 0, none⟩)) ∧ U.cell? ⟨cb, 0, none⟩ = some (.int .i64 1) ∧ U.cell? ⟨cb, 1, none⟩ = some (.int .u64 0) ∧ U.cell? ⟨cb, 2, none⟩ = some (.int .u64 (x : Int)) ∧ U.cell? ⟨rb, 0, none⟩ = some (.int .i64 1) ∧ U.cell? ⟨rb, 1, none⟩ = some (.int .u64 1) ∧ U.cell? ⟨rb, 2, none⟩ = some (.int .u64 0)) ∧ But H.Pw w4 U) := fun U hU => by
          have h1 := HT3.out U (HEnd.out U hU)
          have h2 := HS0.out U hU
          have h3 := HCr.out U (HEnd.out U hU)
          exact ⟨⟨h1.c0, h1.c1, h2.c0, h2.c1, h2.c2, h3.c0, h3.c1, h3.c2⟩, hU⟩
        have HCf := hid (fun (U : World) (h : Ds U H X l) => vfind h.vt (1, 0, x) ⟨show (0 : Nat) < B64 by decide, HXw.out⟩)
        cases hcc : hasC X l (1, 0, x) with
        | true =>
          rw [hcc] at HCf
          clear hcc
          generalize findN X l (1, 0, x) = fn at *
          go_upto_region 13 with fail
          go_region_held3 (fun U => (U.cell? ⟨H.d, 0, none⟩ = some (.pointer (some ⟨H.A.g, 0, none⟩)) ∧ U.cell? ⟨H.d, 1, none⟩ = some (.pointer (some ⟨H.v, 0, none⟩)) ∧ U.cell? ⟨cb, 0, none⟩ = some (.int .i64 1) ∧ U.cell? ⟨cb, 1, none⟩ = some (.int .u64 0) ∧ U.cell? ⟨cb, 2, none⟩ = some (.int .u64 (x : Int)) ∧ U.cell? ⟨rb, 0, none⟩ = some (.int .i64 1) ∧ U.cell? ⟨rb, 1, none⟩ = some (.int .u64 1) ∧ U.cell? ⟨rb, 2, none⟩ = some (.int .u64 0)) ∧ But H.Pw w4 U) (first | exact HS.out _ HB_13.out | exact HS.out _ (HR4.out.call (Below.refl _ _).drew)) (first
            | (go_at_call 9; refine (HCf.out _ (HD.out.later (Below.refl w4.heap.size w4).drew)).mono ?_; rintro e w5 ⟨rfl, hb⟩; have HB_13 := hid (HR4.out.call (below_call (Below.refl w4.heap.size w4).drew hb)); have HD_13 := hid (HD.out.later (below_call (Below.refl w4.heap.size w4).drew hb)); clear hb))
          go_wp2
          exact ⟨⟨i + 1, X, l, by go_num, by omega, by omega, HD_13.out, HGn.out.mono (by omega), HEnd.out _ HB_13.out⟩, by simp [intOf]; omega⟩
        | false =>
          rw [hcc] at HCf
          obtain ⟨X1, l1, kk, hch, hg1, hc1, ht1, hk1, hk0⟩ := gn_child2 HGn.out HInv.out (by omega) (c := (1, 0, x)) rfl hcc HVs.out
          have HC15 := hid (fun (U : World) (h : Ds U H X l) => dchild h HMo.out 0 (1, 0, x) sI ⟨show (0 : Nat) < B64 by decide, HXw.out⟩)
          rw [hch] at HC15
          simp only at HC15
          have HGn1 := hid hg1
          have HT1 := hid (And.intro hc1 (And.intro ht1 (And.intro hk1 hk0)))
          clear hcc hch hg1 hc1 ht1 hk1 hk0
          generalize findN X l (1, 0, x) = fn at *
          go_upto_region 13 with fail
          go_region_held3 (fun U => (U.cell? ⟨H.d, 0, none⟩ = some (.pointer (some ⟨H.A.g, 0, none⟩)) ∧ U.cell? ⟨H.d, 1, none⟩ = some (.pointer (some ⟨H.v, 0, none⟩)) ∧ U.cell? ⟨cb, 0, none⟩ = some (.int .i64 1) ∧ U.cell? ⟨cb, 1, none⟩ = some (.int .u64 0) ∧ U.cell? ⟨cb, 2, none⟩ = some (.int .u64 (x : Int)) ∧ U.cell? ⟨rb, 0, none⟩ = some (.int .i64 1) ∧ U.cell? ⟨rb, 1, none⟩ = some (.int .u64 1) ∧ U.cell? ⟨rb, 2, none⟩ = some (.int .u64 0)) ∧ But H.Pw w4 U) (first | exact HS.out _ HB_13.out | exact HS.out _ (HR4.out.call (Below.refl _ _).drew)) (first
            | (go_at_call 9; refine (HCf.out _ (HD.out.later (Below.refl w4.heap.size w4).drew)).mono ?_; rintro e w5 ⟨rfl, hb⟩; have HB_13 := hid (HR4.out.call (below_call (Below.refl w4.heap.size w4).drew hb)); have HD_13 := hid (HD.out.later (below_call (Below.refl w4.heap.size w4).drew hb)); clear hb))
          go_upto_region 15 with fail
          go_region_held3 (fun U => (U.cell? ⟨H.d, 0, none⟩ = some (.pointer (some ⟨H.A.g, 0, none⟩)) ∧ U.cell? ⟨H.d, 1, none⟩ = some (.pointer (some ⟨H.v, 0, none⟩)) ∧ U.cell? ⟨cb, 0, none⟩ = some (.int .i64 1) ∧ U.cell? ⟨cb, 1, none⟩ = some (.int .u64 0) ∧ U.cell? ⟨cb, 2, none⟩ = some (.int .u64 (x : Int)) ∧ U.cell? ⟨rb, 0, none⟩ = some (.int .i64 1) ∧ U.cell? ⟨rb, 1, none⟩ = some (.int .u64 1) ∧ U.cell? ⟨rb, 2, none⟩ = some (.int .u64 0)) ∧ But H.Pw w4 U) (first | exact HS.out _ HB_15.out | exact HS.out _ (HB_13.out.call (Below.refl _ _).drew)) (first
            | (go_at_call 10; refine (HC15.out _ (HD_13.out.later (Below.refl w5.heap.size w5).drew)).mono ?_; rintro e w6 ⟨rfl, hd, hb⟩; have HD_15 := hid hd; have HB_15 := hid ((HB_13.out.call (Below.refl w5.heap.size w5).drew).trans hb); clear hd hb))
          have hiv1 : Inv 20 X1 l1 := by have := HD_15.out.vt.inv; rwa [HMo.out] at this
          have hE1 : (givE X1 l1 qI (1, 0, x) == 0) = b1 := by
            rw [gn_given HT1.out.1 (gn_rgt hiv1 HT1.out.2.2.1 HT1.out.2.1), HPs.out]
            cases b1 <;> rfl
          obtain ⟨hg2, hc2⟩ := gn_drop HGn1.out hiv1 HT1.out.2.2.1 HT1.out.2.2.2 (congrArg (·.1) HT1.out.2.1)
          have HGn2 := hid hg2
          have HC2 : Hid (hasC (gonX X1 l1 kk) (gonF X1 l1 kk) (1, 0, x) = false) := hc2
          have HC16 := hid (fun (U : World) (h : Ds U H X1 l1) => dgiven h (1, 0, x) qI ⟨show (0 : Nat) < B64 by decide, HXw.out⟩)
          have HC20 := hid (fun (U : World) (h : Ds U H X1 l1) => ddrop h kk)
          clear hiv1 hg2 hc2 HT1
          generalize givE X1 l1 qI (1, 0, x) = E1 at *
          go_upto_region 16 with fail
          go_region_held3 (fun U => (U.cell? ⟨H.d, 0, none⟩ = some (.pointer (some ⟨H.A.g, 0, none⟩)) ∧ U.cell? ⟨H.d, 1, none⟩ = some (.pointer (some ⟨H.v, 0, none⟩)) ∧ U.cell? ⟨cb, 0, none⟩ = some (.int .i64 1) ∧ U.cell? ⟨cb, 1, none⟩ = some (.int .u64 0) ∧ U.cell? ⟨cb, 2, none⟩ = some (.int .u64 (x : Int)) ∧ U.cell? ⟨rb, 0, none⟩ = some (.int .i64 1) ∧ U.cell? ⟨rb, 1, none⟩ = some (.int .u64 1) ∧ U.cell? ⟨rb, 2, none⟩ = some (.int .u64 0)) ∧ But H.Pw w4 U) (first | exact HS.out _ HB_16.out | exact HS.out _ (HB_15.out.call (Below.refl _ _).drew)) (first
            | (go_at_call 11; refine (HC16.out _ (HD_15.out.later (Below.refl w6.heap.size w6).drew)).mono ?_; rintro e w7 ⟨rfl, hd, hb⟩; have HD_16 := hid hd; have HB_16 := hid ((HB_15.out.call (Below.refl w6.heap.size w6).drew).trans hb); clear hd hb))
          go_upto_region 17 with fail
          go_region_held3 (fun U => (U.cell? ⟨H.d, 0, none⟩ = some (.pointer (some ⟨H.A.g, 0, none⟩)) ∧ U.cell? ⟨H.d, 1, none⟩ = some (.pointer (some ⟨H.v, 0, none⟩)) ∧ U.cell? ⟨cb, 0, none⟩ = some (.int .i64 1) ∧ U.cell? ⟨cb, 1, none⟩ = some (.int .u64 0) ∧ U.cell? ⟨cb, 2, none⟩ = some (.int .u64 (x : Int)) ∧ U.cell? ⟨rb, 0, none⟩ = some (.int .i64 1) ∧ U.cell? ⟨rb, 1, none⟩ = some (.int .u64 1) ∧ U.cell? ⟨rb, 2, none⟩ = some (.int .u64 0)) ∧ But H.Pw w4 U) (first | exact HS.out _ HB_17.out | exact HS.out _ (HB_16.out.call (Below.refl _ _).drew)) (first
            | (go_at_call 11; refine (HC16.out _ (HD_16.out.later (Below.refl w7.heap.size w7).drew)).mono ?_; rintro e w8 ⟨rfl, hd, hb⟩; have HD_17 := hid hd; have HB_17 := hid ((HB_16.out.call (Below.refl w7.heap.size w7).drew).trans hb); clear hd hb))
          obtain ⟨⟨z0, _, _, _, _, _, _, _⟩, _⟩ := HS.out _ HB_17.out
          go_upto_region 21 with (first
            | (go_at_call 12; refine (num_any _ _).mono ?_; rintro e w9_ ⟨rfl, hw9⟩; obtain rfl := hw9.symm; clear hw9)
            | (go_at_call 13; refine (HC20.out _ HD_17.out).mono ?_; rintro e w9 ⟨ga, gc, rfl, _, hd, hb⟩; have HD_20 := hid hd; have HB_20 := hid (HB_17.out.trans hb); clear hd hb))
          clear z0 hE1
          obtain ⟨⟨_, z1, _, _, _, _, _, _⟩, _⟩ := HS.out _ HB_20.out
          go_upto_region 22 with (first | (go_at_call 14; refine (dgone HD_20.out).mono ?_; rintro e w10 ⟨rfl, hd, hb⟩; have HD_21 := hid hd; have HB_21 := hid (HB_20.out.trans hb); clear hd hb))
          clear z1
          generalize gonX X1 l1 kk = X2 at *
          generalize gonF X1 l1 kk = l2 at *
          have hiv2 : Inv 20 X2 l2 := by have := HD_21.out.vt.inv; rwa [HMo.out] at this
          have HG1 : Hid (∀ U, Ds U H X2 l2 → Calls Try.prog 11 #[.pointer (some ⟨H.v, 0, none⟩), .agg #[.int .i64 1, .int .u64 0, .int .u64 (x : Int)], .int .i64 qI] U fun e w' => e = .returned (.int .i64 3) ∧ Ds w' H X2 l2 ∧ But H.Pw U w') := fun U h => by
            have := dgiven h (1, 0, x) qI ⟨show (0 : Nat) < B64 by decide, HXw.out⟩
            rw [gn_gone HC2.out] at this
            exact this
          have HG2 : Hid (∀ U, Ds U H X2 l2 → Calls Try.prog 11 #[.pointer (some ⟨H.v, 0, none⟩), .agg #[.int .i64 1, .int .u64 1, .int .u64 0], .int .i64 qI] U fun e w' => e = .returned (.int .i64 0) ∧ Ds w' H X2 l2 ∧ But H.Pw U w') := fun U h => by
            have := dgiven h gr qI (by decide)
            rw [gn_root HGn2.out hiv2 HVq.out] at this
            exact this
          obtain ⟨X3, l3, k3, hch, hg3, hc3, ht3, hk3, _⟩ := gn_child2 HGn2.out hiv2 (by omega) (c := (1, 0, x)) rfl HC2.out HVr.out
          have HC24 := hid (fun (U : World) (h : Ds U H X2 l2) => dchild h HMo.out 0 (1, 0, x) rI ⟨show (0 : Nat) < B64 by decide, HXw.out⟩)
          rw [hch] at HC24
          simp only at HC24
          have HGn3 := hid hg3
          have HT3 := hid (And.intro hc3 (And.intro ht3 hk3))
          clear hch hg3 hc3 ht3 hk3 hiv2
          go_upto_region 22 with fail
          go_region_held3 (fun U => (U.cell? ⟨H.d, 0, none⟩ = some (.pointer (some ⟨H.A.g, 0, none⟩)) ∧ U.cell? ⟨H.d, 1, none⟩ = some (.pointer (some ⟨H.v, 0, none⟩)) ∧ U.cell? ⟨cb, 0, none⟩ = some (.int .i64 1) ∧ U.cell? ⟨cb, 1, none⟩ = some (.int .u64 0) ∧ U.cell? ⟨cb, 2, none⟩ = some (.int .u64 (x : Int)) ∧ U.cell? ⟨rb, 0, none⟩ = some (.int .i64 1) ∧ U.cell? ⟨rb, 1, none⟩ = some (.int .u64 1) ∧ U.cell? ⟨rb, 2, none⟩ = some (.int .u64 0)) ∧ But H.Pw w4 U) (first | exact HS.out _ HB_23.out | exact HS.out _ HB_22.out | exact HS.out _ (HB_21.out.call (Below.refl _ _).drew)) (first
            | (go_at_call 12; refine (num_any _ _).mono ?_; rintro e w9_ ⟨rfl, hw9⟩; obtain rfl := hw9.symm; clear hw9)
            | (go_at_call 11; (with_reducible refine (HG2.out _ HD_22.out).mono ?_); rintro e w12 ⟨rfl, hd, hb⟩; have HD_23 := hid hd; have HB_23 := hid (HB_22.out.trans hb); clear hd hb)
            | (go_at_call 11; (with_reducible refine (HG1.out _ (HD_21.out.later (Below.refl _ _).drew)).mono ?_); rintro e w11 ⟨rfl, hd, hb⟩; have HD_22 := hid hd; have HB_22 := hid ((HB_21.out.call (Below.refl w10.heap.size w10).drew).trans hb); clear hd hb))
          go_upto_region 24 with fail
          go_region_held3 (fun U => (U.cell? ⟨H.d, 0, none⟩ = some (.pointer (some ⟨H.A.g, 0, none⟩)) ∧ U.cell? ⟨H.d, 1, none⟩ = some (.pointer (some ⟨H.v, 0, none⟩)) ∧ U.cell? ⟨cb, 0, none⟩ = some (.int .i64 1) ∧ U.cell? ⟨cb, 1, none⟩ = some (.int .u64 0) ∧ U.cell? ⟨cb, 2, none⟩ = some (.int .u64 (x : Int)) ∧ U.cell? ⟨rb, 0, none⟩ = some (.int .i64 1) ∧ U.cell? ⟨rb, 1, none⟩ = some (.int .u64 1) ∧ U.cell? ⟨rb, 2, none⟩ = some (.int .u64 0)) ∧ But H.Pw w4 U) (first | exact HS.out _ HB_24.out | exact HS.out _ (HB_23.out.call (Below.refl _ _).drew)) (first
            | (go_at_call 10; refine (HC24.out _ (HD_23.out.later (Below.refl w12.heap.size w12).drew)).mono ?_; rintro e w13 ⟨rfl, hd, hb⟩; have HD_24 := hid hd; have HB_24 := hid ((HB_23.out.call (Below.refl w12.heap.size w12).drew).trans hb); clear hd hb))
          have hiv3 : Inv 20 X3 l3 := by have := HD_24.out.vt.inv; rwa [HMo.out] at this
          obtain ⟨⟨yo, yh, yl⟩, hyn, hy1, hy2⟩ := gn_named HGn3.out hiv3 HT3.out.1 (gn_rgt hiv3 HT3.out.2.2 HT3.out.2.1) HVq.out HPr.out
          have hyq : ∀ W : World, (binOp .eql 32 (.agg #[.int .i64 yo, .int .u64 (yh : Int), .int .u64 (yl : Int)]) (.agg #[.int .i64 1, .int .u64 0, .int .u64 (x : Int)])).run Try.prog W = .ok (.bool b2) W := fun W => by
            have := eqCp (yo, yh, yl) (1, 0, x) W
            rw [hy1] at this
            exact this
          clear hy1 hiv3 HT3
          have HGl : Hid (H.g < w13.heap.size) := HD_24.out.gl
          have HNm := hid (fun (U : World) (q : Nat) (hU : Below w13.heap.size w13 U) (hq : w13.heap.size ≤ q) (c1 : Cel U q 0 (1, 0, x)) (c2 : Cel U q 3 gr) => named_any (HD_24.out.vt.later hU) 1 qI 2 (rd2 c1 c2) (by decide) (by simp only [List.mem_cons, List.not_mem_nil, or_false, forall_eq_or_imp, forall_eq]; exact ⟨⟨show (0 : Nat) < B64 by decide, HXw.out⟩, by decide⟩) (fun _ k hk e => by obtain ⟨z, hz, e2⟩ := hk; cases hz; have := HGl.out; simp only at e2; omega))
          rw [hyn] at HNm
          have HN : Hid (∀ (U : World) (q : Nat), Below w13.heap.size w13 U → w13.heap.size ≤ q → Cel U q 0 (1, 0, x) → Cel U q 3 gr → Calls Try.prog 15 #[.pointer (some ⟨H.v, 0, none⟩), .int .i64 1, .int .i64 qI, .slice (some ⟨q, 0, none⟩) 2 2] U fun e w' => e = .returned (.tuple #[.agg #[.int .i64 yo, .int .u64 (yh : Int), .int .u64 (yl : Int)], .int .i64 0]) ∧ Vt w' H X3 l3 ∧ But (fun k => k = H.g) U w') := HNm.out
          clear HNm hyn
          have HNa : Hid (Calls Try.prog 15 #[.pointer (some ⟨H.v, 0, none⟩), .int .i64 1, .int .i64 qI, .slice (some ⟨w13.heap.size + 1, 0, none⟩) 2 2] ((w13.alloc (Obj.cells #[.int .i64 0, .int .u64 0, .int .u64 0] 32)).alloc (Obj.cells #[.int .i64 1, .int .u64 0, .int .u64 (x : Int), .int .i64 1, .int .u64 1, .int .u64 0] 32)).drew fun e w' => e = .returned (.tuple #[.agg #[.int .i64 yo, .int .u64 (yh : Int), .int .u64 (yl : Int)], .int .i64 0]) ∧ Vt w' H X3 l3 ∧ But (fun k => k = H.g) w13 w' ∧ Zc w' (w13.heap.size)) := by
            refine (HN.out _ (w13.heap.size + 1) (below2 w13 (Obj.cells #[.int .i64 0, .int .u64 0, .int .u64 0] 32) (Obj.cells #[.int .i64 1, .int .u64 0, .int .u64 (x : Int), .int .i64 1, .int .u64 1, .int .u64 0] 32)).drew (by omega) ⟨by simp [go_sem], by simp [go_sem], by simp [go_sem]⟩ ⟨by simp [go_sem, gr], by simp [go_sem, gr], by simp [go_sem, gr]⟩).mono ?_
            rintro e w' ⟨rfl, ht, hb⟩
            exact ⟨rfl, ht, (But.of (S := fun k => k = H.g) (below2 w13 (Obj.cells #[.int .i64 0, .int .u64 0, .int .u64 0] 32) (Obj.cells #[.int .i64 1, .int .u64 0, .int .u64 (x : Int), .int .i64 1, .int .u64 1, .int .u64 0] 32)).drew).trans hb, (show Zc ((w13.alloc (Obj.cells #[.int .i64 0, .int .u64 0, .int .u64 0] 32)).alloc (Obj.cells #[.int .i64 1, .int .u64 0, .int .u64 (x : Int), .int .i64 1, .int .u64 1, .int .u64 0] 32)).drew (w13.heap.size) from ⟨⟨by simp [go_sem], by simp [go_sem]⟩, ⟨by simp [go_sem], by simp [go_sem]⟩, ⟨by simp [go_sem], by simp [go_sem]⟩⟩).but hb (by have := HGl.out; omega)⟩
          have HNb : Hid (Calls Try.prog 15 #[.pointer (some ⟨H.v, 0, none⟩), .int .i64 1, .int .i64 qI, .slice (some ⟨w13.heap.size, 0, none⟩) 2 2] ((w13.alloc (Obj.cells #[.int .i64 1, .int .u64 0, .int .u64 (x : Int), .int .i64 1, .int .u64 1, .int .u64 0] 32)).alloc (Obj.cells #[.int .i64 0, .int .u64 0, .int .u64 0] 32)).drew fun e w' => e = .returned (.tuple #[.agg #[.int .i64 yo, .int .u64 (yh : Int), .int .u64 (yl : Int)], .int .i64 0]) ∧ Vt w' H X3 l3 ∧ But (fun k => k = H.g) w13 w' ∧ Zc w' (w13.heap.size + 1)) := by
            refine (HN.out _ (w13.heap.size) (below2 w13 (Obj.cells #[.int .i64 1, .int .u64 0, .int .u64 (x : Int), .int .i64 1, .int .u64 1, .int .u64 0] 32) (Obj.cells #[.int .i64 0, .int .u64 0, .int .u64 0] 32)).drew (by omega) ⟨by simp [go_sem], by simp [go_sem], by simp [go_sem]⟩ ⟨by simp [go_sem, gr], by simp [go_sem, gr], by simp [go_sem, gr]⟩).mono ?_
            rintro e w' ⟨rfl, ht, hb⟩
            exact ⟨rfl, ht, (But.of (S := fun k => k = H.g) (below2 w13 (Obj.cells #[.int .i64 1, .int .u64 0, .int .u64 (x : Int), .int .i64 1, .int .u64 1, .int .u64 0] 32) (Obj.cells #[.int .i64 0, .int .u64 0, .int .u64 0] 32)).drew).trans hb, (show Zc ((w13.alloc (Obj.cells #[.int .i64 1, .int .u64 0, .int .u64 (x : Int), .int .i64 1, .int .u64 1, .int .u64 0] 32)).alloc (Obj.cells #[.int .i64 0, .int .u64 0, .int .u64 0] 32)).drew (w13.heap.size + 1) from ⟨⟨by simp [go_sem], by simp [go_sem]⟩, ⟨by simp [go_sem], by simp [go_sem]⟩, ⟨by simp [go_sem], by simp [go_sem]⟩⟩).but hb (by have := HGl.out; omega)⟩
          have HNc : Hid (Calls Try.prog 15 #[.pointer (some ⟨H.v, 0, none⟩), .int .i64 1, .int .i64 qI, .slice (some ⟨w13.heap.size, 0, none⟩) 2 2] (w13.alloc (Obj.cells #[.int .i64 1, .int .u64 0, .int .u64 (x : Int), .int .i64 1, .int .u64 1, .int .u64 0] 32)).drew fun e w' => e = .returned (.tuple #[.agg #[.int .i64 yo, .int .u64 (yh : Int), .int .u64 (yl : Int)], .int .i64 0]) ∧ Vt w' H X3 l3 ∧ But (fun k => k = H.g) w13 w') := by
            refine (HN.out _ (w13.heap.size) (below1 w13 (Obj.cells #[.int .i64 1, .int .u64 0, .int .u64 (x : Int), .int .i64 1, .int .u64 1, .int .u64 0] 32)).drew (by omega) ⟨by simp [go_sem], by simp [go_sem], by simp [go_sem]⟩ ⟨by simp [go_sem, gr], by simp [go_sem, gr], by simp [go_sem, gr]⟩).mono ?_
            rintro e w' ⟨rfl, ht, hb⟩
            exact ⟨rfl, ht, (But.of (S := fun k => k = H.g) (below1 w13 (Obj.cells #[.int .i64 1, .int .u64 0, .int .u64 (x : Int), .int .i64 1, .int .u64 1, .int .u64 0] 32)).drew).trans hb⟩
          clear HN
          have HNew : Hid (∀ k, w13.heap.size ≤ k → w4.heap.size ≤ k) := fun k hk => Nat.le_trans HB_24.out.size hk
          go_upto_region 25 with fail
          go_cut [24, 25] (fun s4 s5 W => ∃ b, s4 = .pointer (some ⟨b, 0, none⟩) ∧ s5 = .int .i64 0 ∧ Hid (Lw w13 H X3 l3 W b (yo, yh, yl)))
          case first =>
            go_region_held3 (fun U => (U.cell? ⟨H.d, 0, none⟩ = some (.pointer (some ⟨H.A.g, 0, none⟩)) ∧ U.cell? ⟨H.d, 1, none⟩ = some (.pointer (some ⟨H.v, 0, none⟩)) ∧ U.cell? ⟨cb, 0, none⟩ = some (.int .i64 1) ∧ U.cell? ⟨cb, 1, none⟩ = some (.int .u64 0) ∧ U.cell? ⟨cb, 2, none⟩ = some (.int .u64 (x : Int)) ∧ U.cell? ⟨rb, 0, none⟩ = some (.int .i64 1) ∧ U.cell? ⟨rb, 1, none⟩ = some (.int .u64 1) ∧ U.cell? ⟨rb, 2, none⟩ = some (.int .u64 0)) ∧ But H.Pw w4 U) (first | exact HS.out _ HBu.out | exact HS.out _ (HB_24.out.call (Below.refl _ _).drew) | exact HS.out _ (HB_24.out.call (below1 _ _).drew) | exact HS.out _ (HB_24.out.call (below2 _ _ _).drew) | exact HS.out _ (HBu.out.alloc _) | exact HS.out _ (((HBu.out.put (HNew.out _ (by first | exact Nat.le_refl _ | exact Nat.le_succ _)) _).put (HNew.out _ (by first | exact Nat.le_refl _ | exact Nat.le_succ _)) _).put (HNew.out _ (by first | exact Nat.le_refl _ | exact Nat.le_succ _)) _)) (first
              | (go_at_call 15; (with_reducible refine HNa.out.mono ?_); rintro e u_ ⟨rfl, ht, hb, hzc⟩; have HVt := hid ht; have HBt := hid hb; have HBu := hid (HB_24.out.trans (Hv.Pw.of_g hb)); have HZc := hid hzc; obtain ⟨⟨z0, f0⟩, ⟨z1, f1⟩, ⟨z2, f2⟩⟩ := hzc; clear ht hb)
              | (go_at_call 15; (with_reducible refine HNb.out.mono ?_); rintro e u_ ⟨rfl, ht, hb, hzc⟩; have HVt := hid ht; have HBt := hid hb; have HBu := hid (HB_24.out.trans (Hv.Pw.of_g hb)); have HZc := hid hzc; obtain ⟨⟨z0, f0⟩, ⟨z1, f1⟩, ⟨z2, f2⟩⟩ := hzc; clear ht hb)
              | (go_at_call 15; (with_reducible refine HNc.out.mono ?_); rintro e u_ ⟨rfl, ht, hb⟩; have HVt := hid ht; have HBt := hid hb; have HBu := hid (HB_24.out.trans (Hv.Pw.of_g hb)); clear ht hb))
            all_goals (try go_wp2)
            all_goals go_meet
            all_goals (first | exact ⟨_, rfl, rfl, Lw.put HD_24.out.vt HVt.out HBt.out (by omega) HZc.out (yo, yh, yl)⟩ | exact ⟨_, rfl, rfl, Lw.next HVt.out HBt.out (yo, yh, yl)⟩)
          case rest =>
          rename World => w14
          obtain ⟨yb, rfl, rfl, HLw⟩ := hcut
          have HB_25 := hid (HB_24.out.trans (Hv.Pw.of_g HLw.out.bu))
          have HD_25 : Hid (Ds w14 H X3 l3) := HD_24.out.own HLw.out.vt (Hv.Pw.of_g HLw.out.bu)
          have HS4 : Hid (∀ U, But H.Pw w14 U → (U.cell? ⟨H.d, 1, none⟩ = some (.pointer (some ⟨H.v, 0, none⟩)) ∧ U.cell? ⟨cb, 0, none⟩ = some (.int .i64 1) ∧ U.cell? ⟨cb, 1, none⟩ = some (.int .u64 0) ∧ U.cell? ⟨cb, 2, none⟩ = some (.int .u64 (x : Int)) ∧ U.cell? ⟨yb, 0, none⟩ = some (.int .i64 yo) ∧ U.cell? ⟨yb, 1, none⟩ = some (.int .u64 (yh : Int)) ∧ U.cell? ⟨yb, 2, none⟩ = some (.int .u64 (yl : Int))) ∧ But H.Pw w14 U) := fun U hU => by
            obtain ⟨hc, hb⟩ := HS.out U (HB_25.out.trans hU)
            have hcy := HLw.out.ce.but hU (fun e => by have h1 := HLw.out.lo; have h2 := HD_24.out.plt _ e; omega)
            exact ⟨⟨hc.2.1, hc.2.2.1, hc.2.2.2.1, hc.2.2.2.2.1, hcy.c0, hcy.c1, hcy.c2⟩, hU⟩
          have HG26 := hid (fun (U : World) (h : Ds U H X3 l3) => dgiven h (1, 0, x) qI ⟨show (0 : Nat) < B64 by decide, HXw.out⟩)
          generalize givE X3 l3 qI (1, 0, x) = E3 at *
          clear HNa HNb HNc HLw
          go_upto_region 26 with fail
          go_region_held3 (fun U => (U.cell? ⟨H.d, 1, none⟩ = some (.pointer (some ⟨H.v, 0, none⟩)) ∧ U.cell? ⟨cb, 0, none⟩ = some (.int .i64 1) ∧ U.cell? ⟨cb, 1, none⟩ = some (.int .u64 0) ∧ U.cell? ⟨cb, 2, none⟩ = some (.int .u64 (x : Int)) ∧ U.cell? ⟨yb, 0, none⟩ = some (.int .i64 yo) ∧ U.cell? ⟨yb, 1, none⟩ = some (.int .u64 (yh : Int)) ∧ U.cell? ⟨yb, 2, none⟩ = some (.int .u64 (yl : Int))) ∧ But H.Pw w14 U) (first | exact HS4.out _ HB_26.out | exact HS4.out _ (But.of (Below.refl _ _).drew)) (first
            | (go_at_call 12; refine (num_any _ _).mono ?_; rintro e w9_ ⟨rfl, hw9⟩; obtain rfl := hw9.symm; clear hw9)
            | (go_at_call 11; refine (HG26.out _ (HD_25.out.later (Below.refl w14.heap.size w14).drew)).mono ?_; rintro e w15 ⟨rfl, hd, hb⟩; have HD_26 := hid hd; have HB_26 := hid ((But.of (S := H.Pw) (Below.refl w14.heap.size w14).drew).trans hb); clear hd hb))
          go_wp2
          exact ⟨⟨i + 1, X3, l3, by go_num, by omega, by omega, HD_26.out, HGn3.out.mono (by omega), HEnd.out _ (HB_25.out.trans HB_26.out)⟩, by simp [intOf]; omega⟩
      · have hd2 : decide ((i : Int) < 12) = false := decide_eq_false (by omega)
        go_wp2
        go_ret
        exact ⟨rfl, HFin.out _ HB.out⟩
    · have hd : decide ((i : Int) < (n : Int)) = false := decide_eq_false (by omega)
      go_wp2
      go_ret
      exact ⟨rfl, HFin.out _ HB.out⟩
end Go.Proofs.Ytlelglfdamakaaa
