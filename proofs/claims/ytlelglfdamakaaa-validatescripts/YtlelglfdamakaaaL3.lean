import Derived.Test.YtlelglfdamakaaaQ4
namespace Go.Proofs.Ytlelglfdamakaaa
open Go.RowKit H
set_option linter.unusedVariables false
set_option linter.unusedSimpArgs false
variable {w w' : World} {H : Hv} {X : List Tk} {l : Fo} {mo : Nat}

/-! ### ValidateScripts -/
theorem step_any {t : Nat} (h : Ds w H X l) (hq : Rq w H X l t) (ht : t < 9223372036854775807) (hH : ∀ k, H.All k → k < w.heap.size) (kd : Int) (c : Cp) (p nd : Int) (la : Option Addr) (ln lc : Nat) (hw : c.2.1 < B64 ∧ c.2.2 < B64) {L : List Cp} (hr : Rd w la ln L) (hcap : la = none → lc = 0) (hsz : (ln + 40) * 24 ≤ 140737488355328) (hal : ∀ c ∈ L, c.2.1 < B64 ∧ c.2.2 < B64) (hbl : 0 < ln → ∀ k, Blk la k → ¬ H.All k) :
    Calls Try.prog 18 #[.pointer (some ⟨H.d, 0, none⟩), opV kd c p nd la ln lc] w (Sd w H t) := by
  by_cases k1 : kd = 1
  · rw [k1]; exact step1 h hq rfl ht c p nd la ln lc hw hH
  · by_cases k2 : kd = 2
    · rw [k2]; exact step2 h hq rfl ht c p nd la ln lc hw hH
    · by_cases k3 : kd = 3
      · rw [k3]; exact step3 h hq rfl ht c p nd la ln lc hw hH
      · by_cases k4 : kd = 4
        · rw [k4]; exact step4 h hq rfl ht c p nd la ln lc hw hH
        · by_cases k5 : kd = 5
          · rw [k5]; exact step5 h hq rfl ht c p nd la ln lc hH hr hcap hsz hal hbl
          · exact step6 h hq rfl ht kd c p nd la ln lc hw hH ⟨k1, k2, k3, k4, k5⟩
theorem qcount {t : Nat} (h : Rq w H X l t) (hv : Inv H.mo X l) : Calls Try.prog 20 #[.pointer (some ⟨H.r, 0, none⟩)] w fun e w' => e = .returned (.int .i64 (l.length : Int)) ∧ w' = w := by
  obtain ⟨wh, ev, hf, _, _⟩ := h
  exact rcount_any hf hv.ok
theorem qfind {t : Nat} (h : Rq w H X l t) (hv : Inv H.mo X l) (c : Cp) : Calls Try.prog 22 #[.pointer (some ⟨H.r, 0, none⟩), cpV c] w fun e w' => e = .returned (.tuple #[.int .i64 (findN X l c), .bool (hasC X l c)]) ∧ Below w.heap.size w w' := by
  obtain ⟨wh, ev, hf, _, _⟩ := h
  exact rfind_any hf hv c.1 c.2.1 c.2.2
def ScRel (v : World) (H : Hv) (n : Nat) (t : Value) (wr : World) : Prop :=
  ∃ (i : Nat) (X : List Tk) (l : Fo), t = .int .i64 (i : Int) ∧ i ≤ n ∧ Ds wr H X l ∧ Rq wr H X l i ∧ But H.Sw v wr
def S2Rel (v : World) (H : Hv) (X : List Tk) (l : Fo) (T n : Nat) (t : Value) (wr : World) : Prop :=
  ∃ i : Nat, t = .int .i64 (i : Int) ∧ i ≤ n ∧ Ds wr H X l ∧ Rq wr H X l T ∧ But H.Sw v wr
def S3Rel (v : World) (H : Hv) (X : List Tk) (l : Fo) (T : Nat) (t : Value) (wr : World) : Prop :=
  ∃ k : Nat, t = .int .i64 (k : Int) ∧ 1 ≤ k ∧ k ≤ 32 ∧ Ds wr H X l ∧ Rq wr H X l T ∧ But H.Sw v wr
/-- What is asked of a script besides. -/
def Sz7 (n : Nat) (f : Nat → Sp) : Prop := ∀ i, i < n → ((f i).la = none → (f i).lc = 0) ∧ ((f i).ln + 40) * 24 ≤ 140737488355328
set_option maxRecDepth 100000 in
set_option maxHeartbeats 8000000 in
theorem scripts_law (en a0 a1 a2 : Int) (w : World) {a : Option Addr} {n cap : Nat} {f : Nat → Sp} (hS : Ss w a n f) (hS2 : Sz7 n f) (hn : n ≤ 9223372036854775807) :
    Calls Try.prog 5 #[.int .i64 en, .agg #[.int .i64 a0, .int .i64 a1, .int .i64 a2], .slice a n cap] w fun e w' => e = .returned (.bool true) ∧ Below w.heap.size w w' := by
  obtain ⟨w0, hw0⟩ : ∃ w0, w0 = w.alloc (Obj.cells #[.int .i64 a0, .int .i64 a1, .int .i64 a2] 23) := ⟨_, rfl⟩
  have hB0 : Below w.heap.size w w0 := by rw [hw0]; exact below1 _ _
  have y0 : w0.cell? ⟨w.heap.size, 0, none⟩ = some (.int .i64 a0) := by rw [hw0]; simp [go_sem]
  have y1 : w0.cell? ⟨w.heap.size, 1, none⟩ = some (.int .i64 a1) := by rw [hw0]; simp [go_sem]
  have y2 : w0.cell? ⟨w.heap.size, 2, none⟩ = some (.int .i64 a2) := by rw [hw0]; simp [go_sem]
  have HDk := hid (desk_any en a0 a1 a2 w0)
  have HS := hid hS
  have HS2 := hid hS2
  have HB0 := hid hB0
  clear hS hS2 hB0
  generalize 1 + modN en 20 = mo at *
  go_enter Try.func5, Try.ntmps5
  go_upto_region 1 with fail
  rw [← hw0]
  clear hw0
  go_upto_region 2 with (first | (go_at_call 6; refine HDk.out.mono ?_; rintro e w1 ⟨H, rfl, hl⟩; have HLa := hid hl; clear hl))
  clear y0 y1 y2 HDk
  go_upto_region 5 with (first | (go_at_call 7; refine (alive_any _).mono ?_; rintro e w3 ⟨rfl, hb⟩; have HB3 := hid hb; clear hb))
  have HLo : Hid (∀ k, H.All k → w.heap.size ≤ k) := fun k hk => by
    have e0 := HB0.out.size
    have := HLa.out.lo k hk
    omega
  have HHi : Hid (∀ k, H.All k → k < w3.heap.size) := fun k hk => by
    have e2 := HB3.out.size
    have := HLa.out.hi k hk
    omega
  have HBw : Hid (Below w.heap.size w w3) := below_call (below_call HB0.out HLa.out.be) HB3.out
  have HFin : Hid (∀ U, But H.Sw w3 U → Below w.heap.size w U) := fun U hU => But.below HBw.out hU (fun k hk => HLo.out k hk.all)
  have HD0 : Hid (Ds w3 H (List.replicate mo tz) []) := HLa.out.ds.later HB3.out
  have HT : Hid (∀ U, But H.Sw w3 U → Tp U H.d H.A.g H.v H.r) := fun U hU => HD0.out.tp.but hU HD0.out.vt.dis.sd
  have HQ0 : Hid (Rq w3 H (List.replicate mo tz) [] 0) := HLa.out.rq.later HB3.out
  clear HLa HB3 HB0
  go_loopw [8] (ScRel w3 H n) (fun t _ => n - (intOf t).toNat)
  case atStart => exact ⟨0, _, _, rfl, by omega, HD0.out, HQ0.out, But.refl _ _⟩
  case round =>
    obtain ⟨i, X, l, rfl, hi, hD, hQ, hB⟩ := hrel
    have HD := hid hD
    have HQ := hid hQ
    have HB := hid hB
    clear hD hQ hB
    by_cases hlt : i < n
    · have hd : decide ((i : Int) < (n : Int)) = true := decide_eq_true (by omega)
      obtain ⟨b, o, rfl, hat⟩ := HS.out (by omega)
      have HBl : Hid (b < w.heap.size) := World.block_lt_of_cell? _ _ (hat i hlt).c0
      have hs := (hat i hlt).later (HFin.out _ HB.out)
      have hx2 := HS2.out i hlt
      have HSt : Hid (∀ U, Below wr.heap.size wr U → Calls Try.prog 18 #[.pointer (some ⟨H.d, 0, none⟩), opV (f i).kd (f i).c (f i).p (f i).n (f i).la (f i).ln (f i).lc] U (Sd U H i)) := fun U hU =>
        step_any (HD.out.later hU) (HQ.out.later hU) (by omega) (fun k hk => Nat.lt_of_lt_of_le (HHi.out k hk) (Nat.le_trans HB.out.size hU.size)) _ _ _ _ _ _ _ hs.wide (hs.rd.later hU) hx2.1 hx2.2 hs.all (fun h0 k hk e => by
          have h1 := (hat i hlt).blk h0 k hk
          have h2 := HLo.out k e
          omega)
      have HSs : Hid (Sb wr b (o + i * 7) (f i)) := hs
      clear hs hat hx2
      generalize f i = s at *
      obtain ⟨kd, ⟨ko, kh, kl⟩, p, nd, la, ln, lc, L⟩ := s
      simp only at HSt
      unfold opV at HSt
      have HS7 : Hid (∀ U, But H.Sw wr U → (U.cell? ⟨b, o + i * 7, none⟩ = some (.int .i64 kd) ∧ U.cell? ⟨b, o + i * 7 + 1, none⟩ = some (.int .i64 ko) ∧ U.cell? ⟨b, o + i * 7 + 2, none⟩ = some (.int .u64 (kh : Int)) ∧ U.cell? ⟨b, o + i * 7 + 3, none⟩ = some (.int .u64 (kl : Int)) ∧ U.cell? ⟨b, o + i * 7 + 4, none⟩ = some (.int .i64 p) ∧ U.cell? ⟨b, o + i * 7 + 5, none⟩ = some (.int .i64 nd) ∧ U.cell? ⟨b, o + i * 7 + 6, none⟩ = some (.slice la ln lc) ∧ U.cell? ⟨H.d, 0, none⟩ = some (.pointer (some ⟨H.A.g, 0, none⟩)) ∧ U.cell? ⟨H.d, 2, none⟩ = some (.pointer (some ⟨H.r, 0, none⟩))) ∧ But H.Sw wr U) := fun U hU => by
        have hb : ¬ H.Sw b := fun e => by have := HLo.out b e.all; have := HBl.out; omega
        have h1 := HSs.out
        have h2 := HT.out U (HB.out.trans hU)
        exact ⟨⟨cell_but hU h1.c0 hb, cell_but hU h1.c1 hb, cell_but hU h1.c2 hb, cell_but hU h1.c3 hb, cell_but hU h1.c4 hb, cell_but hU h1.c5 hb, cell_but hU h1.c6 hb, h2.c0, h2.c2⟩, hU⟩
      go_upto_region 7 with fail
      go_region_held3 (fun U => (U.cell? ⟨b, o + i * 7, none⟩ = some (.int .i64 kd) ∧ U.cell? ⟨b, o + i * 7 + 1, none⟩ = some (.int .i64 ko) ∧ U.cell? ⟨b, o + i * 7 + 2, none⟩ = some (.int .u64 (kh : Int)) ∧ U.cell? ⟨b, o + i * 7 + 3, none⟩ = some (.int .u64 (kl : Int)) ∧ U.cell? ⟨b, o + i * 7 + 4, none⟩ = some (.int .i64 p) ∧ U.cell? ⟨b, o + i * 7 + 5, none⟩ = some (.int .i64 nd) ∧ U.cell? ⟨b, o + i * 7 + 6, none⟩ = some (.slice la ln lc) ∧ U.cell? ⟨H.d, 0, none⟩ = some (.pointer (some ⟨H.A.g, 0, none⟩)) ∧ U.cell? ⟨H.d, 2, none⟩ = some (.pointer (some ⟨H.r, 0, none⟩))) ∧ But H.Sw wr U) (first | exact HS7.out _ HB7.out | exact HS7.out _ (But.of (Below.refl _ _).drew)) (first
        | (go_at_call 20; refine (qcount HQ7.out HD7.out.vt.inv).mono ?_; rintro e w9 ⟨rfl, hw9⟩; obtain rfl := hw9.symm; clear hw9)
        | (go_at_call 19; refine (vcount HD7.out.vt).mono ?_; rintro e w9 ⟨rfl, hw9⟩; obtain rfl := hw9.symm; clear hw9)
        | (go_at_call 18; refine (HSt.out _ (Below.refl _ _).drew).mono ?_; rintro e w7 ⟨rfl, ⟨X7, l7, hd7, hq7⟩, hb⟩; have HD7 := hid hd7; have HQ7 := hid hq7; have HB7 := hid ((But.of (S := H.Sw) (Below.refl wr.heap.size wr).drew).trans hb); clear hd7 hq7 hb))
      go_wp2
      exact ⟨⟨i + 1, X7, l7, by go_num, by omega, HD7.out, HQ7.out, HB.out.trans HB7.out⟩, by simp [intOf]; omega⟩
    · have hd : decide ((i : Int) < (n : Int)) = false := decide_eq_false (by omega)
      have HIv := hid HD.out.vt.inv
      clear HD0 HQ0 HT
      have HT : Hid (∀ U, But H.Sw wr U → Tp U H.d H.A.g H.v H.r) := fun U hU => HD.out.tp.but hU HD.out.vt.dis.sd
      have HFi2 : Hid (∀ U, But H.Sw wr U → Below w.heap.size w U) := fun U hU => HFin.out U (HB.out.trans hU)
      have HHi2 : Hid (∀ k, H.All k → k < wr.heap.size) := fun k hk => Nat.lt_of_lt_of_le (HHi.out k hk) HB.out.size
      have hwx : ∃ wx, wx = wr := ⟨_, rfl⟩
      obtain ⟨wx, hwx⟩ := hwx
      rw [← hwx] at HD HQ HT HFi2 HHi2
      rw [← hwx]
      clear hwx HB HFin HHi
      go_upto_region 10 with fail
      clear hd hlt
      go_loopw [9] (S2Rel wx H X l i n) (fun t _ => n - (intOf t).toNat)
      case atStart => exact ⟨0, rfl, by omega, HD.out, HQ.out, But.refl _ _⟩
      case round =>
        obtain ⟨j, rfl, hj, hD2, hQ2, hB2⟩ := hrel
        have HD2 := hid hD2
        have HQ2 := hid hQ2
        have HB2 := hid hB2
        clear hD2 hQ2 hB2
        by_cases hlj : j < n
        · have hdj : decide ((j : Int) < (n : Int)) = true := decide_eq_true (by omega)
          obtain ⟨b, o, rfl, hat⟩ := HS.out (by omega)
          have hs := (hat j hlj).later (HFi2.out _ HB2.out)
          have HWd := hid hs.wide
          have s1 := hs.c1
          have s2 := hs.c2
          have s3 := hs.c3
          clear hs hat
          generalize f j = s at *
          obtain ⟨kd, ⟨ko, kh, kl⟩, p, nd, la, ln, lc, L⟩ := s
          simp only at s1 s2 s3 HWd
          obtain ⟨w4, hw4⟩ : ∃ w4, w4 = wr.alloc (Obj.cells #[.int .i64 ko, .int .u64 (kh : Int), .int .u64 (kl : Int)] 32) := ⟨_, rfl⟩
          have hB4 : Below wr.heap.size wr w4 := by rw [hw4]; exact below1 _ _
          have hce : Cel w4 wr.heap.size 0 (ko, kh, kl) := by rw [hw4]; exact ⟨by simp [go_sem], by simp [go_sem], by simp [go_sem]⟩
          have HCe : Hid (∀ U, But H.Sw w4 U → Cel U wr.heap.size 0 (ko, kh, kl)) := fun U hU => hce.but hU (fun e => by have h1 := HHi2.out _ e.all; have h2 := HB2.out.size; omega)
          have HD4 := hid (HD2.out.later hB4)
          have HQ4 := hid (HQ2.out.later hB4)
          have HEn : Hid (∀ U, But H.Sw w4 U → But H.Sw wx U) := fun U hU => (HB2.out.call hB4).trans hU
          clear hB4 hce
          go_upto_region 13 with fail
          rw [← hw4]
          clear hw4 s1 s2 s3
          generalize wr.heap.size = cb at *
          have HS16 : Hid (∀ U, But H.Sw w4 U → (U.cell? ⟨H.d, 1, none⟩ = some (.pointer (some ⟨H.v, 0, none⟩)) ∧ U.cell? ⟨H.d, 2, none⟩ = some (.pointer (some ⟨H.r, 0, none⟩)) ∧ U.cell? ⟨cb, 0, none⟩ = some (.int .i64 ko) ∧ U.cell? ⟨cb, 1, none⟩ = some (.int .u64 (kh : Int)) ∧ U.cell? ⟨cb, 2, none⟩ = some (.int .u64 (kl : Int))) ∧ But H.Sw w4 U) := fun U hU => ⟨⟨(HT.out U (HEn.out U hU)).c1, (HT.out U (HEn.out U hU)).c2, (HCe.out U hU).c0, (HCe.out U hU).c1, (HCe.out U hU).c2⟩, hU⟩
          have HCa := hid (fun (U : World) (k : Int) (h : Ds U H X l) => dgiven h (ko, kh, kl) k HWd.out)
          have HCq := hid (fun (U : World) (k : Int) (h : Rq U H X l i) => rgiven_any h HIv.out (ko, kh, kl) k)
          go_upto_region 14 with fail
          go_loopw [11] (S3Rel w4 H X l i) (fun t _ => 33 - (intOf t).toNat)
          case atStart => exact ⟨1, rfl, by omega, by omega, HD4.out, HQ4.out, But.refl _ _⟩
          case round =>
            obtain ⟨k, rfl, hk1, hk2, hD5, hQ5, hB5⟩ := hrel
            have HD5 := hid hD5
            have HQ5 := hid hQ5
            have HB5 := hid hB5
            clear hD5 hQ5 hB5
            by_cases hk : k ≤ 16
            · have hdk : decide ((k : Int) ≤ 16) = true := decide_eq_true (by omega)
              have hdk' : decide (k ≤ 16) = true := decide_eq_true hk
              have HC1 := hid (fun (U : World) (h : Ds U H X l) => HCa.out U (k : Int) h)
              have HC2 := hid (fun (U : World) (h : Rq U H X l i) => HCq.out U (k : Int) h)
              generalize givE X l (k : Int) (ko, kh, kl) = E at *
              go_upto_region 16 with fail
              go_region_held3 (fun U => (U.cell? ⟨H.d, 1, none⟩ = some (.pointer (some ⟨H.v, 0, none⟩)) ∧ U.cell? ⟨H.d, 2, none⟩ = some (.pointer (some ⟨H.r, 0, none⟩)) ∧ U.cell? ⟨cb, 0, none⟩ = some (.int .i64 ko) ∧ U.cell? ⟨cb, 1, none⟩ = some (.int .u64 (kh : Int)) ∧ U.cell? ⟨cb, 2, none⟩ = some (.int .u64 (kl : Int))) ∧ But H.Sw w4 U) (first | exact HS16.out _ HB7.out | exact HS16.out _ HB6.out | exact HS16.out _ (HB5.out.call (Below.refl _ _).drew)) (first
                | (go_at_call 12; refine (num_any _ _).mono ?_; rintro e w9 ⟨rfl, hw9⟩; obtain rfl := hw9.symm; clear hw9)
                | (go_at_call 21; refine (HC2.out _ HQ6.out).mono ?_; rintro e w7 ⟨rfl, hb⟩; have HD7 := hid (HD6.out.later hb); have HQ7 := hid (HQ6.out.later hb); have HB7 := hid (HB6.out.call hb); clear hb)
                | (go_at_call 11; refine (HC1.out _ (HD5.out.later (Below.refl _ _).drew)).mono ?_; rintro e w6 ⟨rfl, hd, hb⟩; have HD6 := hid hd; have HQ6 := hid ((HQ5.out.later (Below.refl wr.heap.size wr).drew).pw hd.vt.dis hb); have HB6 := hid ((HB5.out.call (Below.refl wr.heap.size wr).drew).trans (Hv.Sw.p hb)); clear hd hb))
              go_wp2
              exact ⟨⟨k * 2, by go_num, by omega, by omega, HD7.out, HQ7.out, HB7.out⟩, by simp [intOf]; omega⟩
            · have hdk : decide ((k : Int) ≤ 16) = false := decide_eq_false (by omega)
              have hdk' : decide (k ≤ 16) = false := decide_eq_false hk
              have HS18 : Hid (∀ U, But H.Sw w4 U → (U.cell? ⟨H.d, 0, none⟩ = some (.pointer (some ⟨H.A.g, 0, none⟩)) ∧ U.cell? ⟨cb, 0, none⟩ = some (.int .i64 ko) ∧ U.cell? ⟨cb, 1, none⟩ = some (.int .u64 (kh : Int)) ∧ U.cell? ⟨cb, 2, none⟩ = some (.int .u64 (kl : Int))) ∧ But H.Sw w4 U) := fun U hU => ⟨⟨(HT.out U (HEn.out U hU)).c0, (HCe.out U hU).c0, (HCe.out U hU).c1, (HCe.out U hU).c2⟩, hU⟩
              have HS19 : Hid (∀ U, But H.Sw w4 U → (U.cell? ⟨H.d, 2, none⟩ = some (.pointer (some ⟨H.r, 0, none⟩)) ∧ U.cell? ⟨cb, 0, none⟩ = some (.int .i64 ko) ∧ U.cell? ⟨cb, 1, none⟩ = some (.int .u64 (kh : Int)) ∧ U.cell? ⟨cb, 2, none⟩ = some (.int .u64 (kl : Int))) ∧ But H.Sw w4 U) := fun U hU => ⟨⟨(HT.out U (HEn.out U hU)).c2, (HCe.out U hU).c0, (HCe.out U hU).c1, (HCe.out U hU).c2⟩, hU⟩
              have HF1 := hid (fun (U : World) (h : Ds U H X l) => vfind h.vt (ko, kh, kl) HWd.out)
              have HF2 := hid (fun (U : World) (h : Rq U H X l i) => qfind h HIv.out (ko, kh, kl))
              generalize findN X l (ko, kh, kl) = fn at *
              generalize hasC X l (ko, kh, kl) = fq at *
              clear hk hk1 hk2
              go_upto_region 18 with fail
              go_region_held3 (fun U => (U.cell? ⟨H.d, 0, none⟩ = some (.pointer (some ⟨H.A.g, 0, none⟩)) ∧ U.cell? ⟨cb, 0, none⟩ = some (.int .i64 ko) ∧ U.cell? ⟨cb, 1, none⟩ = some (.int .u64 (kh : Int)) ∧ U.cell? ⟨cb, 2, none⟩ = some (.int .u64 (kl : Int))) ∧ But H.Sw w4 U) (first | exact HS18.out _ HB6.out | exact HS18.out _ (HB5.out.call (Below.refl _ _).drew)) (first
                | (go_at_call 9; refine (HF1.out _ (HD5.out.later (Below.refl _ _).drew)).mono ?_; rintro e w6 ⟨rfl, hb⟩; have HD6 := hid (HD5.out.later (below_call (Below.refl wr.heap.size wr).drew hb)); have HQ6 := hid (HQ5.out.later (below_call (Below.refl wr.heap.size wr).drew hb)); have HB6 := hid (HB5.out.call (below_call (Below.refl wr.heap.size wr).drew hb)); clear hb))
              go_upto_region 19 with fail
              go_region_held3 (fun U => (U.cell? ⟨H.d, 2, none⟩ = some (.pointer (some ⟨H.r, 0, none⟩)) ∧ U.cell? ⟨cb, 0, none⟩ = some (.int .i64 ko) ∧ U.cell? ⟨cb, 1, none⟩ = some (.int .u64 (kh : Int)) ∧ U.cell? ⟨cb, 2, none⟩ = some (.int .u64 (kl : Int))) ∧ But H.Sw w4 U) (first | exact HS19.out _ HB7.out | exact HS19.out _ (HB6.out.call (Below.refl _ _).drew)) (first
                | (go_at_call 22; refine (HF2.out _ (HQ6.out.later (Below.refl _ _).drew)).mono ?_; rintro e w7 ⟨rfl, hb⟩; have HD7 := hid (HD6.out.later (below_call (Below.refl w6.heap.size w6).drew hb)); have HQ7 := hid (HQ6.out.later (below_call (Below.refl w6.heap.size w6).drew hb)); have HB7 := hid (HB6.out.call (below_call (Below.refl w6.heap.size w6).drew hb)); clear hb))
              go_wp2
              exact ⟨⟨j + 1, by go_num, by omega, HD7.out, HQ7.out, HEn.out _ HB7.out⟩, by simp [intOf]; omega⟩
        · have hdj : decide ((j : Int) < (n : Int)) = false := decide_eq_false (by omega)
          go_wp2
          go_ret
          exact ⟨rfl, HFi2.out _ HB2.out⟩
end Go.Proofs.Ytlelglfdamakaaa
