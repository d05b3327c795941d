import Derived.Test.YtlelglfdamakaaaU1
namespace Go.Proofs.Ytlelglfdamakaaa
open Go.RowKit H
set_option linter.unusedVariables false
set_option linter.unusedSimpArgs false
variable {w w' : World} {Ha Hb : Hv} {X : List Tk} {l : Fo}

/-! ### ValidateSame -/
def Ab (Ha Hb : Hv) (k : Nat) : Prop := Ha.Pw k ∨ Hb.Pw k
theorem Ab.a {w w' : World} (h : But Ha.Pw w w') : But (Ab Ha Hb) w w' := h.mono (fun k hk => .inl hk)
theorem Ab.b {w w' : World} (h : But Hb.Pw w w') : But (Ab Ha Hb) w w' := h.mono (fun k hk => .inr hk)
/-- A call of a script in a box. -/
structure Bq (w : World) (b : Nat) (kd : Int) (ko : Int) (kh kl : Nat) (p nd : Int) (a : Option Addr) (m cap : Nat) : Prop where
  c0 : w.cell? ⟨b, 0, none⟩ = some (.int .i64 kd)
  c1 : w.cell? ⟨b, 1, none⟩ = some (.int .i64 ko)
  c2 : w.cell? ⟨b, 2, none⟩ = some (.int .u64 (kh : Int))
  c3 : w.cell? ⟨b, 3, none⟩ = some (.int .u64 (kl : Int))
  c4 : w.cell? ⟨b, 4, none⟩ = some (.int .i64 p)
  c5 : w.cell? ⟨b, 5, none⟩ = some (.int .i64 nd)
  c6 : w.cell? ⟨b, 6, none⟩ = some (.slice a m cap)
theorem Bq.but {S : Nat → Prop} {w w' : World} {b : Nat} {kd ko : Int} {kh kl : Nat} {p nd : Int} {a : Option Addr} {m cap : Nat} (h : Bq w b kd ko kh kl p nd a m cap) (hb : But S w w') (hn : ¬ S b) : Bq w' b kd ko kh kl p nd a m cap :=
  ⟨cell_but hb h.c0 hn, cell_but hb h.c1 hn, cell_but hb h.c2 hn, cell_but hb h.c3 hn, cell_but hb h.c4 hn, cell_but hb h.c5 hn, cell_but hb h.c6 hn⟩
def SmRel (v : World) (Ha Hb : Hv) (n : Nat) (t : Value) (wr : World) : Prop :=
  ∃ (i : Nat) (X : List Tk) (l : Fo), t = .int .i64 (i : Int) ∧ i ≤ n ∧ Ds wr Ha X l ∧ Ds wr Hb X l ∧ But (Ab Ha Hb) v wr
set_option maxRecDepth 100000 in
set_option maxHeartbeats 8000000 in
theorem same_law (en a0 a1 a2 b0 b1 b2 : Int) (w : World) {a : Option Addr} {n cap : Nat} {f : Nat → Sp} (hS : Ss w a n f) (hn : n ≤ 9223372036854775807) :
    Calls Try.prog 4 #[.int .i64 en, .agg #[.int .i64 a0, .int .i64 a1, .int .i64 a2], .agg #[.int .i64 b0, .int .i64 b1, .int .i64 b2], .slice a n cap] w fun e w' => e = .returned (.bool true) ∧ Below w.heap.size w w' := by
  obtain ⟨w0, hw0⟩ : ∃ w0, w0 = (w.alloc (Obj.cells #[.int .i64 a0, .int .i64 a1, .int .i64 a2] 23)).alloc (Obj.cells #[.int .i64 b0, .int .i64 b1, .int .i64 b2] 23) := ⟨_, rfl⟩
  have hB0 : Below w.heap.size w w0 := by rw [hw0]; exact below2 _ _ _
  have HC : Hid (∀ U, Below w0.heap.size w0 U → U.cell? ⟨w.heap.size + 1, 0, none⟩ = some (.int .i64 b0) ∧ U.cell? ⟨w.heap.size + 1, 1, none⟩ = some (.int .i64 b1) ∧ U.cell? ⟨w.heap.size + 1, 2, none⟩ = some (.int .i64 b2)) := fun U hU =>
    ⟨cell_later hU (by rw [hw0]; simp [go_sem]), cell_later hU (by rw [hw0]; simp [go_sem]), cell_later hU (by rw [hw0]; simp [go_sem])⟩
  have y0 : w0.cell? ⟨w.heap.size, 0, none⟩ = some (.int .i64 a0) := by rw [hw0]; simp [go_sem]
  have y1 : w0.cell? ⟨w.heap.size, 1, none⟩ = some (.int .i64 a1) := by rw [hw0]; simp [go_sem]
  have y2 : w0.cell? ⟨w.heap.size, 2, none⟩ = some (.int .i64 a2) := by rw [hw0]; simp [go_sem]
  have HDa := hid (desk_any en a0 a1 a2 w0)
  have HDb := hid (fun (U : World) => desk_any en b0 b1 b2 U)
  have HS := hid hS
  have HB0 := hid hB0
  clear hS hB0
  generalize 1 + modN en 20 = mo at *
  go_enter Try.func4, Try.ntmps4
  go_upto_region 1 with fail
  rw [← hw0]
  clear hw0
  go_upto_region 2 with (first | (go_at_call 6; refine HDa.out.mono ?_; rintro e w1 ⟨Ha, rfl, hl⟩; have HLa := hid hl; clear hl))
  clear y0 y1 y2 HDa
  obtain ⟨y0, y1, y2⟩ := HC.out w1 HLa.out.be
  go_upto_region 3 with (first | (go_at_call 6; refine (HDb.out _).mono ?_; rintro e w2 ⟨Hb, rfl, hl⟩; have HLb := hid hl; clear hl))
  clear y0 y1 y2 HC HDb
  go_upto_region 6 with (first | (go_at_call 7; refine (alive_any _).mono ?_; rintro e w3 ⟨rfl, hb⟩; have HB3 := hid hb; clear hb))
  have HMa : Hid (Ha.mo = mo) := HLa.out.mo_
  have HMb : Hid (Hb.mo = mo) := HLb.out.mo_
  have HAB : Hid (∀ k, Ha.All k → ¬ Hb.All k) := fun k h1 h2 => by
    have := HLa.out.hi k h1
    have := HLb.out.lo k h2
    omega
  have HLo : Hid (∀ k, Ha.All k ∨ Hb.All k → w.heap.size ≤ k) := fun k hk => by
    have e0 := HB0.out.size
    have e1 := HLa.out.be.size
    rcases hk with h1 | h1
    · have := HLa.out.lo k h1; omega
    · have := HLb.out.lo k h1; omega
  have HHi : Hid (∀ k, Ha.All k ∨ Hb.All k → k < w3.heap.size) := fun k hk => by
    have e1 := HLb.out.be.size
    have e2 := HB3.out.size
    rcases hk with h1 | h1
    · have := HLa.out.hi k h1; omega
    · have := HLb.out.hi k h1; omega
  have HBA : Hid (∀ k, Hb.All k → ¬ Ha.All k) := fun k h1 h2 => HAB.out k h2 h1
  have HBw : Hid (Below w.heap.size w w3) := below_call (below_call (below_call HB0.out HLa.out.be) HLb.out.be) HB3.out
  have HFin : Hid (∀ U, But (Ab Ha Hb) w3 U → Below w.heap.size w U) := fun U hU => But.below HBw.out hU (fun k hk => HLo.out k (hk.imp Hv.Pw.all Hv.Pw.all))
  have H0 : Hid (SmRel w3 Ha Hb n (.int .i64 0) w3) := ⟨0, List.replicate mo tz, [], rfl, by omega, (HLa.out.ds.later HLb.out.be).later HB3.out, HLb.out.ds.later HB3.out, But.refl _ _⟩
  clear HLa HLb HB3 HB0
  go_loopw [11] (SmRel w3 Ha Hb n) (fun t _ => n - (intOf t).toNat)
  case atStart => exact H0.out
  case round =>
    clear H0
    obtain ⟨i, X, l, rfl, hi, hDa, hDb, hB⟩ := hrel
    have HDa := hid hDa
    have HDb := hid hDb
    have HB := hid hB
    clear hDa hDb hB
    by_cases hlt : i < n
    · have hd : decide ((i : Int) < (n : Int)) = true := decide_eq_true (by omega)
      obtain ⟨b, o, rfl, hat⟩ := HS.out (by omega)
      have hs := (hat i hlt).later (HFin.out _ HB.out)
      have HWd := hid hs.wide
      have HLo2 : Hid (0 < (f i).ln → ∀ k, Blk (f i).la k → ¬ Ha.All k ∧ ¬ Hb.All k) := fun h0 k hk => by
        have h1 := (hat i hlt).blk h0 k hk
        have h2 := HLo.out k
        exact ⟨fun e => by have := h2 (.inl e); omega, fun e => by have := h2 (.inr e); omega⟩
      have HRd := hid hs.rd
      have HAl := hid hs.all
      have hsm := hs.small
      obtain ⟨s0, s1, s2, s3, s4, s5, s6, _, _, _, _, _⟩ := hs
      clear hat
      generalize f i = s at *
      obtain ⟨kd, ⟨ko, kh, kl⟩, p, nd, la, ln, lc, L⟩ := s
      simp only at s0 s1 s2 s3 s4 s5 s6 HWd HLo2 HRd HAl hsm
      obtain ⟨w2, hw2⟩ : ∃ w2, w2 = wr.alloc (Obj.cells #[.int .i64 kd, .int .i64 ko, .int .u64 (kh : Int), .int .u64 (kl : Int), .int .i64 p, .int .i64 nd, .slice la ln lc] 54) := ⟨_, rfl⟩
      have hB2 : Below wr.heap.size wr w2 := by rw [hw2]; exact below1 _ _
      have hbq : Bq w2 wr.heap.size kd ko kh kl p nd la ln lc := by rw [hw2]; exact ⟨by simp [go_sem], by simp [go_sem], by simp [go_sem], by simp [go_sem], by simp [go_sem], by simp [go_sem], by simp [go_sem]⟩
      have HLt : Hid (∀ k, Ha.All k ∨ Hb.All k → k < wr.heap.size) := fun k hk => Nat.lt_of_lt_of_le (HHi.out k hk) HB.out.size
      have HO : Hid (∀ U, But (Ab Ha Hb) w2 U → Bq U wr.heap.size kd ko kh kl p nd la ln lc) := fun U hU => hbq.but hU (fun e => absurd (HLt.out _ (e.imp Hv.Pw.all Hv.Pw.all)) (by omega))
      have HDa2 := hid (HDa.out.later hB2)
      have HDb2 := hid (HDb.out.later hB2)
      have HTa : Hid (∀ U, But (Ab Ha Hb) w2 U → Tp U Ha.d Ha.A.g Ha.v Ha.r) := fun U hU => HDa2.out.tp.but hU (fun e => by
        rcases e with e | e
        · exact HDa2.out.vt.dis.nd e
        · exact HAB.out _ (.inr (.inr (.inr (.inl rfl)))) e.all)
      have HTb : Hid (∀ U, But (Ab Ha Hb) w2 U → Tp U Hb.d Hb.A.g Hb.v Hb.r) := fun U hU => HDb2.out.tp.but hU (fun e => by
        rcases e with e | e
        · exact HAB.out _ e.all (.inr (.inr (.inr (.inl rfl))))
        · exact HDb2.out.vt.dis.nd e)
      have HR2 : Hid (But (Ab Ha Hb) w2 w2) := But.refl _ _
      have HB2 := hid hB2
      have HEnd : Hid (∀ U, But (Ab Ha Hb) w2 U → But (Ab Ha Hb) w3 U) := fun U hU => (HB.out.call HB2.out).trans hU
      clear hB2 hbq HDa HDb HLt
      by_cases k1 : kd = 1
      · subst k1
        go_upto_region 9 with fail
        rw [← hw2]
        clear hw2 s0 s1 s2 s3 s4 s5 s6
        have z0 := (HO.out w2 HR2.out).c0
        go_upto_region 10 with fail
        clear z0
        have HCa := hid (fun (U : World) (h : Ds U Ha X l) => droot h HMa.out (ko, kh, kl) nd HWd.out)
        have HCb := hid (fun (U : World) (h : Ds U Hb X l) => droot h HMb.out (ko, kh, kl) nd HWd.out)
        have HS_11 : Hid (∀ U, But (Ab Ha Hb) w2 U → (U.cell? ⟨Ha.d, 0, none⟩ = some (.pointer (some ⟨Ha.A.g, 0, none⟩)) ∧ U.cell? ⟨wr.heap.size, 1, none⟩ = some (.int .i64 ko) ∧ U.cell? ⟨wr.heap.size, 2, none⟩ = some (.int .u64 (kh : Int)) ∧ U.cell? ⟨wr.heap.size, 3, none⟩ = some (.int .u64 (kl : Int)) ∧ U.cell? ⟨wr.heap.size, 5, none⟩ = some (.int .i64 nd)) ∧ But (Ab Ha Hb) w2 U) := fun U hU => ⟨⟨(HTa.out U hU).c0, (HO.out U hU).c1, (HO.out U hU).c2, (HO.out U hU).c3, (HO.out U hU).c5⟩, hU⟩
        go_upto_region 11 with fail
        go_region_held3 (fun U => (U.cell? ⟨Ha.d, 0, none⟩ = some (.pointer (some ⟨Ha.A.g, 0, none⟩)) ∧ U.cell? ⟨wr.heap.size, 1, none⟩ = some (.int .i64 ko) ∧ U.cell? ⟨wr.heap.size, 2, none⟩ = some (.int .u64 (kh : Int)) ∧ U.cell? ⟨wr.heap.size, 3, none⟩ = some (.int .u64 (kl : Int)) ∧ U.cell? ⟨wr.heap.size, 5, none⟩ = some (.int .i64 nd)) ∧ But (Ab Ha Hb) w2 U) (first | exact HS_11.out _ HB_11.out | exact HS_11.out _ (HR2.out.call (Below.refl _ _).drew)) (first
          | (go_at_call 8; refine (HCa.out _ (HDa2.out.later (Below.refl w2.heap.size w2).drew)).mono ?_; rintro e w3 ⟨rfl, hd, hb⟩; have HDa3 := hid hd; have HDb3 := hid ((HDb2.out.later (Below.refl w2.heap.size w2).drew).far HAB.out hb); clear hd; have HB_11 := hid ((HR2.out.call (Below.refl w2.heap.size w2).drew).trans (Ab.a hb)); clear hb))
        clear HS_11
        have HS_12 : Hid (∀ U, But (Ab Ha Hb) w2 U → (U.cell? ⟨Hb.d, 0, none⟩ = some (.pointer (some ⟨Hb.A.g, 0, none⟩)) ∧ U.cell? ⟨wr.heap.size, 1, none⟩ = some (.int .i64 ko) ∧ U.cell? ⟨wr.heap.size, 2, none⟩ = some (.int .u64 (kh : Int)) ∧ U.cell? ⟨wr.heap.size, 3, none⟩ = some (.int .u64 (kl : Int)) ∧ U.cell? ⟨wr.heap.size, 5, none⟩ = some (.int .i64 nd)) ∧ But (Ab Ha Hb) w2 U) := fun U hU => ⟨⟨(HTb.out U hU).c0, (HO.out U hU).c1, (HO.out U hU).c2, (HO.out U hU).c3, (HO.out U hU).c5⟩, hU⟩
        go_upto_region 12 with fail
        go_region_held3 (fun U => (U.cell? ⟨Hb.d, 0, none⟩ = some (.pointer (some ⟨Hb.A.g, 0, none⟩)) ∧ U.cell? ⟨wr.heap.size, 1, none⟩ = some (.int .i64 ko) ∧ U.cell? ⟨wr.heap.size, 2, none⟩ = some (.int .u64 (kh : Int)) ∧ U.cell? ⟨wr.heap.size, 3, none⟩ = some (.int .u64 (kl : Int)) ∧ U.cell? ⟨wr.heap.size, 5, none⟩ = some (.int .i64 nd)) ∧ But (Ab Ha Hb) w2 U) (first | exact HS_12.out _ HB_12.out | exact HS_12.out _ (HB_11.out.call (Below.refl _ _).drew)) (first
          | (go_at_call 8; refine (HCb.out _ (HDb3.out.later (Below.refl w3.heap.size w3).drew)).mono ?_; rintro e w4 ⟨rfl, hd, hb⟩; have HDb4 := hid hd; have HDa4 := hid ((HDa3.out.later (Below.refl w3.heap.size w3).drew).far HBA.out hb); clear hd; have HB_12 := hid ((HB_11.out.call (Below.refl w3.heap.size w3).drew).trans (Ab.b hb)); clear hb))
        clear HS_12
        go_wp2
        exact ⟨⟨i + 1, _, _, by go_num, by omega, HDa4.out, HDb4.out, HEnd.out _ HB_12.out⟩, by simp [intOf]; omega⟩
      · by_cases k2 : kd = 2
        · subst k2
          go_upto_region 9 with fail
          rw [← hw2]
          clear hw2 s0 s1 s2 s3 s4 s5 s6
          have z0 := (HO.out w2 HR2.out).c0
          go_upto_region 10 with fail
          clear z0
          have HCa := hid (fun (U : World) (h : Ds U Ha X l) => dchild h HMa.out p (ko, kh, kl) nd HWd.out)
          have HCb := hid (fun (U : World) (h : Ds U Hb X l) => dchild h HMb.out p (ko, kh, kl) nd HWd.out)
          have HS_14 : Hid (∀ U, But (Ab Ha Hb) w2 U → (U.cell? ⟨Ha.d, 0, none⟩ = some (.pointer (some ⟨Ha.A.g, 0, none⟩)) ∧ U.cell? ⟨wr.heap.size, 1, none⟩ = some (.int .i64 ko) ∧ U.cell? ⟨wr.heap.size, 2, none⟩ = some (.int .u64 (kh : Int)) ∧ U.cell? ⟨wr.heap.size, 3, none⟩ = some (.int .u64 (kl : Int)) ∧ U.cell? ⟨wr.heap.size, 4, none⟩ = some (.int .i64 p) ∧ U.cell? ⟨wr.heap.size, 5, none⟩ = some (.int .i64 nd)) ∧ But (Ab Ha Hb) w2 U) := fun U hU => ⟨⟨(HTa.out U hU).c0, (HO.out U hU).c1, (HO.out U hU).c2, (HO.out U hU).c3, (HO.out U hU).c4, (HO.out U hU).c5⟩, hU⟩
          go_upto_region 14 with fail
          go_region_held3 (fun U => (U.cell? ⟨Ha.d, 0, none⟩ = some (.pointer (some ⟨Ha.A.g, 0, none⟩)) ∧ U.cell? ⟨wr.heap.size, 1, none⟩ = some (.int .i64 ko) ∧ U.cell? ⟨wr.heap.size, 2, none⟩ = some (.int .u64 (kh : Int)) ∧ U.cell? ⟨wr.heap.size, 3, none⟩ = some (.int .u64 (kl : Int)) ∧ U.cell? ⟨wr.heap.size, 4, none⟩ = some (.int .i64 p) ∧ U.cell? ⟨wr.heap.size, 5, none⟩ = some (.int .i64 nd)) ∧ But (Ab Ha Hb) w2 U) (first | exact HS_14.out _ HB_14.out | exact HS_14.out _ (HR2.out.call (Below.refl _ _).drew)) (first
            | (go_at_call 10; refine (HCa.out _ (HDa2.out.later (Below.refl w2.heap.size w2).drew)).mono ?_; rintro e w3 ⟨rfl, hd, hb⟩; have HDa3 := hid hd; have HDb3 := hid ((HDb2.out.later (Below.refl w2.heap.size w2).drew).far HAB.out hb); clear hd; have HB_14 := hid ((HR2.out.call (Below.refl w2.heap.size w2).drew).trans (Ab.a hb)); clear hb))
          clear HS_14
          have HS_15 : Hid (∀ U, But (Ab Ha Hb) w2 U → (U.cell? ⟨Hb.d, 0, none⟩ = some (.pointer (some ⟨Hb.A.g, 0, none⟩)) ∧ U.cell? ⟨wr.heap.size, 1, none⟩ = some (.int .i64 ko) ∧ U.cell? ⟨wr.heap.size, 2, none⟩ = some (.int .u64 (kh : Int)) ∧ U.cell? ⟨wr.heap.size, 3, none⟩ = some (.int .u64 (kl : Int)) ∧ U.cell? ⟨wr.heap.size, 4, none⟩ = some (.int .i64 p) ∧ U.cell? ⟨wr.heap.size, 5, none⟩ = some (.int .i64 nd)) ∧ But (Ab Ha Hb) w2 U) := fun U hU => ⟨⟨(HTb.out U hU).c0, (HO.out U hU).c1, (HO.out U hU).c2, (HO.out U hU).c3, (HO.out U hU).c4, (HO.out U hU).c5⟩, hU⟩
          go_upto_region 15 with fail
          go_region_held3 (fun U => (U.cell? ⟨Hb.d, 0, none⟩ = some (.pointer (some ⟨Hb.A.g, 0, none⟩)) ∧ U.cell? ⟨wr.heap.size, 1, none⟩ = some (.int .i64 ko) ∧ U.cell? ⟨wr.heap.size, 2, none⟩ = some (.int .u64 (kh : Int)) ∧ U.cell? ⟨wr.heap.size, 3, none⟩ = some (.int .u64 (kl : Int)) ∧ U.cell? ⟨wr.heap.size, 4, none⟩ = some (.int .i64 p) ∧ U.cell? ⟨wr.heap.size, 5, none⟩ = some (.int .i64 nd)) ∧ But (Ab Ha Hb) w2 U) (first | exact HS_15.out _ HB_15.out | exact HS_15.out _ (HB_14.out.call (Below.refl _ _).drew)) (first
            | (go_at_call 10; refine (HCb.out _ (HDb3.out.later (Below.refl w3.heap.size w3).drew)).mono ?_; rintro e w4 ⟨rfl, hd, hb⟩; have HDb4 := hid hd; have HDa4 := hid ((HDa3.out.later (Below.refl w3.heap.size w3).drew).far HBA.out hb); clear hd; have HB_15 := hid ((HB_14.out.call (Below.refl w3.heap.size w3).drew).trans (Ab.b hb)); clear hb))
          clear HS_15
          go_wp2
          exact ⟨⟨i + 1, _, _, by go_num, by omega, HDa4.out, HDb4.out, HEnd.out _ HB_15.out⟩, by simp [intOf]; omega⟩
        · by_cases k3 : kd = 3
          · subst k3
            go_upto_region 9 with fail
            rw [← hw2]
            clear hw2 s0 s1 s2 s3 s4 s5 s6
            have z0 := (HO.out w2 HR2.out).c0
            go_upto_region 10 with fail
            clear z0
            have HCa := hid (fun (U : World) (h : Ds U Ha X l) => ddrop h p)
            have HCb := hid (fun (U : World) (h : Ds U Hb X l) => ddrop h p)
            have HS_17 : Hid (∀ U, But (Ab Ha Hb) w2 U → (U.cell? ⟨Ha.d, 0, none⟩ = some (.pointer (some ⟨Ha.A.g, 0, none⟩)) ∧ U.cell? ⟨wr.heap.size, 4, none⟩ = some (.int .i64 p)) ∧ But (Ab Ha Hb) w2 U) := fun U hU => ⟨⟨(HTa.out U hU).c0, (HO.out U hU).c4⟩, hU⟩
            go_upto_region 17 with fail
            go_region_held3 (fun U => (U.cell? ⟨Ha.d, 0, none⟩ = some (.pointer (some ⟨Ha.A.g, 0, none⟩)) ∧ U.cell? ⟨wr.heap.size, 4, none⟩ = some (.int .i64 p)) ∧ But (Ab Ha Hb) w2 U) (first | exact HS_17.out _ HB_17.out | exact HS_17.out _ (HR2.out.call (Below.refl _ _).drew)) (first
              | (go_at_call 13; refine (HCa.out _ (HDa2.out.later (Below.refl w2.heap.size w2).drew)).mono ?_; rintro e w3 ⟨la3, lc3, rfl, _, hd, hb⟩; have HDa3 := hid hd; have HDb3 := hid ((HDb2.out.later (Below.refl w2.heap.size w2).drew).far HAB.out hb); clear hd; have HB_17 := hid ((HR2.out.call (Below.refl w2.heap.size w2).drew).trans (Ab.a hb)); clear hb))
            clear HS_17
            have z1 := (HTa.out _ HB_17.out).c1
            go_upto_region 19 with (first | (go_at_call 14; refine (dgone HDa3.out).mono ?_; rintro e w4 ⟨rfl, hd, hb⟩; have HDa4 := hid hd; have HDb4 := hid (HDb3.out.far HAB.out hb); have HB_18 := hid (HB_17.out.trans (Ab.a hb)); clear hd hb))
            clear z1
            have HS_19 : Hid (∀ U, But (Ab Ha Hb) w2 U → (U.cell? ⟨Hb.d, 0, none⟩ = some (.pointer (some ⟨Hb.A.g, 0, none⟩)) ∧ U.cell? ⟨wr.heap.size, 4, none⟩ = some (.int .i64 p)) ∧ But (Ab Ha Hb) w2 U) := fun U hU => ⟨⟨(HTb.out U hU).c0, (HO.out U hU).c4⟩, hU⟩
            go_upto_region 19 with fail
            go_region_held3 (fun U => (U.cell? ⟨Hb.d, 0, none⟩ = some (.pointer (some ⟨Hb.A.g, 0, none⟩)) ∧ U.cell? ⟨wr.heap.size, 4, none⟩ = some (.int .i64 p)) ∧ But (Ab Ha Hb) w2 U) (first | exact HS_19.out _ HB_19.out | exact HS_19.out _ (HB_18.out.call (Below.refl _ _).drew)) (first
              | (go_at_call 13; refine (HCb.out _ (HDb4.out.later (Below.refl w4.heap.size w4).drew)).mono ?_; rintro e w5 ⟨la5, lc5, rfl, _, hd, hb⟩; have HDb5 := hid hd; have HDa5 := hid ((HDa4.out.later (Below.refl w4.heap.size w4).drew).far HBA.out hb); clear hd; have HB_19 := hid ((HB_18.out.call (Below.refl w4.heap.size w4).drew).trans (Ab.b hb)); clear hb))
            clear HS_19
            have z1 := (HTb.out _ HB_19.out).c1
            go_wp2_with (first | (go_at_call 14; refine (dgone HDb5.out).mono ?_; rintro e w6 ⟨rfl, hd, hb⟩; have HDb6 := hid hd; have HDa6 := hid (HDa5.out.far HBA.out hb); have HB_20 := hid (HB_19.out.trans (Ab.b hb)); clear hd hb))
            exact ⟨⟨i + 1, _, _, by go_num, by omega, HDa6.out, HDb6.out, HEnd.out _ HB_20.out⟩, by simp [intOf]; omega⟩
          · by_cases k4 : kd = 4
            · subst k4
              go_upto_region 9 with fail
              rw [← hw2]
              clear hw2 s0 s1 s2 s3 s4 s5 s6
              have z0 := (HO.out w2 HR2.out).c0
              go_upto_region 10 with fail
              clear z0
              have HCa := hid (fun (U : World) (h : Ds U Ha X l) => dgiven h (ko, kh, kl) nd HWd.out)
              have HCb := hid (fun (U : World) (h : Ds U Hb X l) => dgiven h (ko, kh, kl) nd HWd.out)
              have HCs := hid (fun (U : World) (h : Ds U Ha X l) => says_any h (ko, kh, kl) nd HWd.out)
              generalize givE X l nd (ko, kh, kl) = E at *
              have hE : (E != E) = false := by simp
              have HS_22 : Hid (∀ U, But (Ab Ha Hb) w2 U → (U.cell? ⟨Ha.d, 1, none⟩ = some (.pointer (some ⟨Ha.v, 0, none⟩)) ∧ U.cell? ⟨wr.heap.size, 1, none⟩ = some (.int .i64 ko) ∧ U.cell? ⟨wr.heap.size, 2, none⟩ = some (.int .u64 (kh : Int)) ∧ U.cell? ⟨wr.heap.size, 3, none⟩ = some (.int .u64 (kl : Int)) ∧ U.cell? ⟨wr.heap.size, 5, none⟩ = some (.int .i64 nd)) ∧ But (Ab Ha Hb) w2 U) := fun U hU => ⟨⟨(HTa.out U hU).c1, (HO.out U hU).c1, (HO.out U hU).c2, (HO.out U hU).c3, (HO.out U hU).c5⟩, hU⟩
              go_upto_region 22 with fail
              go_region_held3 (fun U => (U.cell? ⟨Ha.d, 1, none⟩ = some (.pointer (some ⟨Ha.v, 0, none⟩)) ∧ U.cell? ⟨wr.heap.size, 1, none⟩ = some (.int .i64 ko) ∧ U.cell? ⟨wr.heap.size, 2, none⟩ = some (.int .u64 (kh : Int)) ∧ U.cell? ⟨wr.heap.size, 3, none⟩ = some (.int .u64 (kl : Int)) ∧ U.cell? ⟨wr.heap.size, 5, none⟩ = some (.int .i64 nd)) ∧ But (Ab Ha Hb) w2 U) (first | exact HS_22.out _ HB_22.out | exact HS_22.out _ (HR2.out.call (Below.refl _ _).drew)) (first
                | (go_at_call 11; refine (HCa.out _ (HDa2.out.later (Below.refl w2.heap.size w2).drew)).mono ?_; rintro e w3 ⟨rfl, hd, hb⟩; have HDa3 := hid hd; have HDb3 := hid ((HDb2.out.later (Below.refl w2.heap.size w2).drew).far HAB.out hb); clear hd; have HB_22 := hid ((HR2.out.call (Below.refl w2.heap.size w2).drew).trans (Ab.a hb)); clear hb))
              clear HS_22
              have HS_23 : Hid (∀ U, But (Ab Ha Hb) w2 U → (U.cell? ⟨Hb.d, 1, none⟩ = some (.pointer (some ⟨Hb.v, 0, none⟩)) ∧ U.cell? ⟨wr.heap.size, 1, none⟩ = some (.int .i64 ko) ∧ U.cell? ⟨wr.heap.size, 2, none⟩ = some (.int .u64 (kh : Int)) ∧ U.cell? ⟨wr.heap.size, 3, none⟩ = some (.int .u64 (kl : Int)) ∧ U.cell? ⟨wr.heap.size, 5, none⟩ = some (.int .i64 nd)) ∧ But (Ab Ha Hb) w2 U) := fun U hU => ⟨⟨(HTb.out U hU).c1, (HO.out U hU).c1, (HO.out U hU).c2, (HO.out U hU).c3, (HO.out U hU).c5⟩, hU⟩
              go_upto_region 23 with fail
              go_region_held3 (fun U => (U.cell? ⟨Hb.d, 1, none⟩ = some (.pointer (some ⟨Hb.v, 0, none⟩)) ∧ U.cell? ⟨wr.heap.size, 1, none⟩ = some (.int .i64 ko) ∧ U.cell? ⟨wr.heap.size, 2, none⟩ = some (.int .u64 (kh : Int)) ∧ U.cell? ⟨wr.heap.size, 3, none⟩ = some (.int .u64 (kl : Int)) ∧ U.cell? ⟨wr.heap.size, 5, none⟩ = some (.int .i64 nd)) ∧ But (Ab Ha Hb) w2 U) (first | exact HS_23.out _ HB_24.out | exact HS_23.out _ HB_23.out | exact HS_23.out _ (HB_22.out.call (Below.refl _ _).drew)) (first
                | (go_at_call 12; refine (num_any _ _).mono ?_; rintro e w9 ⟨rfl, hw9⟩; obtain rfl := hw9.symm; clear hw9)
                | (go_at_call 16; refine (HCs.out _ HDa4.out).mono ?_; rintro e w5 ⟨rfl, hb⟩; have HDa5 := hid (HDa4.out.later hb); have HDb5 := hid (HDb4.out.later hb); have HB_24 := hid (HB_23.out.call hb); clear hb)
                | (go_at_call 11; refine (HCb.out _ (HDb3.out.later (Below.refl w3.heap.size w3).drew)).mono ?_; rintro e w4 ⟨rfl, hd, hb⟩; have HDb4 := hid hd; have HDa4 := hid ((HDa3.out.later (Below.refl w3.heap.size w3).drew).far HBA.out hb); have HB_23 := hid ((HB_22.out.call (Below.refl w3.heap.size w3).drew).trans (Ab.b hb)); clear hd hb))
              go_wp2
              exact ⟨⟨i + 1, _, _, by go_num, by omega, HDa5.out, HDb5.out, HEnd.out _ HB_24.out⟩, by simp [intOf]; omega⟩
            · by_cases k5 : kd = 5
              · subst k5
                go_upto_region 9 with fail
                rw [← hw2]
                clear hw2 s0 s1 s2 s3 s4 s5 s6
                have z0 := (HO.out w2 HR2.out).c0
                go_upto_region 10 with fail
                clear z0
                have HNm := hid (lnamed_any HDa2.out HDb2.out HAB.out 5 (ko, kh, kl) p nd (cap := lc) (HRd.out.later HB2.out) hsm HAl.out HLo2.out)
                unfold opV at HNm
                obtain ⟨z0, z1, z2, z3, z4, z5, z6⟩ := HO.out w2 HR2.out
                go_wp2_with (first | (go_at_call 17; refine HNm.out.mono ?_; rintro e w3 ⟨rfl, hda, hdb, hb⟩; have HDa3 := hid hda; have HDb3 := hid hdb; have HB_26 := hid (hb.mono (fun k hk => show Ab Ha Hb k from hk.elim (fun e => .inl (.inr e)) (fun e => .inr (.inr e)))); clear hda hdb hb))
                exact ⟨⟨i + 1, _, _, by go_num, by omega, HDa3.out, HDb3.out, HEnd.out _ HB_26.out⟩, by simp [intOf]; omega⟩
              · have g1 : (kd == 1) = false := by simp [k1]
                have g2 : (kd == 2) = false := by simp [k2]
                have g3 : (kd == 3) = false := by simp [k3]
                have g4 : (kd == 4) = false := by simp [k4]
                have g5 : (kd == 5) = false := by simp [k5]
                go_upto_region 9 with fail
                rw [← hw2]
                clear hw2 s0 s1 s2 s3 s4 s5 s6
                have z0 := (HO.out w2 HR2.out).c0
                go_upto_region 10 with fail
                clear z0
                go_wp2
                exact ⟨⟨i + 1, _, _, by go_num, by omega, HDa2.out, HDb2.out, HEnd.out _ HR2.out⟩, by simp [intOf]; omega⟩
    · have hd : decide ((i : Int) < (n : Int)) = false := decide_eq_false (by omega)
      go_wp2
      go_ret
      exact ⟨rfl, HFin.out _ HB.out⟩
end Go.Proofs.Ytlelglfdamakaaa
