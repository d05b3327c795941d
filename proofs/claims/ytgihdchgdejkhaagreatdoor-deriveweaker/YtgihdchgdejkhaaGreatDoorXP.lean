import Derived.Test.YtgihdchgdejkhaaGreatDoorXO
import Derived.Test.YtgihdchgdejkhaaGreatDoorPU
namespace Go.Proofs.YtgihdchgdejkhaaGreatDoor.D
open Go.RowKit
open Go.Proofs.YtgihdchgdejkhaaGreatDoor.H (B64 Cp)
set_option linter.unusedVariables false
set_option maxRecDepth 1000000 in
set_option maxHeartbeats 16000000 in
theorem weaker_any {w : World} (hl : Laid w) (wd en ea kn : Int) {a : Option Addr} {n0 cap : Nat} {f : Nat → Nat} (h : Ws w a n0 cap f) (hn0 : n0 ≤ 9223372036854775807) {xa : Option Addr} {n xc : Nat} {F : Nat → Sp} (hS : Ss w xa n F) (hn : n ≤ 9223372036854775807) :
    Calls Tryz.prog 4 #[woV wd en ea kn a n0 cap, .slice xa n xc] w fun e w' => e = .returned (.bool true) ∧ Below w.heap.size w w' := by
  obtain ⟨w0, hw0⟩ : ∃ w0, w0 = w.alloc (Obj.cells #[.int .i64 wd, .int .i64 en, .int .i64 ea, .int .i64 kn, .slice a n0 cap] 24) := ⟨_, rfl⟩
  have hB0 : Below w.heap.size w w0 := by rw [hw0]; exact below1 _ _
  have hv : Wl w0 w.heap.size wd en ea kn a n0 cap := by rw [hw0]; exact Wl.mk_ _ _ _ _ _ _ _ _
  have HHd := hid (head_any w0 (hl.later hB0))
  have HRt := hid (fun (U : World) (hU : Below w0.heap.size w0 U) => right_any wd en ea kn (h.later (below_call hB0 hU)) hn0)
  have HV : Hid (∀ U, Below w0.heap.size w0 U → Wl U w.heap.size wd en ea kn a n0 cap) := fun U hU => hv.later hU
  have HB0 := hid hB0
  have HL := hid hl
  have HSs := hid hS
  have HOl := hid (fun h0 => h.older h0)
  have q1 : intoN wd 128 < 128 := intoN_lt _ (by decide)
  have q2 : intoN en 256 < 256 := intoN_lt _ (by decide)
  have q3 : intoN ea 256 < 256 := intoN_lt _ (by decide)
  have q4 : intoN kn 65 < 65 := intoN_lt _ (by decide)
  generalize intoN wd 128 = m1 at *
  generalize intoN en 256 = m2 at *
  generalize intoN ea 256 = m3 at *
  generalize intoN kn 65 = m4 at *
  clear h hl hB0 hv hS
  unfold woV at HRt ⊢
  go_enter Tryz.func4, Tryz.ntmps4
  go_upto_region 1 with fail
  rw [← hw0]
  clear hw0
  go_upto_region 3 with (first | (go_at_call 6; refine HHd.out.mono ?_; rintro e w1 ⟨rfl, hb1⟩; have HB1 := hid hb1; obtain ⟨⟨x0, _⟩, ⟨x1, _⟩, ⟨x2, _⟩, ⟨x3, _⟩, ⟨x4, _⟩⟩ := HV.out w1 hb1; clear hb1))
  go_upto_region 4 with (first | (go_at_call 7; refine (HRt.out w1 HB1.out).mono ?_; rintro e w2 ⟨k, hk, hkn, hW, rfl, hb2⟩; have HKn := hid hkn; have HB2 := hid (below_call HB1.out hb2); have HW := hid hW; have HSm := hid hW.small; have HK := hid hk; have HC2 := hid hb2; obtain ⟨⟨z0, f0⟩, ⟨z1, f1⟩, ⟨z2, f2⟩, ⟨z3, f3⟩, ⟨z4, f4⟩⟩ := HV.out w2 HB2.out; clear hb2 hW hk hkn))
  obtain ⟨w3, hw3⟩ : ∃ w3, w3 = set5w w2 w.heap.size (1 + (m1 : Int)) (1 + (m2 : Int)) (1 + (m3 : Int)) (m4 : Int) a k cap := ⟨_, rfl⟩
  have hv3 : Wl w3 w.heap.size (1 + (m1 : Int)) (1 + (m2 : Int)) (1 + (m3 : Int)) (m4 : Int) a k cap := by rw [hw3]; exact (HV.out w2 HB2.out).set _ _ _ _ _ _ _
  have HV3 := hid hv3
  have hB3 : But (· = w.heap.size) w2 w3 := by rw [hw3]; exact set5w_own _ _ _ _ _ _ _ _ _
  have HB3 : Hid (Below w.heap.size w w3) := But.below (below_call HB0.out HB2.out) hB3 (fun k hk => by omega)
  unfold set5w at hw3
  rw [← hw3]
  have HMd := hid (made_any (HL.out.later HB3.out) (1 + (m1 : Int)) (1 + m2) (1 + m3) m4 ((HW.out.later HC2.out).butN hB3 (fun h0 x hx e => by have := HOl.out (Nat.lt_of_lt_of_le h0 HKn.out) x hx; omega)) HK.out (by omega) (by omega) (by omega) (by omega) (by omega) (by omega) (by omega))
  have HSz : Hid (w.heap.size < w3.heap.size) := World.block_lt_of_cell? _ _ hv3.c0.1
  rw [show ((1 + m2 : Nat) : Int) = 1 + (m2 : Int) by omega, show ((1 + m3 : Nat) : Int) = 1 + (m3 : Int) by omega] at HMd
  unfold woV at HMd
  obtain ⟨⟨y0, _⟩, ⟨y1, _⟩, ⟨y2, _⟩, ⟨y3, _⟩, ⟨y4, _⟩⟩ := hv3
  clear hw3 hB3 z0 z1 z2 z3 z4 f0 f1 f2 f3 f4 x0 x1 x2 x3 x4 HV HHd HRt HB0 HB1 HB2 HC2 HW HK
  go_upto_region 7 with (first
    | (go_at_call 9; refine HMd.out.mono ?_; rintro e v0 ⟨H, K, sb, rb, rfl, hP, hT, hD, htp, _, hwr, hm1, hall, ⟨hsb, _⟩, _, hb0⟩; have HP := hid hP; have HT0 := hid hT; have HTp := hid htp; have HWr := hid (fun k (hk : H.Wr k) => And.intro (hwr k hk) (hall k (Hd.wr_all hk))); have HSb := hid hsb; have HBz := hid hb0; clear hP hT hD htp hwr hm1 hall hsb hb0))
  have HZ : Hid (∀ k, H.Wr k → w3.heap.size ≤ k ∧ k < v0.heap.size) := fun k hk => ⟨(HWr.out k hk).1, HT0.out.lt k hk⟩
  have hno : ∀ k, k < w3.heap.size → ¬ H.Wr k := fun k hk e => by have := (HZ.out k e).1; omega
  have HG : Hid (∀ U, But H.Wr v0 U → Tp U sb H.g H.A.g H.qg ∧ (U.cell? ⟨w.heap.size, 1, none⟩ = some (.int .i64 (1 + (m2 : Int))) ∧ U.cell? ⟨w.heap.size, 2, none⟩ = some (.int .i64 (1 + (m3 : Int)))) ∧ Ss U xa n F) := fun U hU =>
    ⟨HTp.out.but hU (fun e => by have := (HWr.out _ e).2; have := HSb.out; omega), ⟨(HV3.out.later HBz.out).c1.1 |> fun z => cell_but hU z (hno _ HSz.out), (HV3.out.later HBz.out).c2.1 |> fun z => cell_but hU z (hno _ HSz.out)⟩, HSs.out.but ((But.of (below_call HB3.out HBz.out)).comp hU (fun k hk => .inr (Nat.le_trans HB3.out.size (HZ.out k hk).1)) : But (fun _ => False) w U) (fun _ _ e => e)⟩
  have HBw : Hid (∀ U, But H.Wr v0 U → Below w.heap.size w U) := fun U hU => But.below (below_call HB3.out HBz.out) hU (fun k hk => Nat.le_trans HB3.out.size (HZ.out k hk).1)
  have HI0 : Hid (WI v0 H (s0 (1 + m2)) v0) := ⟨HT0.out, by rw [HP.out]; exact Fit.start _ (fun i hi => cutN_lt (HSm.out i) _) (by show ((1 + m2 : Nat) : Int) ≤ _; exact Int.le_refl _), Wk.start _, But.refl _ _⟩
  have HE : Hid (H.toPar.e = ((1 + m3 : Nat) : Int) ∧ H.toPar.a = ((1 + m2 : Nat) : Int) ∧ H.toPar.mo = 1 + m2) := by unfold Hid; rw [HP.out]; exact ⟨rfl, rfl, rfl⟩
  have HSbn : Hid (¬ H.Wr sb) := fun e => by have := (HWr.out _ e).2; have := HSb.out; omega
  have HSlt : Hid (sb < v0.heap.size) := HTp.out.lt
  clear hno HTp HWr HSb HBz HT0 HMd HL HSs HV3
  have HEx : Hid (H.a = 1 + (m2 : Int) ∧ H.e = 1 + (m3 : Int)) := by
    have h1 := HE.out.1
    have h2 := HE.out.2.1
    change H.e = _ at h1
    change H.a = _ at h2
    exact ⟨by omega, by omega⟩
  have HMo : Hid (H.mo ≤ 1024) := by have := HE.out.2.2; change H.mo = _ at this; show H.mo ≤ 1024; omega
  clear HP HE HSm HOl HKn HSz HB3 HZ
  go_upto_region 8 with fail
  go_loopw [7] (WRel v0 H n) (fun t _ => n - (intOf t).toNat)
  case atStart => exact ⟨0, _, Nat.zero_le _, rfl, HI0⟩
  case round =>
    obtain ⟨i, s, hi, rfl, HI⟩ := hrel
    clear HI0
    by_cases hlt : i < n
    · obtain ⟨pb, po, rfl, _⟩ := (HG.out wr HI.out.but).2.2.at_ (by omega)
      refine wk_round v0 w.heap.size sb pb po n xc i (1 + (m2 : Int)) (1 + (m3 : Int)) wr HI.out hlt hn HG.out HEx.out HMo.out HSbn.out HSlt.out ?_
      intro s' w' hW
      have HW := hid hW
      clear hW
      intros
      go_wp2
      exact ⟨⟨i + 1, s', by omega, by go_num, HW⟩, by simp [intOf]; omega⟩
    · obtain rfl : i = n := by omega
      have hd2 : ¬ (i : Int) < (i : Int) := by omega
      have HFin := hid (HBw.out _ HI.out.but)
      clear HI
      go_wp2
      go_ret
      exact ⟨rfl, HFin.out⟩
end Go.Proofs.YtgihdchgdejkhaaGreatDoor.D
namespace Go.Proofs.YtgihdchgdejkhaaGreatDoor.D
open Go.ChangeShapes Go.WideShapes Go.ChangeAt Go.RowKit Go.Joins

set_option maxRecDepth 100000 in
theorem deriveWeaker_lifted (os : Os) (started : os.Started) (H : Type) (enc : TypeId × Value → H) :
    ReturnsInHanded {} Tryz.checked os 4 .any (fun w args => (Rows.deriveWeakerSpec.pre enc Tryz.prog Tryz.f4 [] false w args ∧ laidMetH Tryz.prog lay_ w) ∧ sizedMet enc Tryz.prog Tryz.f4 (OpenSpec.ofChange Rows.deriveWeakerSpec) false w args)
      (Rows.deriveWeakerSpec.post enc Tryz.prog Tryz.f4 false true false false) := by
  refine returnsInHanded_of_change_and (C := Tryz.checked) (X := fun w _ => laidMetH Tryz.prog lay_ w) (fun _ _ _ hh h => h.of_heap hh) ownK started (by kernel_rfl) Tryz.func4
    (ChangeSpec.witness_at (enc := enc) (C := Tryz.checked) (os := os) (X := fun w _ => laidMetH Tryz.prog lay_ w) false (laidWorld os) #[.agg #[.int .i64 0, .int .i64 0, .int .i64 0, .int .i64 0, .slice none 0 0], .slice none 0 0] 8 rfl (by kernel_rfl) (by kernel_rfl) (by kernel_rfl) (by kernel_rfl) (by kernel_rfl) (laidWorld_met os _)) ?_
  intro W base args ds gs before hval0 hW _ _ hL _
  have hval : ∀ (j : Nat) t v, Tryz.f4.params[j]? = some t → args[j]? = some v → Value.okWide Tryz.prog W .any base t v := hval0
  have hW' := hW
  obtain ⟨p, q, hA0, hV0, rfl, hfz, hnd⟩ := hW
  have hA : DataW.TrodAll enc Tryz.prog W 0 (fun _ => true) true Tryz.f4.params.toList args.toList ds p := hA0
  rw [Tryz.params4] at hA hval
  obtain ⟨v0, vs0, d0, ds0, p0, q0, hargs, rfl, rfl, h0, r0⟩ := trodAll_cons hA
  obtain ⟨v1, vs1, d1, ds1, p1, q1, rfl, rfl, rfl, h1, r1⟩ := trodAll_cons r0
  obtain ⟨rfl, rfl, rfl⟩ := trodAll_nil r1
  obtain rfl : args = #[v0, v1] := by cases args; simp_all
  obtain ⟨rfl, rfl⟩ := trodVars_none hV0
  have k0 := h0
  have lt0 : ∀ x ∈ p0, x.block < W.heap.size := by obtain ⟨m, hm⟩ := k0; exact DataW.trod_lt m _ _ _ hm
  obtain ⟨wd, en, ea, kn, a, n, cap, f, rfl, hR, hn⟩ := open_world (hval 0 24 v0 rfl rfl) h0
  have k1 := h1
  have lt1 : ∀ x ∈ p1, x.block < W.heap.size := by obtain ⟨m, hm⟩ := k1; exact DataW.trod_lt m _ _ _ hm
  obtain ⟨sa, sn, sc, sf, rfl, hS, hsn⟩ := open_ops (hval 1 49 v1 rfl rfl) h1
  clear hA0 hval0
  refine (weaker_any (handle_of_laid hL) wd en ea kn hR hn hS hsn).mono fun e W' ⟨he, bel⟩ => ?_
  subst he
  exact ⟨_, rfl, _, _, _, [], _, [], hW', trodAll_mk1 (shut_bool Tryz.underlying4 _), (trodAll_cons_mk (Below.trod laidOut (by kernel_rfl) (of_decide_eq_true (by kernel_rfl)) k0 bel lt0) (trodAll_cons_mk (Below.trod laidOut (by kernel_rfl) (of_decide_eq_true (by kernel_rfl)) k1 bel lt1) trodAll_mk0)), rfl, bel.frame _, fun h => by cases h⟩
theorem deriveWeaker_row : Rows.DeriveWeakerSaid :=
  OpenClaim.holds_of_wide 4 Tryz.f4 rfl rfl rfl rfl rfl rfl rfl ⟨rfl, rfl, rfl, rfl, rfl⟩ rfl rfl rfl rfl rfl (by kernel_rfl) Tryz.func4 (by kernel_rfl)
    (of_decide_eq_true (by kernel_rfl)) (by unfold Func.isWrapper; first | (rw [if_pos (by decide +kernel)]; kernel_rfl) | (rw [if_neg (by decide +kernel)]; exact ⟨rfl, rfl⟩))
    (fun os started H enc _ => deriveWeaker_lifted os started H enc)
end Go.Proofs.YtgihdchgdejkhaaGreatDoor.D
namespace Go.Proofs.YtgihdchgdejkhaaGreatDoor
open Go
set_option maxRecDepth 100000 in
theorem deriveWeaker_holds : Rows.DeriveWeakerCardSaid :=
  Claim7.holds_tied_plain_at .later [] [.handle] true (true, "096f737d3d8ba766a5f905820888bc58acf212af1aafd00a76e9d284967c37af") true
    D.deriveWeaker_row (fun _ h => by cases h) (by kernel_rfl) (fun _ h => by cases h) deriveWeaker_row_tie rfl ⟨rfl, rfl⟩ (by kernel_rfl) rfl
    (fun f fn hf hfn => by
      obtain rfl : f = 4 := Option.some.inj ((show Tryz.prog.funcNamed "sesame/sesamelaw14.DeriveWeaker" = some 4 by kernel_rfl).symm.trans hf) |>.symm
      obtain rfl : fn = Tryz.f4 := (Option.some.inj (Tryz.func4.symm.trans hfn)).symm
      exact ⟨by kernel_rfl, fun j t ht => by
        rw [Tryz.params4] at ht
        have h3 : t = 24 ∨ t = 49 := by
          rcases j with _ | _ | j
          · exact .inl (by simpa using ht.symm)
          · exact .inr (by simpa using ht.symm)
          · simp at ht
        rcases h3 with rfl | rfl
        · exact (show Tryz.prog.wantsStandIn 24 = false by kernel_rfl)
        · exact (show Tryz.prog.wantsStandIn 49 = false by kernel_rfl)⟩)
    (by kernel_rfl)
#print axioms deriveWeaker_holds
end Go.Proofs.YtgihdchgdejkhaaGreatDoor
