import Derived.Test.YtnjadfgfpebkdaaGreatGA
namespace Go.Proofs.YtnjadfgfpebkdaaGreat.D
open Go.RowKit
open Go.Proofs.YtnjadfgfpebkdaaGreat.H (B64 Cp)
set_option linter.unusedVariables false

set_option maxRecDepth 100000 in
set_option maxHeartbeats 4000000 in
/-- A child is put in, or refused by both. -/
theorem growC_yes {w : World} {H : Hd} {s : Sta} {T : Nat} {N : Nat → Prop} (h : Duo w H s s T N) (hf : Fit H.mo s) (hT : T < 9223372036854775807) (o : Opr) (ok : o.Ok) (hk6 : o.kd ≠ 6) (hk0 : o.kd ≠ 0) (hne : ofL H.mo s.X s.l o.ob ≠ []) (hm : Q.may 256 (H.mo : Int) s.L o.ob = 0) :
    Calls Tryz.prog 8 #[.pointer (some ⟨H.sb, 0, none⟩), .pointer (some ⟨H.rb, 0, none⟩), opV o] w (Grew w H (if (chR H.mo s o).code ≠ 0 then s else addS s (chC o) (findN s.X s.l (upC H.mo s o)) o.rt s.nx s.V) T N) := by
  obtain ⟨w0, hw0⟩ : ∃ w0, w0 = w.alloc (Obj.cells (opC o) 29) := ⟨_, rfl⟩
  have hB0 : Below w.heap.size w w0 := by rw [hw0]; exact below1 _ _
  have hob : OpB w0 w.heap.size 0 o := by rw [hw0]; exact opb_new w o 29
  have hb6 : (o.kd == 6) = false := by simp [hk6]
  have hb0 : (o.kd == 0) = false := by simp [hk0]
  have HB0 := hid hB0
  have HRg := hid h.rng
  have HD0 := hid (h.later hB0)
  have HOB := hid hob
  have x0 := hob.zero.1
  have hv := hf.inv
  have hpos : 0 < (ofL H.mo s.X s.l o.ob).length := List.length_pos_iff.2 hne
  have HOf : Hid (∀ (U : World), Below w0.heap.size w0 U → Calls Tryz.prog 20 #[.pointer (some ⟨H.r, 0, none⟩), .int .i64 o.ob] U fun e w' => ∃ a c, e = .returned (.slice a (ofL H.mo s.X s.l o.ob).length c) ∧ Ow w' U.heap.size 47 5 a (ofL H.mo s.X s.l o.ob).length c (toks (ofL H.mo s.X s.l o.ob)) ∧ Below U.heap.size U w') := fun U hU => by
    obtain ⟨wh, ev, hr, ht⟩ := (HD0.out.later hU).rc
    exact rof_any hr hv ht o.ob
  have HMy : Hid (∀ (U : World), Below w0.heap.size w0 U → Calls Tryz.prog 42 #[.pointer (some ⟨H.q, 0, none⟩), .int .i64 o.ob] U fun e w' => e = .returned (.int .i64 0) ∧ Below U.heap.size U w') := fun U hU => by
    obtain ⟨pa, cap, hq⟩ := (HD0.out.later hU).rq
    rw [← hm]
    exact Q.rmay_any hq o.ob
  have HS1 : Hid (∀ U, Below w0.heap.size w0 U → U.cell? ⟨H.rb, 0, none⟩ = some (.pointer (some ⟨H.r, 0, none⟩)) ∧ U.cell? ⟨H.rb, 1, none⟩ = some (.pointer (some ⟨H.q, 0, none⟩)) ∧ U.cell? ⟨w.heap.size, 1, none⟩ = some (.int .i64 o.ob)) := fun U hU => ⟨(HD0.out.later hU).t2.c0, (HD0.out.later hU).t2.c1, (HOB.out.later hU).zero.2.1⟩
  have hsm := len_small hv o.ob
  have hmo := h.hmo
  -- the one that is named, and its number
  obtain ⟨nu, hnu, hnt, hnr, hno⟩ := ofL_mem hv (pickT_get hpos o.at_)
  have hup : upC H.mo s o = (tk s.X nu).1 := hnt.symm
  have hfind : findN s.X s.l (upC H.mo s o) = nu := by rw [hup]; exact findN_in hv hnu
  have hhas : hasC s.X s.l (upC H.mo s o) = true := hasC_iff.2 ⟨nu, hnu, hup.symm⟩
  have hwide : (upC H.mo s o).2.1 < B64 ∧ (upC H.mo s o).2.2 < B64 := by rw [hup]; exact hv.wide nu hnu
  obtain ⟨p, hp⟩ : ∃ p, p = findN s.X s.l (upC H.mo s o) := ⟨_, rfl⟩
  obtain ⟨⟨u1, u2, u3⟩, hu⟩ : ∃ c : Cp, c = upC H.mo s o := ⟨_, rfl⟩
  have HF1 : Hid (∀ (U : World), Below w0.heap.size w0 U → Calls Tryz.prog 17 #[.pointer (some ⟨H.A.g, 0, none⟩), .agg #[.int .i64 u1, .int .u64 (u2 : Int), .int .u64 (u3 : Int)]] U fun e w' => e = .returned (.tuple #[.int .i64 p, .bool true]) ∧ Below U.heap.size U w') := fun U hU => by
    have := cfind_any (HD0.out.later hU).cat (upC H.mo s o) hwide
    rw [hhas, ← hp, ← hu] at this
    exact this
  have HF2 : Hid (∀ (U : World), Below w0.heap.size w0 U → Calls Tryz.prog 43 #[.pointer (some ⟨H.r, 0, none⟩), .agg #[.int .i64 u1, .int .u64 (u2 : Int), .int .u64 (u3 : Int)]] U fun e w' => e = .returned (.tuple #[.int .i64 p, .bool true]) ∧ Below U.heap.size U w') := fun U hU => by
    obtain ⟨wh, ev, hr, ht⟩ := (HD0.out.later hU).rc
    have := rfind_any hr hv u1 u2 u3
    rw [hu, hhas, ← hp] at this
    exact this
  have hspec := chR_spec hf ok hm
  rw [← hp] at hspec
  rw [← hp]
  obtain ⟨R, hR⟩ : ∃ R, R = chR H.mo s o := ⟨_, rfl⟩
  have hR2 : R = childR H.mo s.X s.l p (chC o) o.rt := by rw [hR, hp]; rfl
  rw [← hR] at hspec
  rw [← hR]
  obtain ⟨q, hq⟩ : ∃ q, q = R.num := ⟨_, rfl⟩
  obtain ⟨E, hE⟩ : ∃ E, E = R.code := ⟨_, rfl⟩
  have HC3 : Hid (∀ (U : World), Below w0.heap.size w0 U → Calls Tryz.prog 44 #[.pointer (some ⟨H.A.g, 0, none⟩), .int .i64 p, .agg #[.int .i64 o.ob, .int .u64 (o.wh : Int), .int .u64 (o.wl : Int)], .int .i64 o.rt] U fun e w' => e = .returned (.tuple #[.int .i64 q, .int .i64 E]) ∧ Duo w' H { s with X := R.X, l := R.l } s T N ∧ But N U w') := fun U hU => by
    have := pChild (HD0.out.later hU) p (chC o) o.rt ⟨ok.wh, ok.wl⟩
    rw [← hR2] at this
    rw [hq, hE]
    exact this
  have HC4 : Hid (∀ (U : World), Duo U H { s with X := R.X, l := R.l } s T N → Calls Tryz.prog 45 #[.pointer (some ⟨H.r, 0, none⟩), .int .i64 p, .agg #[.int .i64 o.ob, .int .u64 (o.wh : Int), .int .u64 (o.wl : Int)], .int .i64 o.rt] U fun e w' => e = .returned (.tuple #[.int .i64 q, .int .i64 E]) ∧ Duo w' H { s with X := R.X, l := R.l } { s with X := R.X, l := R.l } (T + 1) N ∧ But N U w') := fun U hd => by
    have := rChild hd hv hT p (chC o) o.rt ⟨ok.wh, ok.wl⟩
    rw [← hR2] at this
    rw [hq, hE]
    exact this
  obtain ⟨sx, hsx⟩ : ∃ sx, sx = ({ s with X := R.X, l := R.l } : Sta) := ⟨_, rfl⟩
  rw [← hsx] at HC3 HC4
  have hadd : Q.addL 256 (H.mo : Int) s.L o.ob = s.L ++ [o.ob] := by unfold Q.addL; rw [if_pos hm]
  obtain ⟨sy, hsy⟩ : ∃ sy, sy = ({ s with X := R.X, l := R.l, L := s.L ++ [o.ob] } : Sta) := ⟨_, rfl⟩
  have HC5 : Hid (∀ (U : World), Duo U H sx sx (T + 1) N → Calls Tryz.prog 40 #[.pointer (some ⟨H.qg, 0, none⟩), .int .i64 o.ob] U fun e w' => e = .returned (.int .i64 0) ∧ Duo w' H sy sx (T + 1) N ∧ But N U w') := fun U hd => by
    have := pAdd hd o.ob (wf_of ok.ob)
    rw [hsx] at this
    simp only [hm, hadd] at this
    rw [hsx, hsy]
    exact this
  have HC6 : Hid (∀ (U : World), Duo U H sy sx (T + 1) N → Calls Tryz.prog 41 #[.pointer (some ⟨H.q, 0, none⟩), .int .i64 o.ob] U fun e w' => e = .returned (.int .i64 0) ∧ ∃ N', Duo w' H sy sy (T + 1) N' ∧ Went U N w' N') := fun U hd => by
    have := rAdd hd o.ob
    rw [hsx] at this
    simp only [hm, hadd] at this
    rw [hsy]
    rw [hsy] at this
    exact this
  have HAns : Hid ((E ≠ 0 ∧ sx = s) ∨ (E = 0 ∧ sy = addS s (chC o) p o.rt s.nx s.V)) := by
    unfold Hid
    rcases hspec with ⟨g1, g2, g3⟩ | ⟨g1, g2, g3⟩
    · exact .inl ⟨by rw [hE]; exact g1, by rw [hsx, g2, g3]⟩
    · refine .inr ⟨by rw [hE]; exact g1, ?_⟩
      rw [hsy, g2]
      rfl
  obtain ⟨sz, hsz⟩ : ∃ sz, sz = (if R.code ≠ 0 then s else addS s (chC o) p o.rt s.nx s.V) := ⟨_, rfl⟩
  rw [← hsz]
  rw [← hE] at hsz
  have HSz := hid hsz
  have HF : Hid (∀ U, But N w0 U → OpB U w.heap.size 0 o) := fun U hU => HOB.out.but hU (fun e => by have := HRg.out _ e; omega)
  have HSize := hid HB0.out.size
  -- the list
  obtain ⟨O, hO⟩ : ∃ O, O = ofL H.mo s.X s.l o.ob := ⟨_, rfl⟩
  have hupP : (pickT O o.at_).1 = (u1, u2, u3) := by rw [hu, hO]; rfl
  rw [← hO] at HOf hsm hpos
  obtain ⟨n, hn⟩ : ∃ n, n = O.length := ⟨_, rfl⟩
  rw [← hn] at HOf hsm hpos
  have HN := hid hn
  have HPk : Hid (O[intoN o.at_ n]? = some (pickT O o.at_)) := by unfold Hid; rw [hn]; exact pickT_get (by rw [← hn]; exact hpos) o.at_
  have HMod := hid (fun U => mod_any o.at_ n (n : Int) rfl U hpos (by omega))
  have hlt := intoN_lt o.at_ hpos
  obtain ⟨j, hj⟩ : ∃ j, j = intoN o.at_ n := ⟨_, rfl⟩
  rw [← hj] at HMod HPk hlt
  obtain ⟨⟨⟨a1, a2, a3⟩, P2, P3⟩, hP⟩ : ∃ P, P = pickT O o.at_ := ⟨_, rfl⟩
  rw [← hP] at HPk hupP
  simp only [Prod.mk.injEq] at hupP
  obtain ⟨rfl, rfl, rfl⟩ := hupP
  have hd : ((n : Int) == 0) = false := by simp; omega
  have hjn : (j : Int) < (n : Int) := by omega
  have hj0 : (0 : Int) ≤ (j : Int) := by omega
  have hEE : (E != E) = false := by simp
  unfold opV Grew
  clear h hf hk6 hk0 hB0 hob hv hne hm hsm hmo hnu hnt hnr hno hup hfind hhas hwide hp hu hspec hR hR2 hq hE hsx hsy hadd hsz hO hn hj hP hpos ok hT
  go_enter Tryz.func8, Tryz.ntmps8
  go_upto_region 1 with fail
  rw [← hw0]
  clear hw0
  go_upto_region 17 with fail
  clear x0
  go_region_held3 (fun U => U.cell? ⟨H.rb, 0, none⟩ = some (.pointer (some ⟨H.r, 0, none⟩)) ∧ U.cell? ⟨H.rb, 1, none⟩ = some (.pointer (some ⟨H.q, 0, none⟩)) ∧ U.cell? ⟨w.heap.size, 1, none⟩ = some (.int .i64 o.ob)) (first | exact HS1.out _ HB1.out | exact HS1.out _ (Below.refl _ _).drew | exact HS1.out _ (Below.refl _ _)) (first
    | (go_at_call 20; refine (HOf.out _ (Below.refl _ _).drew).mono ?_; rintro e v1 ⟨a, c, rfl, hO1, hb1⟩; have HB1 := hid (below_call (Below.refl w0.heap.size w0).drew hb1); have HO1 := hid hO1; clear hO1 hb1))
  go_upto_region 18 with fail
  go_region_held3 (fun U => U.cell? ⟨H.rb, 0, none⟩ = some (.pointer (some ⟨H.r, 0, none⟩)) ∧ U.cell? ⟨H.rb, 1, none⟩ = some (.pointer (some ⟨H.q, 0, none⟩)) ∧ U.cell? ⟨w.heap.size, 1, none⟩ = some (.int .i64 o.ob)) (first | exact HS1.out _ HB2.out | exact HS1.out _ (below_call HB1.out (Below.refl _ _).drew) | exact HS1.out _ HB1.out) (first
    | (go_at_call 42; refine (HMy.out _ (below_call HB1.out (Below.refl _ _).drew)).mono ?_; rintro e v2 ⟨rfl, hb2⟩; have HB2 := hid (below_call (below_call HB1.out (Below.refl _ _).drew) hb2); have HO2 := hid (HO1.out.later (below_call (Below.refl v1.heap.size v1).drew hb2)); clear hb2))
  obtain ⟨p0, p1, p2, p3, p4, p5, p6, p7, p8, p9⟩ := (HOB.out.later HB2.out).zero
  obtain ⟨b, off, rfl, hcet⟩ := rt_at (HO2.out.rt HN.out.symm) HPk.out
  go_upto_region 21 with fail
  obtain ⟨v3, hv3⟩ : ∃ v3, v3 = v2.alloc (Obj.cells #[.int .i64 o.ob, .int .u64 (o.wh : Int), .int .u64 (o.wl : Int)] 27) := ⟨_, rfl⟩
  have hb3 : Below v2.heap.size v2 v3 := by rw [hv3]; exact below1 _ _
  have hxc : Cel v3 v2.heap.size 0 (o.ob, o.wh, o.wl) := by rw [hv3]; exact cel_new v2 (o.ob, o.wh, o.wl) 27
  rw [← hv3]
  have hc3 := hcet.later hb3
  obtain ⟨q0, q1, q2, q3, q4⟩ := hc3
  have HB3 := hid (below_call HB2.out hb3)
  have HXc := hid hxc
  obtain ⟨-, -, p2, -⟩ := (HOB.out.later HB3.out).zero
  clear hv3 hb3 hxc hcet p0 p1 p3 p4 p5 p6 p7 p8 p9
  go_upto_region 22 with (first
    | (go_at_call 10; refine (HMod.out _).mono ?_; rintro e w9 ⟨rfl, hw9⟩; obtain rfl := hw9.symm; clear hw9))
  obtain ⟨v4, hv4⟩ : ∃ v4, v4 = v3.alloc (Obj.cells #[.int .i64 a1, .int .u64 (a2 : Int), .int .u64 (a3 : Int)] 27) := ⟨_, rfl⟩
  have hb4 : Below v3.heap.size v3 v4 := by rw [hv4]; exact below1 _ _
  have hyc : Cel v4 v3.heap.size 0 (a1, a2, a3) := by rw [hv4]; exact cel_new v3 (a1, a2, a3) 27
  rw [← hv4]
  have HB4 := hid (below_call HB3.out hb4)
  have HYc := hid hyc
  have HXc4 := hid (HXc.out.later hb4)
  have HSb3 : Hid (w.heap.size ≤ v2.heap.size) := Nat.le_trans HSize.out HB2.out.size
  clear hv4 hb4 hyc q0 q1 q2 q3 q4 p2 HXc hlt
  have HG1 : Hid (∀ U, Below v4.heap.size v4 U → U.cell? ⟨H.sb, 0, none⟩ = some (.pointer (some ⟨H.A.g, 0, none⟩)) ∧ U.cell? ⟨v3.heap.size, 0, none⟩ = some (.int .i64 a1) ∧ U.cell? ⟨v3.heap.size, 1, none⟩ = some (.int .u64 (a2 : Int)) ∧ U.cell? ⟨v3.heap.size, 2, none⟩ = some (.int .u64 (a3 : Int))) := fun U hU => ⟨(HD0.out.later (below_call HB4.out hU)).t1.c0, (HYc.out.later hU).zero⟩
  go_region_held3 (fun U => U.cell? ⟨H.sb, 0, none⟩ = some (.pointer (some ⟨H.A.g, 0, none⟩)) ∧ U.cell? ⟨v3.heap.size, 0, none⟩ = some (.int .i64 a1) ∧ U.cell? ⟨v3.heap.size, 1, none⟩ = some (.int .u64 (a2 : Int)) ∧ U.cell? ⟨v3.heap.size, 2, none⟩ = some (.int .u64 (a3 : Int))) (first | exact HG1.out _ HB5.out | exact HG1.out _ (Below.refl _ _).drew | exact HG1.out _ (Below.refl _ _)) (first
    | (go_at_call 17; refine (HF1.out _ (below_call HB4.out (Below.refl _ _).drew)).mono ?_; rintro e v5 ⟨rfl, hb5⟩; have HB5 := hid (below_call (Below.refl v4.heap.size v4).drew hb5); clear hb5))
  go_upto_region 23 with fail
  have HG2 : Hid (∀ U, Below v4.heap.size v4 U → U.cell? ⟨H.rb, 0, none⟩ = some (.pointer (some ⟨H.r, 0, none⟩)) ∧ U.cell? ⟨v3.heap.size, 0, none⟩ = some (.int .i64 a1) ∧ U.cell? ⟨v3.heap.size, 1, none⟩ = some (.int .u64 (a2 : Int)) ∧ U.cell? ⟨v3.heap.size, 2, none⟩ = some (.int .u64 (a3 : Int))) := fun U hU => ⟨(HD0.out.later (below_call HB4.out hU)).t2.c0, (HYc.out.later hU).zero⟩
  go_region_held3 (fun U => U.cell? ⟨H.rb, 0, none⟩ = some (.pointer (some ⟨H.r, 0, none⟩)) ∧ U.cell? ⟨v3.heap.size, 0, none⟩ = some (.int .i64 a1) ∧ U.cell? ⟨v3.heap.size, 1, none⟩ = some (.int .u64 (a2 : Int)) ∧ U.cell? ⟨v3.heap.size, 2, none⟩ = some (.int .u64 (a3 : Int))) (first | exact HG2.out _ HB6.out | exact HG2.out _ (below_call HB5.out (Below.refl _ _).drew) | exact HG2.out _ HB5.out) (first
    | (go_at_call 43; refine (HF2.out _ (below_call HB4.out (below_call HB5.out (Below.refl _ _).drew))).mono ?_; rintro e v6 ⟨rfl, hb6⟩; have HB6 := hid (below_call (below_call HB5.out (Below.refl v5.heap.size v5).drew) hb6); clear hb6))
  go_upto_region 24 with fail
  have HB46 := hid (below_call HB4.out HB6.out)
  have HX6 := hid (HXc4.out.later HB6.out)
  have HDv := hid (HD0.out.later HB46.out)
  have HG3 : Hid (∀ U, But N v6 U → U.cell? ⟨H.sb, 0, none⟩ = some (.pointer (some ⟨H.A.g, 0, none⟩)) → U.cell? ⟨H.sb, 0, none⟩ = some (.pointer (some ⟨H.A.g, 0, none⟩)) ∧ U.cell? ⟨v2.heap.size, 0, none⟩ = some (.int .i64 o.ob) ∧ U.cell? ⟨v2.heap.size, 1, none⟩ = some (.int .u64 (o.wh : Int)) ∧ U.cell? ⟨v2.heap.size, 2, none⟩ = some (.int .u64 (o.wl : Int)) ∧ U.cell? ⟨w.heap.size, 3, none⟩ = some (.int .i64 o.rt)) := fun U hU hc => by
    have hz := (HX6.out.but hU (fun e => by have := HRg.out _ e; have := HSb3.out; omega)).zero
    exact ⟨hc, hz.1, hz.2.1, hz.2.2, (HF.out U ((But.of HB46.out).trans hU)).zero.2.2.2.1⟩
  go_region_held3 (fun U => U.cell? ⟨H.sb, 0, none⟩ = some (.pointer (some ⟨H.A.g, 0, none⟩)) ∧ U.cell? ⟨v2.heap.size, 0, none⟩ = some (.int .i64 o.ob) ∧ U.cell? ⟨v2.heap.size, 1, none⟩ = some (.int .u64 (o.wh : Int)) ∧ U.cell? ⟨v2.heap.size, 2, none⟩ = some (.int .u64 (o.wl : Int)) ∧ U.cell? ⟨w.heap.size, 3, none⟩ = some (.int .i64 o.rt)) (first | exact HG3.out _ HW7.out HD7.out.t1.c0 | exact HG3.out _ (But.of (Below.refl _ _).drew) (HDv.out.later (Below.refl _ _).drew).t1.c0 | exact HG3.out _ (But.refl _ _) HDv.out.t1.c0) (first
    | (go_at_call 44; refine (HC3.out _ (below_call HB46.out (Below.refl _ _).drew)).mono ?_; rintro e v7 ⟨rfl, hd7, hw7⟩; have HD7 := hid hd7; have HW7 := hid ((But.of (S := N) (Below.refl v6.heap.size v6).drew).trans hw7); clear hd7 hw7))
  go_upto_region 25 with fail
  have HG4 : Hid (∀ U, But N v6 U → U.cell? ⟨H.rb, 0, none⟩ = some (.pointer (some ⟨H.r, 0, none⟩)) → U.cell? ⟨H.rb, 0, none⟩ = some (.pointer (some ⟨H.r, 0, none⟩)) ∧ U.cell? ⟨v2.heap.size, 0, none⟩ = some (.int .i64 o.ob) ∧ U.cell? ⟨v2.heap.size, 1, none⟩ = some (.int .u64 (o.wh : Int)) ∧ U.cell? ⟨v2.heap.size, 2, none⟩ = some (.int .u64 (o.wl : Int)) ∧ U.cell? ⟨w.heap.size, 3, none⟩ = some (.int .i64 o.rt)) := fun U hU hc => by
    have hz := (HX6.out.but hU (fun e => by have := HRg.out _ e; have := HSb3.out; omega)).zero
    exact ⟨hc, hz.1, hz.2.1, hz.2.2, (HF.out U ((But.of HB46.out).trans hU)).zero.2.2.2.1⟩
  go_region_held3 (fun U => U.cell? ⟨H.rb, 0, none⟩ = some (.pointer (some ⟨H.r, 0, none⟩)) ∧ U.cell? ⟨v2.heap.size, 0, none⟩ = some (.int .i64 o.ob) ∧ U.cell? ⟨v2.heap.size, 1, none⟩ = some (.int .u64 (o.wh : Int)) ∧ U.cell? ⟨v2.heap.size, 2, none⟩ = some (.int .u64 (o.wl : Int)) ∧ U.cell? ⟨w.heap.size, 3, none⟩ = some (.int .i64 o.rt)) (first | exact HG4.out _ HW8.out HD8.out.t2.c0 | exact HG4.out _ (HW7.out.trans (But.of (Below.refl _ _).drew)) (HD7.out.later (Below.refl _ _).drew).t2.c0 | exact HG4.out _ HW7.out HD7.out.t2.c0) (first
    | (go_at_call 45; refine (HC4.out _ (HD7.out.later (Below.refl _ _).drew)).mono ?_; rintro e v8 ⟨rfl, hd8, hw8⟩; have HD8 := hid hd8; have HW8 := hid ((HW7.out.trans (But.of (S := N) (Below.refl v7.heap.size v7).drew)).trans hw8); clear hd8 hw8))
  go_upto_region 28 with fail
  have HW0 := hid ((Went.later (N := N) HB0.out).trans ((Went.later (N := N) HB46.out).trans (Went.stay HW8.out)))
  rcases HAns.out with ⟨hE0, hs⟩ | ⟨hE0, hs⟩
  · have hE1 : (E != 0) = true := by simp [hE0]
    have HSs : Hid (sz = sx) := by unfold Hid; rw [HSz.out, if_pos hE0, hs]
    clear hE0 hs
    go_quiet (fail)
    go_wp2
    go_ret
    rw [HSs.out]
    exact ⟨rfl, N, HD8.out.later (below_drewN (Below.refl _ _) nq), HW0.out.trans (Went.later (below_drewN (Below.refl _ _) nq))⟩
  · have HSs : Hid (sz = sy) := by unfold Hid; rw [HSz.out, if_neg (by simp [hE0]), hs]
    clear hs
    subst hE0
    have HG5 : Hid (∀ U N1, Went v8 N U N1 → U.cell? ⟨H.sb, 1, none⟩ = some (.pointer (some ⟨H.qg, 0, none⟩)) → U.cell? ⟨H.rb, 1, none⟩ = some (.pointer (some ⟨H.q, 0, none⟩)) → U.cell? ⟨H.sb, 1, none⟩ = some (.pointer (some ⟨H.qg, 0, none⟩)) ∧ U.cell? ⟨H.rb, 1, none⟩ = some (.pointer (some ⟨H.q, 0, none⟩)) ∧ U.cell? ⟨w.heap.size, 1, none⟩ = some (.int .i64 o.ob)) := fun U N1 hU h1 h2 => ⟨h1, h2, (HF.out U ((But.of HB46.out).trans (HW8.out.trans hU.2))).zero.2.1⟩
    go_region_held3 (fun U => U.cell? ⟨H.sb, 1, none⟩ = some (.pointer (some ⟨H.qg, 0, none⟩)) ∧ U.cell? ⟨H.rb, 1, none⟩ = some (.pointer (some ⟨H.q, 0, none⟩)) ∧ U.cell? ⟨w.heap.size, 1, none⟩ = some (.int .i64 o.ob)) (first | exact HG5.out _ N10 HW10.out HD10.out.t1.c1 HD10.out.t2.c1 | exact HG5.out _ N (Went.stay HW9.out) HD9.out.t1.c1 HD9.out.t2.c1 | exact HG5.out _ N (Went.later (Below.refl _ _).drew) (HD8.out.later (Below.refl _ _).drew).t1.c1 (HD8.out.later (Below.refl _ _).drew).t2.c1 | exact HG5.out _ N (Went.refl _ _) HD8.out.t1.c1 HD8.out.t2.c1) (first
      | (go_at_call 41; refine (HC6.out _ HD9.out).mono ?_; rintro e v10 ⟨rfl, N10, hd10, hw10⟩; have HD10 := hid hd10; have HW10 := hid ((Went.stay HW9.out).trans hw10); clear hd10 hw10)
      | (go_at_call 40; refine (HC5.out _ (HD8.out.later (Below.refl _ _).drew)).mono ?_; rintro e v9 ⟨rfl, hd9, hw9⟩; have HD9 := hid hd9; have HW9 := hid ((But.of (S := N) (Below.refl v8.heap.size v8).drew).trans hw9); clear hd9 hw9))
    go_wp2
    go_ret
    rw [HSs.out]
    exact ⟨rfl, N10, HD10.out, HW0.out.trans HW10.out⟩
end Go.Proofs.YtnjadfgfpebkdaaGreat.D
