import Derived.Test.YtnjadfgfpebkdaaGreatWB
import Derived.Test.YtnjadfgfpebkdaaGreatKA
namespace Go.Proofs.YtnjadfgfpebkdaaGreat.D
open Go.RowKit
open Go.Proofs.YtnjadfgfpebkdaaGreat.H (B64 Cp)
set_option linter.unusedVariables false

/-! ### RevokeRest -/
/-- What a round of the first loop knows. -/
def GroI (w : World) (H : Hd) (sn : Nat) (t : Value) (W : World) : Prop :=
  ∃ (i : Nat) (s : Sta) (N : Nat → Prop), i ≤ sn ∧ t = .int .i64 (i : Int) ∧ Fit H.mo s ∧ Duo W H s s i N ∧ Below w.heap.size w W
set_option maxRecDepth 100000 in
set_option maxHeartbeats 8000000 in
theorem rest_any (x : Int) {w : World} {sa : Option Addr} {sn sc : Nat} {sf : Nat → Opr} (hs : Ss w sa sn sf) (hsn : sn ≤ 9223372036854775807) (q : Opr) (hq : q.Ok) :
    Calls Tryz.prog 3 #[.int .i64 x, .slice sa sn sc, opV q] w fun e w' => e = .returned (.bool true) ∧ Below w.heap.size w w' := by
  have HHd := hid (fun U => head_any U)
  have HMd := hid (fun U => made_any x x U)
  obtain ⟨mo, hmo⟩ : ∃ mo, mo = 1 + intoN x 256 := ⟨_, rfl⟩
  rw [← hmo] at HMd
  have HSs := hid hs
  unfold opV opC
  clear hs hmo
  go_enter Tryz.func3, Tryz.ntmps3
  go_upto_region 1 with fail
  obtain ⟨v1, hv1⟩ : ∃ v1, v1 = w.alloc (Obj.cells (opC q) 29) := ⟨_, rfl⟩
  have hb1 : Below w.heap.size w v1 := by rw [hv1]; exact below1 _ _
  have hob : OpB v1 w.heap.size 0 q := by rw [hv1]; exact opb_new w q 29
  have hv1' : v1 = w.alloc (Obj.cells #[.int .i64 q.kd, .int .i64 q.ob, .int .i64 q.at_, .int .i64 q.rt, .int .i64 q.sz, .int .u64 (q.wh : Int), .int .u64 (q.wl : Int), .int .i64 q.x.1, .int .u64 (q.x.2.1 : Int), .int .u64 (q.x.2.2 : Int)] 29) := hv1
  rw [← hv1']
  have HB1 := hid hb1
  have HOB := hid hob
  have hlt := hob.lt
  have HQL : Hid (w.heap.size < v1.heap.size) := hlt
  clear hv1 hv1' hb1 hob hlt
  go_upto_region 3 with (first
    | (go_at_call 6; refine (HHd.out _).mono ?_; rintro e v2 ⟨rfl, hb2⟩; have HB2 := hid hb2; clear hb2))
  go_upto_region 7 with (first
    | (go_at_call 7; refine (HMd.out v2).mono ?_; rintro e v3 ⟨H, N0, rfl, hmo2, hbase, hd2, hb2, hs1, hs2⟩; have HD2 := hid hd2; have HB3 := hid (below_call HB2.out hb2); have HMo := hid hmo2; have HBa : Hid (v1.heap.size ≤ H.base) := hid (by rw [hbase]; exact HB2.out.size); clear hd2 hb2 hs1 hs2 hmo2 hbase))
  go_loopw [9] (GroI v1 H sn) (fun t _ => sn - (intOf t).toNat)
  case atStart => exact ⟨0, s0 mo, N0, Nat.zero_le _, rfl, by rw [HMo.out]; exact fit0 mo, HD2.out, HB3.out⟩
  case round =>
    obtain ⟨i, s, N, hi, rfl, hf, hd, hB⟩ := hrel
    have HFit := hid hf
    have HDr := hid hd
    have HBr := hid hB
    clear hf hd hB
    by_cases hin : i < sn
    · have hdd : decide ((i : Int) < (sn : Int)) = true := decide_eq_true (by omega)
      have hin2 : (i : Int) < (sn : Int) := by omega
      obtain ⟨b, off, rfl, hrow⟩ := (HSs.out.later (below_call HB1.out HBr.out)).at_ (by omega)
      obtain ⟨q0, q1, q2, q3, q4, q5, q6, q7, q8, q9⟩ := hrow i hin
      have HOk := hid (HSs.out.ok i hin)
      obtain ⟨o, ho⟩ : ∃ o, o = sf i := ⟨_, rfl⟩
      rw [← ho] at q0 q1 q2 q3 q4 q5 q6 q7 q8 q9 HOk
      have HI := hid hin
      have HIT : Hid (i < 9223372036854775807) := by unfold Hid; omega
      have HG := hid (grow_any HDr.out HFit.out HIT.out o HOk.out)
      unfold Grew opV opC at HG
      have HGf := hid (growS_fit HFit.out HDr.out.nx1 HOk.out)
      obtain ⟨sg, hsg⟩ : ∃ sg, sg = growS H.mo s o := ⟨_, rfl⟩
      rw [← hsg] at HG HGf
      clear hrow ho hi hin hsg
      by_cases k3 : o.kd < 3
      · have hk3 : decide (o.kd < 3) = true := decide_eq_true k3
        go_wp2_with (first
          | (go_at_call 8; refine HG.out.mono ?_; rintro e v4 ⟨rfl, N4, hd4, hw4⟩; have HD4 := hid hd4; have HW4 := hid hw4; clear hd4 hw4))
        refine ⟨⟨i + 1, sg, N4, HI.out, rfl, HGf.out, HD4.out, HDr.out.went HBr.out HW4.out HBa.out⟩, ?_⟩
        simp [intOf]; have := HI.out; omega
      · have hk3 : decide (o.kd < 3) = false := decide_eq_false k3
        by_cases k6 : o.kd = 6
        · have hk6 : (o.kd == 6) = true := by simp [k6]
          clear k3 k6
          go_wp2_with (first
            | (go_at_call 8; refine HG.out.mono ?_; rintro e v4 ⟨rfl, N4, hd4, hw4⟩; have HD4 := hid hd4; have HW4 := hid hw4; clear hd4 hw4))
          refine ⟨⟨i + 1, sg, N4, HI.out, rfl, HGf.out, HD4.out, HDr.out.went HBr.out HW4.out HBa.out⟩, ?_⟩
          simp [intOf]; have := HI.out; omega
        · have hk6 : (o.kd == 6) = false := by simp [k6]
          clear k3 k6
          go_wp2
          refine ⟨⟨i + 1, s, N, HI.out, rfl, HFit.out, HDr.out.mono (Nat.le_succ _), HBr.out⟩, ?_⟩
          simp [intOf]; have := HI.out; omega
    · obtain rfl : i = sn := by omega
      have hdd : decide ((i : Int) < (i : Int)) = false := by simp
      have hin2 : ¬ (i : Int) < (i : Int) := by omega
      clear hin hi
      obtain ⟨Os, hst, hvw⟩ := HDr.out.st
      have hvl : Os.length = s.V.length := by rw [← hvw, S.vw_length]
      have k2 : Hid (∀ (U : World), Below wr.heap.size wr U → Calls Tryz.prog 9 #[.pointer (some ⟨H.z.s, 0, none⟩)] U fun e w' => ∃ a c, e = .returned (.slice a s.V.length c) ∧ Own w' U.heap.size 3 a s.V.length c (ints (s.V.map Prod.fst)) ∧ Below U.heap.size U w') := fun U hU => by
        refine (S.st_ids H.z s.nx Os U (hst.later hU)).mono ?_
        rintro e w' ⟨a, c, rfl, ho, hb⟩
        refine ⟨a, c, by rw [hvl], ?_, hb⟩
        rw [← hvw]
        rw [hvl, ← hvw] at ho
        unfold S.vw at ho ⊢
        rw [List.map_map]
        exact ho
      have t2 := HDr.out.t1.c2
      obtain ⟨nn, hnn⟩ : ∃ nn, nn = s.V.length := ⟨_, rfl⟩
      rw [← hnn] at k2
      have HNn := hid hnn
      clear hst hvw hvl hnn
      go_upto_region 14 with (first
        | (go_at_call 9; refine (k2.out _ (Below.refl _ _)).mono ?_; rintro e v5 ⟨a5, c5, rfl, hO5, hb5⟩; have HB5 := hid hb5; have HO5 := hid hO5; clear hb5 hO5 t2))
      by_cases h0 : nn = 0
      · subst h0
        have hz : (((0 : Nat) : Int) == 0) = true := rfl
        go_wp2
        go_ret
        exact ⟨rfl, below_call HB1.out (below_call HBr.out HB5.out)⟩
      · have hz : ((nn : Int) == 0) = false := by simp [h0]
        have hpos : 0 < nn := by omega
        obtain ⟨b11, o11, rfl, hrow⟩ := HO5.out.read.plain hpos
        have hl8 : nn ≤ 8 := by
          obtain ⟨G6, a6, c6, col6, hrs⟩ := HDr.out.rs
          rw [HNn.out]; exact hrs.rm.1
        obtain ⟨ids, hids⟩ : ∃ ids, ids = s.V.map Prod.fst := ⟨_, rfl⟩
        have hil : ids.length = nn := by rw [hids, List.length_map, HNn.out]
        rw [← hids] at hrow
        have HId : Hid (∀ (i : Nat) (y : Int), ids[i]? = some y → v5.cell? ⟨b11, o11 + i, none⟩ = some (.int .i64 y)) := fun i y hy => by
          obtain ⟨h1, h2⟩ := List.getElem?_eq_some_iff.1 hy
          have := hrow i _ (ints_get ids i h1)
          rw [h2] at this
          exact this
        obtain ⟨j, hj⟩ : ∃ j, j = intoN q.ob nn := ⟨_, rfl⟩
        have hjl : j < nn := by rw [hj]; exact intoN_lt q.ob hpos
        obtain ⟨obj, hobj⟩ : ∃ obj, ids[j]? = some obj := ⟨_, List.getElem?_eq_getElem (by rw [hil]; exact hjl)⟩
        have c11 := HId.out j obj hobj
        have hidsok : ∀ y ∈ ids, S.i64ok y := fun y hy => by
          rw [hids] at hy
          obtain ⟨p, hp, rfl⟩ := List.mem_map.1 hy
          obtain ⟨G6, a6, c6, col6, hrs⟩ := HDr.out.rs
          have h1 := hrs.ids p hp
          have h2 := hrs.nx1
          unfold S.i64ok
          omega
        have hoo : hasO s.X s.l obj = true := by
          have hm := List.mem_of_getElem? hobj
          rw [hids] at hm
          obtain ⟨p, hp, e⟩ := List.mem_map.1 hm
          exact (HFit.out.obj obj).1 ⟨p, hp, e⟩
        obtain ⟨r, hr, hro, hT⟩ := obj_root HFit.out.inv hoo
        obtain ⟨O, hO⟩ : ∃ O, O = ofL H.mo s.X s.l obj := ⟨_, rfl⟩
        have HOi := hid (hidsok obj (List.mem_of_getElem? hobj))
        rw [← hO] at hT
        obtain ⟨n, hn⟩ : ∃ n, n = O.length := ⟨_, rfl⟩
        have hn0 : 0 < n := by rw [hn, hT.len]; exact hT.pos
        have hn1 : n ≤ 256 := by rw [hn, hO]; exact Nat.le_trans (len_small HFit.out.inv obj) HDr.out.hmo.2
        obtain ⟨at_, hat⟩ : ∃ at_, at_ = intoN q.at_ n := ⟨_, rfl⟩
        have hatl : at_ < n := by rw [hat]; exact intoN_lt q.at_ hn0
        obtain ⟨x9, hx9⟩ : ∃ x9, (G true s.l r)[at_]? = some x9 := ⟨_, List.getElem?_eq_getElem (by rw [← hT.len, ← hn]; exact hatl)⟩
        have HMod := hid (fun U => mod_any q.ob nn (nn : Int) rfl U hpos (by omega))
        have HMod2 := hid (fun U => mod_any q.at_ n (n : Int) rfl U hn0 (by omega))
        rw [← hj] at HMod
        rw [← hat] at HMod2
        obtain ⟨al, hal⟩ : ∃ al, al = (bits .and .i64 q.kd 1 == 1) := ⟨_, rfl⟩
        have hal2 : (bits .and .i64 q.kd 1 == 1) = al := hal.symm
        have HX9 := hid hx9
        have HT := hid hT
        have HOe := hid hO
        have HNe := hid hn
        have HRt := hid hr
        have HRo := hid hro
        have HIl := hid hil
        have HIdo := hid hidsok
        have HD5 := hid (HDr.out.later HB5.out)
        obtain ⟨p0, p1, p2, p3, p4, p5, p6, p7, p8, p9⟩ := ((HOB.out.later HBr.out).later HB5.out).zero
        have t0 := HD5.out.t1.c0
        have k1 := hid (fun (U : World) (hU : Below v5.heap.size v5 U) => cof_any (HD5.out.later hU).cat obj)
        rw [← hO, ← hn] at k1
        have hjl2 : (j : Int) < (nn : Int) := by omega
        have hatl2 : (at_ : Int) < (n : Int) := by omega
        have hnz : ((n : Int) == 0) = false := by simp; omega
        have HN11 : Hid (¬ N b11 ∧ b11 < v5.heap.size) := ⟨fun e => by
          have h1 := (HDr.out.rng _ e).2.1
          have h2 := HO5.out.blk b11 ⟨_, rfl, rfl⟩
          omega, HO5.out.lt b11 ⟨_, rfl, rfl⟩⟩
        have HNs : Hid (∀ k, N k → k < v5.heap.size) := fun k hk => (HD5.out.rng k hk).2.1
        clear h0 hpos hrow hids hil hj hobj hidsok hoo hr hro hT hO hn hn0 hat hx9 hal p3 p4 p5 p6 p7 p8 p9
        go_upto_region 18 with (first
          | (go_at_call 10; refine (HMod.out _).mono ?_; rintro e w9 ⟨rfl, hw9⟩; obtain rfl := hw9.symm; clear hw9)
          | (go_at_call 11; refine (k1.out _ (Below.refl _ _)).mono ?_; rintro e v6 ⟨a6, c6, rfl, hO6, hb6⟩; have HB6 := hid hb6; have HO6 := hid hO6; have y0 := cell_later hb6 p0; have y2 := cell_later hb6 p2; clear hb6 hO6 p0 p1 p2 c11 t0))
        obtain ⟨_, _, qx, hOx, _⟩ := HT.out.at_ at_ x9 HX9.out
        have HR6 := hid (HO6.out.rt HNe.out.symm)
        obtain ⟨b13, o13, e6, hcet⟩ := rt_at HR6.out hOx
        subst e6
        obtain ⟨d0, d1, d2, d3, d4⟩ := hcet
        have HN13 : Hid (¬ N b13) := fun e => by
          have h1 := HNs.out _ e
          have h2 := (HO6.out.blk b13 ⟨_, rfl, rfl⟩).1
          omega
        clear d3 d4 hOx
        go_upto_region 22 with (first
          | (go_at_call 10; refine (HMod2.out _).mono ?_; rintro e w9 ⟨rfl, hw9⟩; obtain rfl := hw9.symm; clear hw9))
        obtain ⟨v7, hv7⟩ : ∃ v7, v7 = v6.alloc (Obj.cells #[.int .i64 (tk s.X x9).1.1, .int .u64 ((tk s.X x9).1.2.1 : Int), .int .u64 ((tk s.X x9).1.2.2 : Int)] 27) := ⟨_, rfl⟩
        have hb7 : Below v6.heap.size v6 v7 := by rw [hv7]; exact below1 _ _
        have hxc : Cel v7 v6.heap.size 0 (tk s.X x9).1 := by rw [hv7]; exact cel_new v6 (tk s.X x9).1 27
        rw [← hv7]
        have HB7 := hid (below_call HB6.out hb7)
        have HB76 := hid hb7
        have HXc := hid hxc
        obtain ⟨xb, hxb⟩ : ∃ xb, xb = v6.heap.size := ⟨_, rfl⟩
        have HXb := hid hxb
        rw [← hxb] at HXc
        rw [← hxb]
        have y0 := cell_later hb7 y0
        clear hv7 hb7 hxc y2 hxb
        go_upto_region 25 with fail
        go_cut [19] from 365 (fun _ W => W = v7)
        case first =>
          go_wp2
          go_meet
          rfl
        case rest =>
        subst hcut
        first | go_upon | go_back | go_step
        refine rk_end (s := s) (N := N) al r x9 obj b11 o11 nn c5 b13 o13 n c6 at_ xb O ids wc HFit.out (HD5.out.later HB7.out) HRt.out HRo.out HT.out HOe.out HNe.out HX9.out (HR6.out.later HB76.out) HN13.out (fun i y hy => cell_later HB7.out (HId.out i y hy)) HN11.out.1 HIl.out.symm (by omega) HIdo.out HXc.out (fun e => by
          have h1 := HNs.out _ e
          have h2 := HB6.out.size
          have h3 := HXb.out
          omega) HOi.out ?_
        intro w' hW
        have HW := hid hW
        clear hW
        intros
        go_ret
        exact ⟨rfl, below_call HB1.out (HDr.out.went HBr.out (Went.trans (Went.later (below_call HB5.out HB7.out)) (Went.stay HW.out)) HBa.out)⟩
end Go.Proofs.YtnjadfgfpebkdaaGreat.D
