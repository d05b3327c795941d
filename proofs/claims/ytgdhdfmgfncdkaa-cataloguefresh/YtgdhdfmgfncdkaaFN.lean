import Derived.Test.YtgdhdfmgfncdkaaFM
namespace Go.Proofs.Ytgdhdfmgfncdkaa
open Go.RowKit Go.Shelf H
set_option linter.unusedVariables false

theorem Gr.below_k {w w' : World} {base : Nat} {e : TypeId} {k : Nat} {a a' : Option Addr} {n cap : Nat} {L : List Value} (h : Ow w base e k a n cap L) (g : Gr a a' w w') (hb : base ≤ w.heap.size) : Below base w w' :=
  ⟨g.but.os, g.but.tape, g.but.output, g.but.size, fun j hj => g.but.block j (by omega) (fun hs => by have := (h.blk j hs).1; omega)⟩
set_option maxRecDepth 100000 in
set_option maxHeartbeats 16000000 in
theorem fresh_law (x0 knob : Int) (sa : Option Addr) (k0 cap : Nat) (f : Nat → Sp) (x3 : Int) (w : World) (hS : Ss w sa k0 f) (hk : k0 ≤ 9223372036854775807) :
    Calls Try.prog 4 #[.int .i64 x0, .int .i64 knob, .slice sa k0 cap, .int .i64 x3] w fun e w' => e = .returned (.bool true) ∧ Below w.heap.size w w' := by
  have hi60 : intoN x0 60 < 60 := intoN_lt x0 (by omega)
  have hin1 := hid (into_any x0 60 w (by omega) (by omega))
  obtain ⟨mo, hmo⟩ : ∃ mo, mo = 1 + intoN x0 60 := ⟨_, rfl⟩
  have hm1 : 1 ≤ mo := by omega
  have hm2 : mo ≤ 60 := by omega
  have hgr := hid (grown_any mo knob sa k0 cap f w hS hm1 (by omega) hk)
  have hgr2 : Hid (∀ (kb : Int) (W : World), Below w.heap.size w W → Calls Try.prog 7 #[.int .i64 (mo : Int), .int .i64 kb, .slice sa k0 cap] W (Grown W (intoN kb 65) mo (playG mo f k0))) := fun kb W hW => grown_any mo kb sa k0 cap f W (hS.later hW) hm1 (by omega) hk
  generalize playG mo f k0 = st at hgr hgr2
  obtain ⟨X, l⟩ := st
  generalize intoN knob 65 = kn at hgr
  clear hS
  generalize intoN x0 60 = i60 at *
  go_enter Try.func4, Try.ntmps4
  go_upto_region 2 with (first | (go_at_call 6; refine hin1.out.mono ?_; rintro e w9 ⟨rfl, hw9⟩; obtain rfl := hw9.symm; clear hw9))
  have hmo' : (1 : Int) + (i60 : Int) = (mo : Int) := by omega
  rw [hmo']
  clear hmo' hmo hi60 hin1
  go_upto_region 3 with (first | (go_at_call 7; refine hgr.out.mono ?_; rintro e w1 ⟨A, rfl, hc1, hA1, hb1⟩; have HCA := hid hc1; have HAA := hid hA1; have HB1 := hid hb1; clear hc1 hA1 hb1))
  go_upto_region 4 with (first | (go_at_call 7; refine (hgr2.out _ _ HB1.out).mono ?_; rintro e w2 ⟨B, rfl, hc2, hA2, hb2⟩; have HCB := hid hc2; have HAB := hid hA2; have HB2 := hid hb2; clear hc2 hA2 hb2))
  obtain ⟨km, hkm⟩ : ∃ km, Hid (Cat w2 B km mo X l) := ⟨_, HCB⟩
  clear HCB
  have HCB := hkm
  clear hkm
  go_upto_region 6 with (first | (go_at_call 8; refine (known_any _).mono ?_; rintro e w3 ⟨rfl, hb3⟩; have HB3 := hid hb3; clear hb3))
  have hN : intoN x3 mo < mo := intoN_lt x3 (by omega)
  have hin2 := hid (into_any x3 mo w3 (by omega) (by omega))
  generalize intoN x3 mo = N at *
  go_upto_region 7 with (first | (go_at_call 6; refine hin2.out.mono ?_; rintro e w9 ⟨rfl, hw9⟩; obtain rfl := hw9.symm; clear hw9))
  clear hin2 hgr hgr2
  have HA3 := hid ((HCA.out.later HB2.out).later HB3.out)
  have HD3 := hid (HCB.out.later HB3.out)
  have hinv := hid HCA.out.inv
  have hat := hid (at_any HA3.out.cm (N : Int))
  rw [tokV_eq] at hat
  have hGo := hid (gone_of hinv.out (N : Int))
  have hoo : ∀ o : Int, (ofL mo X l o).length ≤ 256 := fun o => by
    unfold ofL
    cases rootOf X l o with
    | none => simp
    | some q => simp only [ofF_len2]; have := G_len hinv.out.ok true q; omega
  have hcd : ((if (N : Int) ∈ nums l then (0 : Int) else 20) == 0) = decide ((N : Int) ∈ nums l) := by
    by_cases h : (N : Int) ∈ nums l
    · rw [if_pos h, decide_eq_true h]; rfl
    · rw [if_neg h, decide_eq_false h]; rfl
  have hKl : ((G true l (N : Int)).map (fun k => (tk X k).1)).length = (G true l (N : Int)).length := List.length_map _
  have hdr : Hid (∀ (W : World) (A : Ad) (kn : Nat), Cat W A kn mo X l → _) := fun W A kn h => cdrop_g h (N : Int)
  generalize (if (N : Int) ∈ nums l then (0 : Int) else 20) = cd at hcd hdr
  generalize decide ((N : Int) ∈ nums l) = dd at *
  generalize (G true l (N : Int)).map (fun k => (tk X k).1) = K at *
  generalize zer X (G true l (N : Int)) = X' at *
  generalize cuts l (G true l (N : Int)) = l' at *
  generalize (G true l (N : Int)).length = gl at *
  generalize tokT X l (N : Int) = tt at *
  obtain ⟨⟨ot, ht_, lt_⟩, rt, pp⟩ := tt
  simp only at hat
  obtain ⟨O, hOO⟩ : ∃ O, O = ofL mo X l ot := ⟨_, rfl⟩
  have hol := hoo ot
  have hof : Hid (∀ (W : World) (A : Ad) (kn : Nat), Cat W A kn mo X l → _) := fun W A kn h => cof_any h ot
  rw [← hOO] at hol hof
  obtain ⟨n, hn⟩ : ∃ n, n = O.length := ⟨_, rfl⟩
  rw [← hn] at hol hof
  clear hoo hOO
  have HN := hid hn
  clear hn
  go_upto_region 8 with (first | (go_at_call 9; refine hat.out.mono ?_; rintro e w4 ⟨rfl, hb4⟩; have HB4 := hid hb4; clear hb4))
  obtain ⟨w5, hw5⟩ : ∃ w5, w5 = w4.alloc (Obj.cells #[.int .i64 ot, .int .u64 (ht_ : Int), .int .u64 (lt_ : Int), .int .i64 rt, .int .i64 pp] 35) := ⟨_, rfl⟩
  have hb5 : Below w4.heap.size w4 w5 := by rw [hw5]; exact below1 _ _
  have t0 : w5.cell? ⟨w4.heap.size, 0, none⟩ = some (.int .i64 ot) := by rw [hw5]; simp [go_sem]
  have hl5 : w4.heap.size < w5.heap.size := by rw [hw5]; simp
  have HB5 := hid (below_call HB4.out hb5)
  have HT0 : Hid (∀ U, Below w5.heap.size w5 U → U.cell? ⟨w4.heap.size, 0, none⟩ = some (.int .i64 ot)) := fun U hU => cell_later hU t0
  rw [← hw5]
  clear hw5 hb5
  have HA5 := hid (HA3.out.later HB5.out)
  have HD5 := hid (HD3.out.later HB5.out)
  go_upto_region 9 with (first | (go_at_call 15; refine (hof.out _ _ _ HA5.out).mono ?_; rintro e w6 ⟨a, ca, rfl, hO6, hb6⟩; have HO6 := hid hO6; have HB6 := hid hb6; clear hO6 hb6))
  have u0 := HT0.out _ HB6.out
  go_upto_region 10 with (first | (go_at_call 15; refine (hof.out _ _ _ (HA5.out.later HB6.out)).mono ?_; rintro e w7 ⟨b, cb, rfl, hO7, hb7⟩; have HO7 := hid hO7; have HB7 := hid hb7; clear hO7 hb7))
  clear t0 u0
  have hlit := below1 w7 (Obj.cells #[] 35)
  obtain ⟨c8, cc8, w8, hr8, hO8, hG8⟩ := append_k 27 35 _ 5 40 Try.underlying27 info35 rfl (by omega) (by omega) (Ow.empty w7 35 5) (((HO6.out.later HB7.out).later hlit).cr (toks_one _)) (by have := hlit.size; omega) (by omega)
  rw [Nat.zero_add] at hr8 hO8
  rw [List.nil_append] at hO8
  have HR8 := hid hr8
  have HO8 : Hid (Ow w8 w7.heap.size 35 5 c8 n cc8 (toks O)) := hO8
  have HB8 : Hid (Below w7.heap.size w7 w8) := hlit.trans (Gr.below_k (Ow.empty w7 35 5) hG8 (by have := hlit.size; omega))
  clear hr8 hO8 hG8 hlit
  go_upto_region 11 with (first | (at_builtin; refine wpList_append_known rfl _ _ 27 rfl _ _ rfl rfl _ w8 HR8.out ?_))
  have hS9 := hid (sameT_any cb cc8 ((HO7.out.later HB8.out).rt HN.out.symm) (HO8.out.rt HN.out.symm) (by omega) (by omega))
  rw [decide_eq_true rfl] at hS9
  have HX8 := hid (below_call (below_call HB6.out HB7.out) HB8.out)
  have hof2 : Hid (∀ U, Below w8.heap.size w8 U → _) := fun U hU => hof.out U B km (HD5.out.later (below_call HX8.out hU))
  have hS11 : Hid (∀ (U V : World) (a10 : Option Addr) (c10 : Nat), Below w8.heap.size w8 U → Ow V U.heap.size 35 5 a10 n c10 (toks O) → Below U.heap.size U V → Calls Try.prog 16 #[.slice a10 n c10, .slice c8 n cc8] V fun e w' => e = .returned (.bool true) ∧ ∃ q, w' = V.drewN q) := fun U V a10 c10 hU hOV hUV => by
    have := sameT_any c10 cc8 (hOV.rt HN.out.symm) ((HO8.out.rt HN.out.symm).later (below_call hU hUV)) (by omega) (by omega)
    rwa [decide_eq_true rfl] at this
  go_upto_region 13 with (first
    | (go_at_call 16; refine (hS11.out _ _ _ _ HB9.out HO10.out HB10.out).mono ?_; rintro e w11 ⟨rfl, q11, hw11⟩; have HB11 : Hid (Below w10.heap.size w10 w11) := (by unfold Hid; rw [hw11]; exact below_drewN (Below.refl _ _) _); clear hw11)
    | (go_at_call 15; refine (hof2.out _ HB9.out).mono ?_; rintro e w10 ⟨a10, c10, rfl, hO10, hb10⟩; have HO10 := hid hO10; have HB10 := hid hb10; clear hO10 hb10)
    | (go_at_call 16; refine hS9.out.mono ?_; rintro e w9 ⟨rfl, q9, hw9⟩; have HB9 : Hid (Below w8.heap.size w8 w9) := (by unfold Hid; rw [hw9]; exact below_drewN (Below.refl _ _) _); clear hw9; have u1 := HT0.out _ (below_call HX8.out HB9.out)))
  have HX11 := hid (below_call (below_call (below_call HX8.out HB9.out) HB10.out) HB11.out)
  have HY : Hid (Below w8.heap.size w8 w11) := below_call (below_call HB9.out HB10.out) HB11.out
  have HA11 := hid (HA5.out.later HX11.out)
  have HD11 := hid (HD5.out.later HX11.out)
  have HMP : Hid (Mp w11 w5.heap.size w6.heap.size a b ca cb n O 0) := ⟨by have := ((HO6.out.later HB7.out).later HB8.out).later HY.out; simpa [mkL] using this, by have := (HO7.out.later HB8.out).later HY.out; simpa [mkL] using this⟩
  have HWA := hid (HO8.out.later HY.out)
  have hb6s := HB6.out.size
  have hb7s := HB7.out.size
  have hb8s := HB8.out.size
  have hbys := HY.out.size
  have HBa : Hid (∀ j, Blk a j → w5.heap.size ≤ j ∧ j < w6.heap.size) := fun j hj => HO6.out.blk j hj
  have HBb : Hid (∀ j, Blk b j → w6.heap.size ≤ j ∧ j < w7.heap.size) := fun j hj => HO7.out.blk j hj
  have HBc : Hid (∀ j, Blk c8 j → w7.heap.size ≤ j ∧ j < w11.heap.size) := fun j hj => HWA.out.blk j hj
  have hb1s := HB1.out.size
  have hb2s := HB2.out.size
  have hb3s := HB3.out.size
  have hb5s := HB5.out.size
  have HAl : Hid (∀ j, A.All j → w.heap.size ≤ j ∧ j < w1.heap.size) := fun j hj => ⟨HAA.out j hj, HCA.out.lt j hj⟩
  have HDl : Hid (∀ j, B.All j → w1.heap.size ≤ j ∧ j < w2.heap.size) := fun j hj => ⟨HAB.out j hj, HCB.out.lt j hj⟩
  have HBw : Hid (Below w.heap.size w w11) := below_call (below_call (below_call (below_call HB1.out HB2.out) HB3.out) HB5.out) HX11.out
  have HT11 : Hid (∀ (U : World) (S : Nat → Prop), But S w11 U → (∀ j, S j → w5.heap.size ≤ j) → U.cell? ⟨w4.heap.size, 0, none⟩ = some (.int .i64 ot)) := fun U S hU hS => cell_but hU (HT0.out _ HX11.out) (fun e => by have : w5.heap.size ≤ w4.heap.size := hS _ e; omega)
  clear hS9 hS11 hof2 HB9 HB10 HB11 HO10 u1 HR8 HO6 HO7 HO8 HB6 HB7 HB8 HX8 HX11 HY HB1 HB2 HB3 HB4 HB5 HA3 HD3 HA5 HD5 HCA HCB HAA HAB HT0 hat
  go_upto_region 14 with fail
  go_loopw [16] (Fr1 w11 w5.heap.size w6.heap.size a b ca cb n O) (fun t _ => n - (intOf t).toNat)
  case atStart => exact ⟨0, Nat.zero_le _, rfl, HMP.out, But.refl _ _⟩
  case round =>
    obtain ⟨i, hi, rfl, hMP, hBu⟩ := hrel
    by_cases hlt : i < n
    · rcases hMP.a.form with ⟨_, h0, _⟩ | ⟨ga, ea, hfa, hca⟩
      · omega
      rcases hMP.b.form with ⟨_, h0, _⟩ | ⟨gb, eb, hfb, hcb⟩
      · omega
      subst ea eb
      have hga := HBa.out ga ⟨_, rfl, rfl⟩
      have hgb := HBb.out gb ⟨_, rfl, rfl⟩
      have hml1 : (mkL (-1) O i).length = n := by rw [mkL_len _ _ _ (by have := HN.out; omega), ← HN.out]
      have hml2 : (mkL (-2) O i).length = n := by rw [mkL_len _ _ _ (by have := HN.out; omega), ← HN.out]
      obtain ⟨z1, hz1⟩ := get_some (L := mkL (-1) O i) (i := i) (by omega)
      obtain ⟨z2, hz2⟩ := get_some (L := mkL (-2) O i) (i := i) (by omega)
      obtain ⟨_, _, e1, hc1⟩ := (hMP.a.rt hml1).at_ (by omega)
      cases e1
      obtain ⟨c0, c1, c2, c3, c4⟩ := hc1 i z1 hz1
      simp only [Nat.zero_add] at c0 c1 c2 c3 c4
      obtain ⟨W1, hW1⟩ : ∃ W1, W1 = set5o wr ga (i * 5) (mT (-1)) := ⟨_, rfl⟩
      have hb1 : But (· = ga) wr W1 := by rw [hW1]; exact set5o_but (S := (· = ga)) (But.refl _ _) rfl _ _
      have hMb1 := hMP.b.but hb1 (fun j hj e => by have := HBb.out j hj; omega)
      obtain ⟨_, _, e2, hc2⟩ := (hMb1.rt hml2).at_ (by omega)
      cases e2
      obtain ⟨d0, d1, d2, d3, d4⟩ := hc2 i z2 hz2
      simp only [Nat.zero_add] at d0 d1 d2 d3 d4
      obtain ⟨_, e3, hfb1, _⟩ := (hMb1.form).resolve_left (fun h => by omega)
      cases e3
      have hst := hMP.step (by rw [← HN.out]; exact hlt) (by omega)
      rw [← hW1] at hst
      have HST := hid hst
      have HBu := hid hBu
      clear hMP hBu hMb1 hst hc1 hc2 hz1 hz2 hml1 hml2 hb1
      go_upto_region 17 with fail
      rw [show (((((wr.setCell ⟨ga, i * 5, none⟩ (.int .i64 0)).setCell ⟨ga, i * 5 + 1, none⟩ (.int .u64 0)).setCell ⟨ga, i * 5 + 2, none⟩ (.int .u64 0)).setCell ⟨ga, i * 5 + 3, none⟩ (.int .i64 (-1))).setCell ⟨ga, i * 5 + 4, none⟩ (.int .i64 0)) = W1 from hW1.symm]
      clear hW1 c0 c1 c2 c3 c4 hfa
      go_wp2
      exact ⟨⟨i + 1, by omega, by go_num, HST.out.1, HBu.out.trans HST.out.2⟩, by simp [intOf]; omega⟩
    · obtain rfl : i = n := by omega
      have hab : ∀ j, Blk a j → ¬ Blk b j := fun j h1 h2 => by have := HBa.out j h1; have := HBb.out j h2; omega
      have hss := hBu.size
      obtain ⟨m, cm, w12, hr12, o, co, w13, hr13, hLg⟩ := lengthen HN.out.symm (by omega) hMP (by omega) (by omega) hab
      have HR12 := hid hr12
      have HR13 := hid hr13
      have HLG := hid hLg
      have HB13 : Hid (But (Sab a b) w11 w13) := hBu.trans hLg.bu
      have HFA := hid hMP.a.form
      have HFB := hid hMP.b.form
      clear hr12 hr13 hLg hMP hBu hab HMP
      go_upto_region 21 with (first
        | (at_builtin; refine wpList_append_known rfl _ _ 27 rfl _ _ rfl rfl _ w13 HR13.out ?_)
        | (at_builtin; refine wpList_append_known rfl _ _ 27 rfl _ _ rfl rfl _ w12 HR12.out ?_))
      clear HR12 HR13
      have HSb : Hid (∀ j, Sab a b j → w5.heap.size ≤ j ∧ j < w7.heap.size) := fun j hj => by
        rcases hj with hj | hj
        · have := HBa.out j hj; omega
        · have := HBb.out j hj; omega
      go_loopw [19] (Fr2 w13 i) (fun t _ => i + 2 - (intOf t).toNat)
      case atStart => exact ⟨0, Nat.zero_le _, rfl, rfl⟩
      case round =>
        obtain ⟨j, hj, rfl, rfl⟩ := hrel
        by_cases hlt2 : j < i + 2
        · obtain ⟨gm, om, em, hcm⟩ := HLG.out.rm.at_ (by omega)
          obtain ⟨go, oo, eo, hco⟩ := HLG.out.ro.at_ (by omega)
          have c3 := (hcm j (mT (-1)) (by rw [List.getElem?_replicate, if_pos hlt2])).c3
          have d3 := (hco j (mT (-2)) (by rw [List.getElem?_replicate, if_pos hlt2])).c3
          simp only [mT] at c3 d3
          have hjj : (j : Int) < (i : Int) + 2 := by omega
          subst em eo
          by_cases hji : j < i
          · rcases HFA.out with ⟨_, h0, _⟩ | ⟨ga, ea, _, _⟩
            · omega
            rcases HFB.out with ⟨_, h0, _⟩ | ⟨gb, eb, _, _⟩
            · omega
            have ea3 := HLG.out.ra ga ea (j * 5 + 3) (.int .i64 (-1)) (cls_get (enc := encT) (k := 5) (fun _ => rfl) (List.replicate i (mT (-1))) j 3 (mT (-1)) (by rw [List.getElem?_replicate, if_pos hji]) (by omega))
            have eb3 := HLG.out.rb gb eb (j * 5 + 3) (.int .i64 (-2)) (cls_get (enc := encT) (k := 5) (fun _ => rfl) (List.replicate i (mT (-2))) j 3 (mT (-2)) (by rw [List.getElem?_replicate, if_pos hji]) (by omega))
            subst ea eb
            clear hcm hco
            go_wp2
            exact ⟨⟨j + 1, by omega, by go_num, rfl⟩, by simp [intOf]; omega⟩
          · clear hcm hco
            go_wp2
            exact ⟨⟨j + 1, by omega, by go_num, rfl⟩, by simp [intOf]; omega⟩
        · obtain rfl : j = i + 2 := by omega
          have hjj : ¬ ((i : Int) + 2 < (i : Int) + 2) := by omega
          have hA13 := HA11.out.but HB13.out (fun q hq e => by have := HAl.out q hq; have := HSb.out q e; omega)
          have hD13 := HD11.out.but HB13.out (fun q hq e => by have := HDl.out q hq; have := HSb.out q e; omega)
          have hW13 := HWA.out.but HB13.out (fun q hq e => by have := HBc.out q hq; have := HSb.out q e; omega)
          have u0 := HT11.out wr (Sab a b) HB13.out (fun q hq => (HSb.out q hq).1)
          have HBw13 : Hid (Below w.heap.size w wr) := But.below HBw.out HB13.out (fun q hq => by have := HSb.out q hq; omega)
          have HA13 := hid hA13
          have HD13 := hid hD13
          have HW13 := hid hW13
          have hs13 := HB13.out.size
          clear hA13 hD13 hW13 HLG HFA HFB HB13 HA11 HD11 HWA HT11 HBw
          have hof13 := hid (hof.out _ _ _ HA13.out)
          have hsm : Hid (∀ (V : World) (a14 : Option Addr) (c14 : Nat), Ow V wr.heap.size 35 5 a14 i c14 (toks O) → Below wr.heap.size wr V → Calls Try.prog 16 #[.slice a14 i c14, .slice c8 i cc8] V fun e w' => e = .returned (.bool true) ∧ ∃ q, w' = V.drewN q) := fun V a14 c14 hV hBV => by
            have := sameT_any c14 cc8 (hV.rt HN.out.symm) ((HW13.out.rt HN.out.symm).later hBV) (by omega) (by omega)
            rwa [decide_eq_true rfl] at this
          go_upto_region 27 with (first
            | (go_at_call 16; refine (hsm.out _ _ _ HO14.out HB14.out).mono ?_; rintro e w15 ⟨rfl, q15, hw15⟩; have HB15 : Hid (Below wr.heap.size wr w15) := (by unfold Hid; rw [hw15]; exact below_drewN HB14.out _); clear hw15)
            | (go_at_call 15; refine hof13.out.mono ?_; rintro e w14 ⟨a14, c14, rfl, hO14, hb14⟩; have HO14 := hid hO14; have HB14 := hid hb14; clear hO14 hb14))
          have HA15 := hid (HA13.out.later HB15.out)
          have HD15 := hid (HD13.out.later HB15.out)
          have HBw15 := hid (below_call HBw13.out HB15.out)
          have hs15 := HB15.out.size
          clear hof13 hsm HO14 HB14 HB15 HA13 HD13 HW13 HBw13 u0
          have hdA := hid (hdr.out _ _ _ HA15.out)
          go_upto_region 28 with (first | (go_at_call 14; refine hdA.out.mono ?_; rintro e w16 ⟨xa, xc, rfl, hO16, hc16, hb16⟩; have HO16 := hid hO16; have HA16 := hid hc16; have HB16 := hid hb16; clear hO16 hc16 hb16))
          have HAD : Hid (∀ q, A.Wr q → ¬ B.All q) := fun q hq hq2 => by have := HAl.out q (.inr (.inr hq)); have := HDl.out q hq2; omega
          have HDA : Hid (∀ q, B.Wr q → ¬ A.All q) := fun q hq hq2 => by have := HAl.out q hq2; have := HDl.out q (.inr (.inr hq)); omega
          have HD16 := hid (HD15.out.but HB16.out (fun q hq e => HAD.out q e hq))
          have hcn := hid (ccount_any HD16.out)
          have hdD := hid (hdr.out _ _ _ HD16.out)
          go_upto_region 29 with (first | (go_at_call 13; refine hcn.out.mono ?_; rintro e w9 ⟨rfl, hw9⟩; obtain rfl := hw9.symm; clear hw9))
          go_upto_region 30 with (first | (go_at_call 14; refine hdD.out.mono ?_; rintro e w17 ⟨ya, yc, rfl, hO17, hc17, hb17⟩; have HO17 := hid hO17; have HD17 := hid hc17; have HB17 := hid hb17; clear hO17 hc17 hb17))
          have hs16 := HB16.out.size
          have hs17 := HB17.out.size
          have HA17 := hid (HA16.out.but HB17.out (fun q hq e => HDA.out q e hq))
          have HX17 := hid (HO16.out.but HB17.out (fun q hq e => by have := (HO16.out.blk q hq).1; have := HDl.out q (.inr (.inr e)); omega))
          have hcn2 := hid (ccount_any HA17.out)
          have hsc := hid (sameC_any xc yc (HX17.out.rd hKl) (HO17.out.rd hKl) (by have := hGo.out.len; have := hGo.out.small; omega) (by have := hGo.out.len; have := hGo.out.small; omega))
          rw [decide_eq_true rfl] at hsc
          have HBw17 : Hid (Below w.heap.size w w17) := But.below (But.below HBw15.out HB16.out (fun q hq => (HAl.out q (.inr (.inr hq))).1)) HB17.out (fun q hq => by have := HDl.out q (.inr (.inr hq)); omega)
          have HBx : Hid (∀ q, Blk xa q → w15.heap.size ≤ q ∧ q < w16.heap.size) := fun q hq => HO16.out.blk q hq
          have HBy : Hid (∀ q, Blk ya q → w16.heap.size ≤ q ∧ q < w17.heap.size) := fun q hq => HO17.out.blk q hq
          have hlen := hGo.out.len
          have hsml := hGo.out.small
          rw [hKl] at hlen
          generalize hll : l.length = ll at *
          generalize hll' : l'.length = ll' at *
          have hne : ((ll : Int) != (ll' : Int) + (gl : Int)) = false := by simp; omega
          have hds : (dd != dd) = false := by simp
          have hce : (cd != cd) = false := by simp
          clear hll hdA hdD hcn HA15 HD15 HBw15 HA16 HD16 HB16 HB17 HO16
          go_upto_region 32 with (first
            | (go_at_call 17; refine hsc.out.mono ?_; rintro e w18 ⟨rfl, q18, hw18⟩; have HB18 : Hid (Below w17.heap.size w17 w18) := (by unfold Hid; rw [hw18]; exact below_drewN (Below.refl _ _) _); clear hw18)
            | (go_at_call 13; refine hcn2.out.mono ?_; rintro e w9 ⟨rfl, hw9⟩; obtain rfl := hw9.symm; clear hw9))
          have hlit := below1 w18 (Obj.cells #[] 33)
          have hX18 := HX17.out.later HB18.out
          obtain ⟨ga, gc, w20, hr20, hO20, hG20⟩ := append_k 43 33 _ 3 24 Try.underlying43 info33 rfl (by omega) (by omega) (Ow.empty w18 33 3) ((hX18.later hlit).cr (caps_one _)) (by have := hlit.size; omega) (by omega)
          rw [Nat.zero_add] at hr20 hO20
          rw [List.nil_append] at hO20
          have HO20 : Hid (Ow w20 w18.heap.size 33 3 ga gl gc (caps K)) := hO20
          have HR20 := hid hr20
          have HB20 : Hid (Below w18.heap.size w18 w20) := hlit.trans (Gr.below_k (Ow.empty w18 33 3) hG20 (by have := hlit.size; omega))
          have hs18 := HB18.out.size
          have hs20 := HB20.out.size
          clear hlit hr20 hO20 hG20 hX18 hsc hcn2 hne hds hce hcd
          go_upto_region 33 with (first | (at_builtin; refine wpList_append_known rfl _ _ 43 rfl _ _ rfl rfl _ w20 HR20.out ?_))
          have HX20 := hid ((HX17.out.later HB18.out).later HB20.out)
          have HY20 := hid ((HO17.out.later HB18.out).later HB20.out)
          have HA20 := hid ((HA17.out.later HB18.out).later HB20.out)
          have HD20 := hid ((HD17.out.later HB18.out).later HB20.out)
          have HBw20 := hid (below_call (below_call HBw17.out HB18.out) HB20.out)
          have HBg : Hid (∀ q, Blk ga q → w18.heap.size ≤ q ∧ q < w20.heap.size) := fun q hq => HO20.out.blk q hq
          clear HX17 HO17 HA17 HD17 HBw17 HR20 HB18 HB20
          obtain ⟨w21, hw21⟩ : ∃ w21, w21 = w20.alloc (Obj.cells #[.slice xa gl xc, .slice ya gl yc] 43) := ⟨_, rfl⟩
          have hb21 : Below w20.heap.size w20 w21 := by rw [hw21]; exact below1 _ _
          have hMk : Mk w21 w20.heap.size (fun k => if k = 0 then xa else ya) (fun k => if k = 0 then xc else yc) gl (fun _ => K) := by
            refine ⟨fun k hk => ?_, fun k hk => ?_, fun k hk => hKl, fun q h1 h2 => ?_, fun k hk e => ?_, by omega⟩
            · rw [hw21]
              have e : k = 0 ∨ k = 1 := by omega
              rcases e with rfl | rfl <;> simp [go_sem]
            · have e : k = 0 ∨ k = 1 := by omega
              rcases e with rfl | rfl
              · exact (HX20.out.later hb21).mono (Nat.zero_le _)
              · exact (HY20.out.later hb21).mono (Nat.zero_le _)
            · have := HBx.out q h1; have := HBy.out q h2; omega
            · have e2 : k = 0 ∨ k = 1 := by omega
              rcases e2 with rfl | rfl
              · have := HBx.out _ e; omega
              · have := HBy.out _ e; omega
          have hmk := hid (mark_any 2 hMk)
          have HQb : Hid (∀ q, Qb (fun k => if k = 0 then xa else ya) q → w15.heap.size ≤ q ∧ q < w17.heap.size) := fun q hq => by
            rcases hq with h1 | h1
            · have := HBx.out q h1; omega
            · have := HBy.out q h1; omega
          have HA21 := hid (HA20.out.later hb21)
          have HD21 := hid (HD20.out.later hb21)
          have HO21 := hid (HO20.out.later hb21)
          have HBw21 := hid (below_call HBw20.out hb21)
          clear hMk HX20 HY20 HA20 HD20 HBw20
          have hbl : (some ⟨w20.heap.size, 0, none⟩ : Option Addr) = some ⟨w20.heap.size, 0, none⟩ := rfl
          clear hbl hb21
          go_upto_region 35 with (first | (rw [← hw21]; go_at_call 18; refine hmk.out.mono ?_; rintro e w22 ⟨rfl, hb22⟩; have HB22 := hid hb22; clear hb22) | (go_at_call 18; rw [← hw21]; refine hmk.out.mono ?_; rintro e w22 ⟨rfl, hb22⟩; have HB22 := hid hb22; clear hb22))
          have HA22 := hid (HA21.out.but HB22.out (fun q hq e => by have := HAl.out q hq; have := HQb.out q e; omega))
          have HD22 := hid (HD21.out.but HB22.out (fun q hq e => by have := HDl.out q hq; have := HQb.out q e; omega))
          have HO22 := hid ((HO21.out.but HB22.out (fun q hq e => by have := HBg.out q hq; have := HQb.out q e; omega)).rd hKl)
          have HBw22 : Hid (Below w.heap.size w w22) := But.below HBw21.out HB22.out (fun q hq => by have := HQb.out q hq; omega)
          clear hmk HA21 HD21 HO21 HBw21 HB22 hw21
          go_upto_region 36 with fail
          go_loopw [26] (Fr3 w22 gl) (fun t _ => gl - (intOf t).toNat)
          case atStart => exact ⟨0, Nat.zero_le _, rfl, Below.refl _ _⟩
          case round =>
            obtain ⟨j, hj, rfl, hBj⟩ := hrel
            have HBj := hid hBj
            by_cases hjl : j < gl
            · obtain ⟨⟨co_, ch_, cl_⟩, hc⟩ := get_some (L := K) (i := j) (by omega)
              obtain ⟨hno, hw1, hw2⟩ := hGo.out.no _ (List.mem_of_getElem? hc)
              obtain ⟨b', o', e', hcel⟩ := (HO22.out.later hBj).at_ (by omega)
              obtain ⟨c0, c1, c2⟩ := hcel j _ hc
              have hfi := hid (cfind_any (HA22.out.later hBj) (co_, ch_, cl_) ⟨hw1, hw2⟩)
              rw [hno] at hfi
              generalize findN X' l' (co_, ch_, cl_) = fn at *
              simp only at c0 c1 c2
              subst e'
              clear hcel hc hBj hno hw1 hw2
              go_wp2_with (first | (go_at_call 11; refine hfi.out.mono ?_; rintro e w23 ⟨rfl, hb23⟩; have HB23 := hid hb23; clear hb23))
              exact ⟨⟨j + 1, by omega, by go_num, below_call HBj.out HB23.out⟩, by simp [intOf]; omega⟩
            · obtain rfl : j = gl := by omega
              have h1 := hid (ccount_any (HA22.out.later hBj))
              have h2 := hid (ccount_any (HD22.out.later hBj))
              rw [hll'] at h1 h2
              clear hBj
              go_wp2_with (first
                | (go_at_call 13; refine h2.out.mono ?_; rintro e w9 ⟨rfl, hw9⟩; obtain rfl := hw9.symm; clear hw9)
                | (go_at_call 13; refine h1.out.mono ?_; rintro e w9 ⟨rfl, hw9⟩; obtain rfl := hw9.symm; clear hw9))
              go_ret
              exact ⟨rfl, below_call HBw22.out HBj.out⟩
end Go.Proofs.Ytgdhdfmgfncdkaa
