import Derived.Test.YthfmmfphnimlnaaRJ
import Derived.Test.YthfmmfphnimlnaaIT
namespace Go.Proofs.Ythfmmfphnimlnaa
open Go.RowKit
set_option linter.unusedVariables false
set_option linter.unusedSimpArgs false
set_option maxRecDepth 100000 in
set_option maxHeartbeats 8000000 in
theorem rlaid_any (c : Cf) (s : St) (a b d : Sl) (Q : List (Ob × Sl)) (R : List (Pc × Sl)) (w : World) (h : Sm w s a b d Q R) (g : Good c s) (ht : 0 ≤ s.ta) :
    Calls Try.prog 21 #[c.v, stV a b d s.nx s.px s.ta] w fun e w' => ∃ a n c', e = .returned (.slice a n c') ∧ Own w' w.heap.size a n c' (layL c s) ∧ Below w.heap.size w w' := by
  obtain ⟨W, hW⟩ : ∃ W, W = (w.alloc (Obj.cells #[.int .i64 c.w, .int .i64 c.o, .int .i64 c.p, .int .i64 c.e, .int .i64 c.q, .int .i64 c.r, .int .i64 c.l, .int .i64 c.s, .int .i64 c.y, .int .i64 c.k] 23)).alloc (Obj.cells #[.slice a.a a.n a.c, .slice b.a b.n b.c, .slice d.a d.n d.c, .int .i64 s.nx, .int .i64 s.px, .int .i64 s.ta] 28) := ⟨_, rfl⟩
  have hB : Below w.heap.size w W := by rw [hW]; exact below2 _ _ _
  have hsz : W.heap.size = w.heap.size + 1 + 1 := by rw [hW]; simp
  have HXr : Hid (W.rangeAt w.heap.size 0 c.L) := by rw [hW]; exact rangeAt_later (below1 _ _) (rangeAt_new w c.L _)
  have HYr : Hid (W.rangeAt (w.heap.size + 1) 0 [.slice a.a a.n a.c, .slice b.a b.n b.c, .slice d.a d.n d.c, .int .i64 s.nx, .int .i64 s.px, .int .i64 s.ta]) := by
    have := rangeAt_new (w.alloc (Obj.cells #[.int .i64 c.w, .int .i64 c.o, .int .i64 c.p, .int .i64 c.e, .int .i64 c.q, .int .i64 c.r, .int .i64 c.l, .int .i64 c.s, .int .i64 c.y, .int .i64 c.k] 23)) [.slice a.a a.n a.c, .slice b.a b.n b.c, .slice d.a d.n d.c, .int .i64 s.nx, .int .i64 s.px, .int .i64 s.ta] 28
    rw [World.size_alloc] at this
    rw [hW]; exact this
  have HM := hid (h.later hB)
  have hlO : s.O.length = a.n := by rw [← h.eo]; have := h.o.len; simpa using this
  have hlT : s.T.length = b.n := by have := h.t.len; simpa using this
  have hlP : s.P.length = d.n := by rw [← h.ep]; have := h.p.len; simpa using this
  have han : a.n ≤ 64 := by have := g.ol; omega
  have hbn : b.n ≤ 256 := by have := g.tl; omega
  have hdn : d.n ≤ 32 := by have := g.pl; omega
  obtain ⟨U1, hU1⟩ : ∃ U1, U1 = (W.alloc (Obj.cells mkA 5 (8, 9))).alloc (Obj.cells #[.int .i64 c.w, .int .i64 c.o, .int .i64 c.p, .int .i64 c.e, .int .i64 c.q, .int .i64 c.r, .int .i64 c.l, .int .i64 c.s, .int .i64 c.y, .int .i64 c.k] 3) := ⟨_, rfl⟩
  have HB1 : Hid (Below W.heap.size W U1) := by rw [hU1]; exact below2 _ _ _
  have HR1 : Hid (Row U1 (some ⟨W.heap.size, 0, none⟩) 8 8 mkB) := by
    rw [hU1]
    exact (mk_row (heap_alloc_new W _)).alloc _
  obtain ⟨bi, hbi⟩ : ∃ bi, bi = W.heap.size + 1 := ⟨_, rfl⟩
  have HI1 : Hid (∀ (i : Nat) (v : Int), c.l10[i]? = some v → U1.cell? ⟨bi, i, none⟩ = some (.int .i64 v)) := by
    intro i v hv
    have h2 : (c.L)[i]? = some (.int .i64 v) := by
      have e : c.L = c.l10.map (fun v => Value.int .i64 v) := rfl
      rw [e, List.getElem?_map, hv]; rfl
    have := rangeAt_new (W.alloc (Obj.cells mkA 5 (8, 9))) c.L 3
    rw [World.size_alloc] at this
    rw [hU1, hbi]
    have h3 := this i _ h2
    rw [Nat.zero_add] at h3
    exact h3
  have hbs : bi < U1.heap.size := by rw [hU1, hbi]; simp
  have HS : Hid (∀ X, Below W.heap.size W X → X.cell? ⟨w.heap.size + 1, 3, none⟩ = some (.int .i64 s.nx) ∧ X.cell? ⟨w.heap.size + 1, 4, none⟩ = some (.int .i64 s.px) ∧ X.cell? ⟨w.heap.size + 1, 5, none⟩ = some (.int .i64 s.ta)) := fun X hX => by
    have r := rangeAt_later hX HYr.out
    have r3 := r 3 _ rfl
    have r4 := r 4 _ rfl
    have r5 := r 5 _ rfl
    simp only [Nat.zero_add] at r3 r4 r5
    exact ⟨r3, r4, r5⟩
  have HY0 : Hid (W.cell? ⟨w.heap.size + 1, 0, none⟩ = some (.slice a.a a.n a.c)) := by have := HYr.out 0 _ rfl; unfold Hid; simpa using this
  have HY1 : Hid (W.cell? ⟨w.heap.size + 1, 1, none⟩ = some (.slice b.a b.n b.c)) := by have := HYr.out 1 _ rfl; unfold Hid; simpa using this
  have HY2 : Hid (W.cell? ⟨w.heap.size + 1, 2, none⟩ = some (.slice d.a d.n d.c)) := by have := HYr.out 2 _ rfl; unfold Hid; simpa using this
  have HB0 := hid hB
  have HW := hid hW
  have HU1 := hid hU1
  have HG := hid g
  have HTa := hid ht
  have HLo := hid hlO
  have HLt := hid hlT
  have HLp := hid hlP
  have HBi := hid hbi
  have HBs := hid hbs
  have HSz := hid hsz
  clear h g ht hlO hlT hlP hB hW hU1 HXr HYr hsz hbi hbs
  obtain ⟨aa, an, ac⟩ := a
  obtain ⟨ba, bn, bc⟩ := b
  obtain ⟨da, dn, dc⟩ := d
  simp only at han hbn hdn HY0 HY1 HY2 HW HLo HLt HLp ⊢
  have kc : (convert 30 30 (.slice (some ⟨w.heap.size + 1 + 1, 0, none⟩) 8 8)).run Try.prog (((w.alloc (Obj.cells #[.int .i64 c.w, .int .i64 c.o, .int .i64 c.p, .int .i64 c.e, .int .i64 c.q, .int .i64 c.r, .int .i64 c.l, .int .i64 c.s, .int .i64 c.y, .int .i64 c.k] 23)).alloc (Obj.cells #[.slice aa an ac, .slice ba bn bc, .slice da dn dc, .int .i64 s.nx, .int .i64 s.px, .int .i64 s.ta] 28)).alloc (Obj.cells #[.int .u8 115, .int .u8 101, .int .u8 115, .int .u8 97, .int .u8 109, .int .u8 101, .int .u8 32, .int .u8 49] 5)) = .ok (.slice (some ⟨w.heap.size + 1 + 1, 0, none⟩) 8 8) (((w.alloc (Obj.cells #[.int .i64 c.w, .int .i64 c.o, .int .i64 c.p, .int .i64 c.e, .int .i64 c.q, .int .i64 c.r, .int .i64 c.l, .int .i64 c.s, .int .i64 c.y, .int .i64 c.k] 23)).alloc (Obj.cells #[.slice aa an ac, .slice ba bn bc, .slice da dn dc, .int .i64 s.nx, .int .i64 s.px, .int .i64 s.ta] 28)).alloc (Obj.cells #[.int .u8 115, .int .u8 101, .int .u8 115, .int .u8 97, .int .u8 109, .int .u8 101, .int .u8 32, .int .u8 49] 5 (8, 9))) := by
    have := Lib.run_convert_bytes_const (P := Try.prog) ((w.alloc (Obj.cells #[.int .i64 c.w, .int .i64 c.o, .int .i64 c.p, .int .i64 c.e, .int .i64 c.q, .int .i64 c.r, .int .i64 c.l, .int .i64 c.s, .int .i64 c.y, .int .i64 c.k] 23)).alloc (Obj.cells #[.slice aa an ac, .slice ba bn bc, .slice da dn dc, .int .i64 s.nx, .int .i64 s.px, .int .i64 s.ta] 28)) 30 5 #[.int .u8 115, .int .u8 101, .int .u8 115, .int .u8 97, .int .u8 109, .int .u8 101, .int .u8 32, .int .u8 49] 8 8 Try.underlying30 Try.underlying5
    rw [World.size_alloc, World.size_alloc] at this
    exact this
  go_enter Try.func21, Try.ntmps21
  go_upto_region 4 with fail
  clear kc
  rw [← HW.out]
  have hU1 : (W.alloc (Obj.cells #[.int .u8 115, .int .u8 101, .int .u8 115, .int .u8 97, .int .u8 109, .int .u8 101, .int .u8 32, .int .u8 49] 5 (8, 9))).alloc (Obj.cells #[.int .i64 c.w, .int .i64 c.o, .int .i64 c.p, .int .i64 c.e, .int .i64 c.q, .int .i64 c.r, .int .i64 c.l, .int .i64 c.s, .int .i64 c.y, .int .i64 c.k] 3) = U1 := HU1.out.symm
  rw [hU1]
  have hbe : w.heap.size + 1 + 1 = W.heap.size := HSz.out.symm
  rw [hbe]
  rw [show W.heap.size + 1 = bi from HBi.out.symm]
  clear hU1 hbe
  go_loopw [5, 7] (fun t i U => ∃ (j : Nat) (a : Option Addr) (n cap : Nat), i = .int .i64 (j : Int) ∧ t = .slice a n cap ∧ j ≤ 10 ∧ n = 8 + 2 * j ∧ (j = 0 ∧ a = some ⟨W.heap.size, 0, none⟩ ∧ cap = 8 ∧ Row U (some ⟨W.heap.size, 0, none⟩) 8 8 mkB ∨ 0 < j ∧ Own U W.heap.size a n cap (mkB ++ (c.l10.take j).flatMap (fun n => leL n.toNat 2)) ∧ ∀ k, Blk a k → bi < k) ∧ (∀ (i : Nat) (v : Int), c.l10[i]? = some v → U.cell? ⟨bi, i, none⟩ = some (.int .i64 v)) ∧ Below W.heap.size W U) (fun _ i _ => 10 - ivN i)
  case atStart => exact ⟨0, _, _, _, rfl, rfl, Nat.zero_le _, rfl, .inl ⟨rfl, rfl, rfl, HR1.out⟩, HI1.out, HB1.out⟩
  case round =>
    obtain ⟨j, xa, xn, xc, rfl, rfl, hj, hxn, hd, hI, hBr⟩ := hrel
    have HXn := hid hxn
    have HD := hid hd
    have HI := hid hI
    have HBr := hid hBr
    clear hd hI hBr hxn
    by_cases hlt : j < 10
    · have hd : decide ((j : Int) < 10) = true := by simp; omega
      have hj10 : (j : Int) < 10 := by omega
      obtain ⟨v, hv⟩ : ∃ v, c.l10[j]? = some v := ⟨_, List.getElem?_eq_getElem (by simp [Cf.l10]; omega)⟩
      have hvb := HG.out.cf v (List.mem_of_getElem? hv)
      have HT := hid (flat_take (fun n : Int => leL n.toNat 2) hv)
      have y0 := HI.out j v hv
      have HC : Hid (Calls Try.prog 36 #[.slice xa xn xc, .int .i64 v, .int .i64 2] wr fun e w' => ∃ a' c', e = .returned (.slice a' (xn + 2) c') ∧ Own w' W.heap.size a' (xn + 2) c' (mkB ++ (c.l10.take (j + 1)).flatMap (fun n => leL n.toNat 2)) ∧ (∀ k, Blk a' k → bi < k) ∧ (∀ (i : Nat) (v : Int), c.l10[i]? = some v → w'.cell? ⟨bi, i, none⟩ = some (.int .i64 v)) ∧ Below W.heap.size W w') := by
        have hbw : bi < wr.heap.size := by
          obtain ⟨v0, hv0⟩ : ∃ v, c.l10[0]? = some v := ⟨_, rfl⟩
          exact World.block_lt_of_cell? _ _ (HI.out 0 v0 hv0)
        have hxe := HXn.out
        rcases HD.out with ⟨rfl, rfl, rfl, hr⟩ | ⟨h0, ho, hk⟩
        · subst hxe
          refine (rput_first ⟨W.heap.size, 0, none⟩ 8 mkB v 2 wr hr (by omega) (by omega) (by omega)).mono ?_
          rintro e w' ⟨a', c', rfl, ho, hb⟩
          refine ⟨a', c', rfl, ?_, fun k hk => ?_, fun i v hv => cell_later hb (HI.out i v hv), below_call HBr.out hb⟩
          · have := ho.mono HBr.out.size
            rw [HT.out, ← beL_pos v 2 hvb.1]
            exact this
          · have := ho.blk k hk
            omega
        · refine (rput_any xa xn xc _ v 2 wr W.heap.size ho HBr.out.size (by omega) (by omega)).mono ?_
          rintro e w' ⟨a', c', rfl, ho', hg⟩
          refine ⟨a', c', rfl, ?_, fun k hk' => ?_, fun i v hv => cell_but hg.but (HI.out i v hv) (fun hx => by have := hk _ hx; omega), HBr.out.trans (hg.below ho HBr.out.size)⟩
          · rw [HT.out, ← beL_pos v 2 hvb.1, ← List.append_assoc]
            exact ho'
          · rcases hg.on k hk' with h1 | h1
            · exact hk k h1
            · omega
      clear hv hvb HT
      go_wp2_with (first | (go_at_call 36; refine HC.out.mono ?_; rintro e w2 ⟨a2, c2, rfl, ho2, hk2, hi2, hb2⟩; have HO2 := hid (And.intro ho2 (And.intro hk2 (And.intro hi2 hb2))); clear ho2 hk2 hi2 hb2))
      exact ⟨⟨j + 1, a2, xn + 2, c2, rfl, rfl, by omega, by have := HXn.out; omega, .inr ⟨by omega, HO2.out.1, HO2.out.2.1⟩, HO2.out.2.2.1, HO2.out.2.2.2⟩, by simp [ivN]; omega⟩
    · obtain rfl : j = 10 := by omega
      have HQ0 : Hid (Bq W wr xa xn xc (mkB ++ cfL c)) := by
        rcases HD.out with ⟨e0, _⟩ | ⟨_, ho, _⟩
        · cases e0
        · exact ⟨ho, HBr.out⟩
      have hxn : xn ≤ 28 := by have := HXn.out; omega
      clear HD HI HBr HI1 HR1 HB1 HXn
      generalize hB0 : mkB ++ cfL c = B0 at HQ0
      have HB0e := hid hB0
      clear hB0
      go_upto_region 7 with fail
      have S0 := HS.out _ (below_call HQ0.out.bel (Below.refl _ _).drew)
      go_region_held3 (fun X => X.cell? ⟨w.heap.size + 1, 3, none⟩ = some (.int .i64 s.nx) ∧ X.cell? ⟨w.heap.size + 1, 4, none⟩ = some (.int .i64 s.px) ∧ X.cell? ⟨w.heap.size + 1, 5, none⟩ = some (.int .i64 s.ta)) (first | exact S3 | exact S2 | exact S1 | exact S0) (first
        | (go_at_call 36; refine (bput 2 (by omega) HQ2.out (by omega) s.ta).mono ?_; rintro e w3 ⟨a3, c3, rfl, hq3, _⟩; have HQ3 := hid hq3; have S3 := HS.out _ hq3.bel; clear hq3)
        | (go_at_call 36; refine (bput 4 (by omega) HQ1.out (by omega) s.px).mono ?_; rintro e w2 ⟨a2, c2, rfl, hq2, _⟩; have HQ2 := hid hq2; have S2 := HS.out _ hq2.bel; clear hq2)
        | (go_at_call 36; refine (bput 8 (by omega) (HQ0.out.later (Below.refl _ _).drew) (by omega) s.nx).mono ?_; rintro e w1 ⟨a1, c1, rfl, hq1, _⟩; have HQ1 := hid hq1; have S1 := HS.out _ hq1.bel; clear hq1))
      have hB2 : B0 ++ beL s.nx 8 ++ beL s.px 4 ++ beL s.ta 2 = mkB ++ (cfL c ++ (leL s.nx.toNat 8 ++ (leL s.px.toNat 4 ++ leL s.ta.toNat 2))) := by
        rw [← HB0e.out, beL_pos _ _ (by have := HG.out.nx; omega), beL_pos _ _ (by have := HG.out.px; omega), beL_pos _ _ HTa.out]
        simp
      rw [hB2] at HQ3
      clear hB2 S0 S1 S2 S3 HQ0 HQ1 HQ2 HB0e
      generalize hB3 : mkB ++ (cfL c ++ (leL s.nx.toNat 8 ++ (leL s.px.toNat 4 ++ leL s.ta.toNat 2))) = B3 at HQ3
      have HB3e := hid hB3
      clear hB3
      obtain ⟨x3, hx3⟩ : ∃ x3, x3 = xn + 8 + 4 + 2 := ⟨_, rfl⟩
      rw [← hx3] at HQ3 ⊢
      have hx3b : x3 ≤ 42 := by omega
      clear hx3 hxn
      have y0 := cell_later HQ3.out.bel HY0.out
      go_upto_region 10 with (first | (go_at_call 36; refine (bput 2 (by omega) HQ3.out (by omega) _).mono ?_; rintro e w4 ⟨a4, c4, rfl, hq4, _⟩; have HQ4 := hid hq4; clear hq4))
      clear y0
      rw [beL_nat] at HQ4
      go_loopw [5, 8] (fun t i U => ∃ (j : Nat) (a : Option Addr) (n cap : Nat), i = .int .i64 (j : Int) ∧ t = .slice a n cap ∧ j ≤ an ∧ n ≤ 50 + 4200 * j ∧ Bq W U a n cap (B3 ++ leL an 2 ++ (Q.take j).flatMap (fun q => obL q.1))) (fun _ i _ => an - ivN i)
      case atStart => exact ⟨0, _, _, _, rfl, rfl, Nat.zero_le _, by omega, by simpa using HQ4.out⟩
      case round =>
        obtain ⟨j, ya, yn, yc, rfl, rfl, hj, hyn, hq⟩ := hrel
        have HQ5 := hid hq
        clear hq HQ4 HQ3
        have y0 := cell_later HQ5.out.bel HY0.out
        by_cases hlt : j < an
        · have hd : decide ((j : Int) < (an : Int)) = true := by simp; omega
          have hjn : (j : Int) < (an : Int) := by omega
          have hql : Q.length = an := by have h1 := HM.out.o.len; simpa using h1
          obtain ⟨q, hq⟩ : ∃ q, Q[j]? = some q := ⟨_, List.getElem?_eq_getElem (by omega)⟩
          obtain ⟨ga, go, rfl, hrg⟩ := HM.out.o.at_ j (encO q) (by rw [List.getElem?_map, hq]; rfl)
          have hqm := List.mem_of_getElem? hq
          have HRq := hid (HM.out.ob q hqm)
          have hqg := HG.out.oo q.1 (by rw [← HM.out.eo]; exact List.mem_map_of_mem hqm)
          have HT := hid (flat_take (fun q : Ob × Sl => obL q.1) hq)
          have hqn : q.1.b.length = q.2.n := HRq.out.len
          have z0 := hrg 0 _ rfl
          have z1 := hrg 1 _ rfl
          simp only [Nat.add_zero] at z0
          obtain ⟨⟨qi, qb⟩, qa, qn, qc⟩ := q
          simp only at HRq hqg HT hqn z0 z1
          have HSo : Hid (∀ X, Below W.heap.size W X → X.cell? ⟨w.heap.size + 1, 0, none⟩ = some (.slice (some ⟨ga, go, none⟩) an ac) ∧ X.cell? ⟨ga, go + j * 2, none⟩ = some (.int .i64 qi) ∧ X.cell? ⟨ga, go + j * 2 + 1, none⟩ = some (.slice qa qn qc)) := fun X hX => ⟨cell_later hX HY0.out, cell_later hX z0, cell_later hX z1⟩
          have HOb : Hid (obL ⟨qi, qb⟩ = beL qi 8 ++ (beL (qn : Int) 2 ++ qb)) := by unfold Hid obL; rw [beL_pos _ _ hqg.1, beL_nat, hqn]
          have hq4 : qn ≤ 4096 := by omega
          clear hrg hq hqm hqg hql z0 z1 hqn
          go_upto_region 12 with fail
          clear y0
          have S0 := HSo.out _ (below_call HQ5.out.bel (Below.refl _ _).drew)
          go_region_held3 (fun X => X.cell? ⟨w.heap.size + 1, 0, none⟩ = some (.slice (some ⟨ga, go, none⟩) an ac) ∧ X.cell? ⟨ga, go + j * 2, none⟩ = some (.int .i64 qi) ∧ X.cell? ⟨ga, go + j * 2 + 1, none⟩ = some (.slice qa qn qc)) (first | exact S2 | exact S1 | exact S0) (first
            | (go_at_call 36; refine (bput 2 (by omega) HQ6.out (by omega) (qn : Int)).mono ?_; rintro e w7 ⟨a7, c7, rfl, hq7, _⟩; have HQ7 := hid hq7; have S2 := HSo.out _ hq7.bel; clear hq7)
            | (go_at_call 36; refine (bput 8 (by omega) (HQ5.out.later (Below.refl _ _).drew) (by omega) qi).mono ?_; rintro e w6 ⟨a6, c6, rfl, hq6, _⟩; have HQ6 := hid hq6; have S1 := HSo.out _ hq6.bel; clear hq6))
          obtain ⟨u0, u1, u2⟩ := S2
          obtain ⟨a8, c8, w8, hrun8, hown8, hgr8⟩ := append_any HQ7.out.own (HRq.out.later HQ7.out.bel) HQ7.out.bel.size (by omega)
          have HRUN := hid hrun8
          have HQ8 : Hid (Bq W w8 a8 (yn + 8 + 2 + qn) c8 (B3 ++ leL an 2 ++ (Q.take (j + 1)).flatMap (fun q => obL q.1))) := by
            refine ⟨?_, HQ7.out.bel.trans (hgr8.below HQ7.out.own HQ7.out.bel.size)⟩
            rw [HT.out, HOb.out]
            simpa using hown8
          clear hrun8 hown8 hgr8 S0 S1
          go_wp2_with (first | (at_builtin; refine wpList_append_known rfl _ _ 30 rfl _ _ rfl rfl _ w8 HRUN.out ?_))
          exact ⟨⟨j + 1, a8, _, c8, rfl, rfl, by omega, by omega, HQ8.out⟩, by simp [ivN]; omega⟩
        · obtain rfl : j = an := by omega
          have hyb : yn ≤ 300000 := by omega
          have hB5 : B3 ++ leL j 2 ++ (Q.take j).flatMap (fun q => obL q.1) = B3 ++ osL s.O := by
            have hql : Q.length = j := by have h1 := HM.out.o.len; simpa using h1
            rw [List.take_of_length_le (by omega), osL, HLo.out, ← HM.out.eo, List.flatMap_map, List.append_assoc]
          rw [hB5] at HQ5
          clear hB5 hyn hj hlt
          have y1 := cell_later HQ5.out.bel HY1.out
          go_upto_region 16 with (first | (go_at_call 36; refine (bput 2 (by omega) HQ5.out (by omega) _).mono ?_; rintro e w9 ⟨a9, c9, rfl, hq9, _⟩; have HQ9 := hid hq9; clear hq9))
          clear y1 y0
          rw [beL_nat] at HQ9
          go_loopw [5, 9] (fun t i U => ∃ (j2 : Nat) (a : Option Addr) (n cap : Nat), i = .int .i64 (j2 : Int) ∧ t = .slice a n cap ∧ j2 ≤ bn ∧ n ≤ 300010 + 27 * j2 ∧ Bq W U a n cap (B3 ++ osL s.O ++ leL bn 2 ++ (s.T.take j2).flatMap tkL)) (fun _ i _ => bn - ivN i)
          case atStart => exact ⟨0, _, _, _, rfl, rfl, Nat.zero_le _, by omega, by simpa using HQ9.out⟩
          case round =>
            obtain ⟨j2, ya2, yn2, yc2, rfl, rfl, hj2, hyn2, hq⟩ := hrel
            have HQA := hid hq
            clear hq HQ9 HQ5
            have y1 := cell_later HQA.out.bel HY1.out
            by_cases hlt2 : j2 < bn
            · have hd : decide ((j2 : Int) < (bn : Int)) = true := by simp; omega
              have hjn2 : (j2 : Int) < (bn : Int) := by omega
              obtain ⟨q, hq⟩ : ∃ q, s.T[j2]? = some q := ⟨_, List.getElem?_eq_getElem (by have := HLt.out; omega)⟩
              obtain ⟨gb, gp, rfl, hrg⟩ := HM.out.t.at_ j2 (encT q) (by rw [List.getElem?_map, hq]; rfl)
              have hqm := List.mem_of_getElem? hq
              have hqg := HG.out.tt q hqm
              have hqw := HM.out.tw q hqm
              have HT := hid (flat_take tkL hq)
              have HCp := hid (fun (U : World) (a : Option Addr) (n c : Nat) (B : List Nat) (h : Bq W U a n c B) (hn : n ≤ 9000000) => rcapped_any h hn q.c hqw hqg.1)
              have HOb : Hid (tkL q = capL q.c ++ (beL q.r 1 ++ beL q.p 2)) := by unfold Hid tkL; rw [beL_pos _ _ hqg.2.2.1, beL_par _ hqg.2.2.2.2]
              have z0 := hrg 0 _ rfl
              have z1 := hrg 1 _ rfl
              have z2 := hrg 2 _ rfl
              have z3 := hrg 3 _ rfl
              have z4 := hrg 4 _ rfl
              simp only [Nat.add_zero] at z0
              obtain ⟨⟨qo, qh, ql⟩, qr, qp⟩ := q
              simp only at HT HCp HOb z0 z1 z2 z3 z4
              have HSo : Hid (∀ X, Below W.heap.size W X → X.cell? ⟨w.heap.size + 1, 1, none⟩ = some (.slice (some ⟨gb, gp, none⟩) bn bc) ∧ X.cell? ⟨gb, gp + j2 * 5, none⟩ = some (.int .i64 qo) ∧ X.cell? ⟨gb, gp + j2 * 5 + 1, none⟩ = some (.int .u64 (qh : Int)) ∧ X.cell? ⟨gb, gp + j2 * 5 + 2, none⟩ = some (.int .u64 (ql : Int)) ∧ X.cell? ⟨gb, gp + j2 * 5 + 3, none⟩ = some (.int .i64 qr) ∧ X.cell? ⟨gb, gp + j2 * 5 + 4, none⟩ = some (.int .i64 qp)) := fun X hX => ⟨cell_later hX HY1.out, cell_later hX z0, cell_later hX z1, cell_later hX z2, cell_later hX z3, cell_later hX z4⟩
              clear hrg hq hqm hqg hqw z0 z1 z2 z3 z4
              generalize capL ⟨qo, qh, ql⟩ = cl at HCp HOb
              go_upto_region 18 with fail
              clear y1
              have S0 := HSo.out _ (below_call HQA.out.bel (Below.refl _ _).drew)
              go_region_held3 (fun X => X.cell? ⟨w.heap.size + 1, 1, none⟩ = some (.slice (some ⟨gb, gp, none⟩) bn bc) ∧ X.cell? ⟨gb, gp + j2 * 5, none⟩ = some (.int .i64 qo) ∧ X.cell? ⟨gb, gp + j2 * 5 + 1, none⟩ = some (.int .u64 (qh : Int)) ∧ X.cell? ⟨gb, gp + j2 * 5 + 2, none⟩ = some (.int .u64 (ql : Int)) ∧ X.cell? ⟨gb, gp + j2 * 5 + 3, none⟩ = some (.int .i64 qr) ∧ X.cell? ⟨gb, gp + j2 * 5 + 4, none⟩ = some (.int .i64 qp)) (first | exact S3 | exact S2 | exact S1 | exact S0) (first
                | (go_at_call 37; refine (HCp.out _ _ _ _ _ (HQA.out.later (Below.refl _ _).drew) (by omega)).mono ?_; rintro e w6 ⟨a6, c6, rfl, hq6⟩; have HQ6 := hid hq6; have S1 := HSo.out _ hq6.bel; clear hq6)
                | (go_at_call 36; refine (bput 2 (by omega) HQ7.out (by omega) qp).mono ?_; rintro e w8 ⟨a8, c8, rfl, hq8, _⟩; have HQ8 := hid hq8; have S3 := HSo.out _ hq8.bel; clear hq8)
                | (go_at_call 36; refine (bput 1 (by omega) HQ6.out (by omega) qr).mono ?_; rintro e w7 ⟨a7, c7, rfl, hq7, _⟩; have HQ7 := hid hq7; have S2 := HSo.out _ hq7.bel; clear hq7))
              have HQB : Hid (Bq W w8 a8 (yn2 + 24 + 1 + 2) c8 (B3 ++ osL s.O ++ leL bn 2 ++ (s.T.take (j2 + 1)).flatMap tkL)) := by
                have := HQ8.out
                unfold Hid
                rw [HT.out, HOb.out]
                simpa using this
              clear S0 S1 S2 S3 HQ6 HQ7 HQ8
              go_wp2
              exact ⟨⟨j2 + 1, a8, _, c8, rfl, rfl, by omega, by omega, HQB.out⟩, by simp [ivN]; omega⟩
            · obtain rfl : j2 = bn := by omega
              have hyb2 : yn2 ≤ 320000 := by omega
              have hB5 : B3 ++ osL s.O ++ leL j2 2 ++ (s.T.take j2).flatMap tkL = B3 ++ osL s.O ++ tsL s.T := by
                rw [List.take_of_length_le (by have := HLt.out; omega), tsL, HLt.out, List.append_assoc (B3 ++ osL s.O)]
              rw [hB5] at HQA
              clear hB5 hyn2 hj2 hlt2
              have y2 := cell_later HQA.out.bel HY2.out
              go_upto_region 21 with (first | (go_at_call 36; refine (bput 2 (by omega) HQA.out (by omega) _).mono ?_; rintro e w9 ⟨a9, c9, rfl, hq9, _⟩; have HQ9 := hid hq9; clear hq9))
              clear y1 y2
              rw [beL_nat] at HQ9
              go_loopw [5, 10] (fun t i U => ∃ (j3 : Nat) (a : Option Addr) (n cap : Nat), i = .int .i64 (j3 : Int) ∧ t = .slice a n cap ∧ j3 ≤ dn ∧ n ≤ 320010 + 1000 * j3 ∧ Bq W U a n cap (B3 ++ osL s.O ++ tsL s.T ++ leL dn 2 ++ (R.take j3).flatMap (fun q => pcsL q.1))) (fun _ i _ => dn - ivN i)
              case atStart => exact ⟨0, _, _, _, rfl, rfl, Nat.zero_le _, by omega, by simpa using HQ9.out⟩
              case round =>
                obtain ⟨j3, ya3, yn3, yc3, rfl, rfl, hj3, hyn3, hq⟩ := hrel
                have HQC := hid hq
                clear hq HQ9 HQA
                have y2 := cell_later HQC.out.bel HY2.out
                have hRl : R.length = dn := by have h1 := HM.out.p.len; simpa using h1
                have HRl := hid hRl
                clear hRl
                by_cases hlt3 : j3 < dn
                · have hd : decide ((j3 : Int) < (dn : Int)) = true := by simp; omega
                  have hjn3 : (j3 : Int) < (dn : Int) := by omega
                  obtain ⟨q, hq⟩ : ∃ q, R[j3]? = some q := ⟨_, List.getElem?_eq_getElem (by have := HRl.out; omega)⟩
                  obtain ⟨gd, gq, rfl, hrg⟩ := HM.out.p.at_ j3 (encP q) (by rw [List.getElem?_map, hq]; rfl)
                  have hqm := List.mem_of_getElem? hq
                  have HPl := hid (HM.out.pl q hqm)
                  have HPw := hid (HM.out.pw q hqm)
                  have hqg := HG.out.pp q.1 (by rw [← HM.out.ep]; exact List.mem_map_of_mem hqm)
                  have HT := hid (flat_take (fun q : Pc × Sl => pcsL q.1) hq)
                  have hqn : q.1.l.length = q.2.n := by have := HPl.out.len; simpa using this
                  have z0 := hrg 0 _ rfl
                  have z1 := hrg 1 _ rfl
                  simp only [Nat.add_zero] at z0
                  obtain ⟨⟨pi, pl⟩, pa, pn, pc⟩ := q
                  simp only at HPl HPw hqg HT hqn z0 z1
                  have HSp : Hid (∀ X, Below W.heap.size W X → X.cell? ⟨w.heap.size + 1, 2, none⟩ = some (.slice (some ⟨gd, gq, none⟩) dn dc) ∧ X.cell? ⟨gd, gq + j3 * 2, none⟩ = some (.int .i64 pi) ∧ X.cell? ⟨gd, gq + j3 * 2 + 1, none⟩ = some (.slice pa pn pc)) := fun X hX => ⟨cell_later hX HY2.out, cell_later hX z0, cell_later hX z1⟩
                  have HOb : Hid (pcsL ⟨pi, pl⟩ = beL pi 2 ++ (beL (pn : Int) 1 ++ pl.flatMap capL)) := by unfold Hid pcsL; rw [beL_pos _ _ hqg.1, beL_nat, hqn]
                  have hpn : pn ≤ 32 := by omega
                  have HQc := hid hqg.2.2.2
                  have HQn := hid hqn
                  clear hrg hq hqm hqg z0 z1 hqn
                  go_upto_region 23 with fail
                  clear y2
                  have S0 := HSp.out _ (below_call HQC.out.bel (Below.refl _ _).drew)
                  go_region_held3 (fun X => X.cell? ⟨w.heap.size + 1, 2, none⟩ = some (.slice (some ⟨gd, gq, none⟩) dn dc) ∧ X.cell? ⟨gd, gq + j3 * 2, none⟩ = some (.int .i64 pi) ∧ X.cell? ⟨gd, gq + j3 * 2 + 1, none⟩ = some (.slice pa pn pc)) (first | exact S2 | exact S1 | exact S0) (first
                    | (go_at_call 36; refine (bput 1 (by omega) HQ6.out (by omega) (pn : Int)).mono ?_; rintro e w7 ⟨a7, c7, rfl, hq7, _⟩; have HQ7 := hid hq7; have S2 := HSp.out _ hq7.bel; clear hq7)
                    | (go_at_call 36; refine (bput 2 (by omega) (HQC.out.later (Below.refl _ _).drew) (by omega) pi).mono ?_; rintro e w6 ⟨a6, c6, rfl, hq6, _⟩; have HQ6 := hid hq6; have S1 := HSp.out _ hq6.bel; clear hq6))
                  clear S0 S1 S2
                  go_upto_region 25 with fail
                  go_loopw [5, 11] (fun t i U => ∃ (k : Nat) (a : Option Addr) (n cap : Nat), i = .int .i64 (k : Int) ∧ t = .slice a n cap ∧ k ≤ pn ∧ n ≤ 320010 + 1000 * j3 + 3 + 24 * k ∧ Bq W U a n cap (B3 ++ osL s.O ++ tsL s.T ++ leL dn 2 ++ (R.take j3).flatMap (fun q => pcsL q.1) ++ beL pi 2 ++ beL (pn : Int) 1 ++ (pl.take k).flatMap capL)) (fun _ i _ => pn - ivN i)
                  case atStart => exact ⟨0, _, _, _, rfl, rfl, Nat.zero_le _, by omega, by simpa using HQ7.out⟩
                  case round =>
                    obtain ⟨k, ya4, yn4, yc4, rfl, rfl, hk, hyn4, hq⟩ := hrel
                    have HQD := hid hq
                    clear hq HQ7 HQ6
                    obtain ⟨v0, v1, v2⟩ := HSp.out _ HQD.out.bel
                    by_cases hkl : k < pn
                    · have hd2 : decide ((k : Int) < (pn : Int)) = true := by simp; omega
                      have hkn : (k : Int) < (pn : Int) := by omega
                      obtain ⟨y, hy⟩ : ∃ y, pl[k]? = some y := ⟨_, List.getElem?_eq_getElem (by have := HQn.out; omega)⟩
                      obtain ⟨g2, o2, rfl, hrg⟩ := HPl.out.at_ k (encC y) (by rw [List.getElem?_map, hy]; rfl)
                      have HLd := hid (ldC (rangeAt_later HQD.out.bel hrg) rfl)
                      have hyb := HQc.out y (List.mem_of_getElem? hy)
                      have hyw := HPw.out y (List.mem_of_getElem? hy)
                      have HTy := hid (flat_take capL hy)
                      have HCp := hid (rcapped_any HQD.out (by omega) y hyw hyb.1)
                      generalize capL y = cl at HCp HTy
                      obtain ⟨yo, yh, yl⟩ := y
                      have HLd : Hid ((Instr.loadAt 65 (.pointer (some ⟨g2, o2 + k * 3, none⟩))).run Try.prog wr = .ok (.agg #[.int .i64 yo, .int .u64 (yh : Int), .int .u64 (yl : Int)]) wr) := HLd.out
                      simp only at HCp
                      clear hrg hy hyb hyw
                      go_wp2_with (first | ((with_reducible refine ld_arm HLd.out ?_ ?_); (· rfl)) | (go_at_call 37; refine HCp.out.mono ?_; rintro e w6 ⟨a6, c6, rfl, hq6⟩; have HQ6 := hid hq6; clear hq6))
                      refine ⟨⟨k + 1, a6, yn4 + 24, c6, rfl, rfl, by omega, by omega, ?_⟩, by simp [ivN]; omega⟩
                      rw [HTy.out, ← List.append_assoc]
                      exact HQ6.out
                    · obtain rfl : k = pn := by omega
                      have HQE : Hid (Bq W wr ya4 yn4 yc4 (B3 ++ osL s.O ++ tsL s.T ++ leL dn 2 ++ (R.take (j3 + 1)).flatMap (fun q => pcsL q.1))) := by
                        have := HQD.out
                        rw [show pl.take k = pl from List.take_of_length_le (by have := HQn.out; omega)] at this
                        unfold Hid
                        rw [HT.out, HOb.out]
                        simpa using this
                      go_wp2
                      exact ⟨⟨j3 + 1, ya4, yn4, yc4, rfl, rfl, by omega, by omega, HQE.out⟩, by simp [ivN]; omega⟩
                · obtain rfl : j3 = dn := by omega
                  have hfin : B3 ++ osL s.O ++ tsL s.T ++ leL j3 2 ++ (R.take j3).flatMap (fun q => pcsL q.1) = layL c s := by
                    rw [List.take_of_length_le (by have := HRl.out; omega), ← HB3e.out]
                    unfold layL psL
                    rw [HLp.out, ← HM.out.ep, List.flatMap_map]
                    simp
                  rw [hfin] at HQC
                  clear hfin
                  go_wp2
                  go_ret
                  exact ⟨ya3, yn3, yc3, rfl, HQC.out.own.mono HB0.out.size, below_call HB0.out HQC.out.bel⟩
end Go.Proofs.Ythfmmfphnimlnaa
