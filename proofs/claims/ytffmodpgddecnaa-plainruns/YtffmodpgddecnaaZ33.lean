import Derived.Test.YtffmodpgddecnaaZ32
namespace Go.Proofs.Ytffmodpgddecnaa.V.E
open Go.RowKit Go.Maps
open Go.Proofs.Ytffmodpgddecnaa.H (B64 Cp)
open Go.Proofs.Ytffmodpgddecnaa.M (wpAnyH_norm)
set_option linter.unusedVariables false
set_option linter.unusedSimpArgs false
section
variable {w w' U : World}
set_option maxRecDepth 100000 in
set_option maxHeartbeats 8000000 in
theorem runs_ok (c : Cf) (hc : c.may = true) {a : Option Addr} {n dcap : Nat} {f : Nat → Nat} (hw : D.Ws w a n dcap f) (hnd : n * 16 ≤ 140737488355328) (hn : n ≤ 4096) {al : Option Addr} {nl cap : Nat} {C : List R.Cl} {D' G' : Nat → R.Sl} (hC : Cz w al nl C D' G') (hnl : nl * 136 ≤ 140737488355328) (hcp : nl ≤ cap) :
    Calls Try.prog 3 #[c.v, .slice a n dcap, .slice al nl cap] w fun e w' => e = .returned (.bool true) ∧ Below w.heap.size w w' := by
  obtain ⟨W, hW⟩ : ∃ W, W = w.alloc (Obj.cells c.L.toArray 23) := ⟨_, rfl⟩
  have hB : Below w.heap.size w W := by rw [hW]; exact below1 _ _
  have hX : R.Bx W w.heap.size c.L := by rw [hW]; exact R.Bx.new w c.L 23
  have HX := hid hX
  have HB := hid hB
  have HW := hid hW
  have HWs := hid (hw.later hB)
  have HCz := hid (hC.later hB)
  have HLen := hid hC.len
  have hnl2 : nl ≤ 140737488355328 := Nat.le_trans (Nat.le_mul_of_pos_right _ (by omega)) hnl
  have HNl := hid hnl
  have HNd := hid hnd
  clear hX hB hW hw hC hnl hnd
  go_enter Try.func3, Try.ntmps3
  go_upto_region 1 with fail
  rw [← HW.out]
  go_upto_region 3 with (first | (go_at_call 5; refine (pexample_any (w := W)).mono ?_; rintro e w1 ⟨rfl, hb⟩; have HB1 := hid hb; clear hb))
  have HSx : Hid (∀ U, Below w1.heap.size w1 U → R.Bx U w.heap.size c.L) := fun U hU => R.Bx.later hU (R.Bx.later HB1.out HX.out)
  obtain ⟨a1, c1, p1, hrun, hws, -, hb⟩ := words_big (w := w1.drew) ((HWs.out.later HB1.out).later (Below.refl _ _).drew) HNd.out
  have HRUN1 := hid hrun
  have HWs1 := hid hws
  have HBp1 : Hid (Below w1.heap.size w1 p1) := below_call (Below.refl _ _).drew hb
  clear hrun hws hb
  have HCop1 := hid (copies_any (cap := cap) ((HCz.out.later HB1.out).later HBp1.out) HNl.out)
  refine wp_region_held_drew (S := (fun U : World => R.Bx U w.heap.size c.L)) (by kernel_rfl) (HSx.out _ (Below.refl _ _).drew) (fun hHeld => ?_)
  refine wpAnyH_norm (l2 := #[false, false, false, false, false, false, false, false, false, false, false, false]) (f2 := 12) (by kernel_rfl) (by kernel_rfl) ?_
  refine wpAnyH_take (i := 0) (oi := _) (v := c.v) rfl (by kernel_rfl) (by kernel_rfl) (by kernel_rfl) (fun _ _ _ h => h) (Or.inl ⟨by rfl, ?_⟩) (by assumption) ?_
  · (intro w hSw; (try dsimp only at hSw); exact ex_ld rfl rfl (ldF hSw))
  simp only [List.getElem_toArray, List.getElem_cons_succ, List.getElem_cons_zero, Act.put, List.setIfInBounds_toArray, List.set_cons_zero, List.set_cons_succ]
  refine wpAnyH_norm (l2 := #[true, false, false, false, false, false, false, false, false, false, false, false]) (f2 := 11) (by kernel_rfl) (by kernel_rfl) ?_
  refine wpAnyH_take (i := 2) (oi := _) (v := ?_) rfl (by kernel_rfl) (by kernel_rfl) (by kernel_rfl) (fun _ _ _ h => h) (Or.inl ⟨by rfl, ?_⟩) (by assumption) ?_
  rotate_left
  · (intro w hSw; (try dsimp only at hSw); go_simp; try with_reducible rfl)
  simp only [List.getElem_toArray, List.getElem_cons_succ, List.getElem_cons_zero, Act.put, List.setIfInBounds_toArray, List.set_cons_zero, List.set_cons_succ]
  refine wpAnyH_norm (l2 := #[true, false, true, false, false, false, false, false, false, false, false, false]) (f2 := 10) (by kernel_rfl) (by kernel_rfl) ?_
  refine wpAnyH_take (i := 4) (oi := _) (v := ?_) rfl (by kernel_rfl) (by kernel_rfl) (by kernel_rfl) (fun _ _ _ h => h) (Or.inl ⟨by rfl, ?_⟩) (by assumption) ?_
  rotate_left
  · (intro w hSw; (try dsimp only at hSw); go_simp; try with_reducible rfl)
  simp only [List.getElem_toArray, List.getElem_cons_succ, List.getElem_cons_zero, Act.put, List.setIfInBounds_toArray, List.set_cons_zero, List.set_cons_succ]
  refine wpAnyH_norm (l2 := #[true, false, true, false, true, false, false, false, false, false, false, false]) (f2 := 9) (by kernel_rfl) (by kernel_rfl) ?_
  refine wpAnyH_ready (rs := [1]) (by kernel_rfl) (by simp) ?_
  refine AllReadyH.cons rfl (fun K hK => ?_) AllReadyH.nil
  go_simp
  refine hK.out _ _ (HSx.out _ ((Below.refl _ _).drew.alloc (Nat.le_refl _) _)) (fun hHeld => ?_)
  clear hK K
  simp only [List.getElem_toArray, List.getElem_cons_succ, List.getElem_cons_zero, Act.put, List.setIfInBounds_toArray, List.set_cons_zero, List.set_cons_succ]
  refine wpAnyH_norm (l2 := #[true, true, true, false, true, false, false, false, false, false, false, false]) (f2 := 8) (by kernel_rfl) (by kernel_rfl) ?_
  refine wpAnyH_ready (rs := [3]) (by kernel_rfl) (by simp) ?_
  refine AllReadyH.cons rfl (fun K hK => ?_) AllReadyH.nil
  refine wp_app (.tmp 19) (.tmp 20) 24 rfl _ _ rfl rfl _ p1 HRUN1.out ?_
  refine hK.out _ _ (HSx.out _ HBp1.out) (fun hHeld => ?_)
  clear hK K
  simp only [List.getElem_toArray, List.getElem_cons_succ, List.getElem_cons_zero, Act.put, List.setIfInBounds_toArray, List.set_cons_zero, List.set_cons_succ]
  refine wpAnyH_norm (l2 := #[true, true, true, true, true, false, false, false, false, false, false, false]) (f2 := 7) (by kernel_rfl) (by kernel_rfl) ?_
  refine wpAnyH_ready (rs := [5]) (by kernel_rfl) (by simp) ?_
  refine AllReadyH.cons rfl (fun K hK => ?_) AllReadyH.nil
  go_simp
  go_wp2_with (first | (go_at_call 7; refine HCop1.out.mono ?_; rintro e p2 ⟨a2, c2, X1, rfl, hbag, hmp, hsz, hb⟩; have HBag1 := hid hbag; have HMp1 := hid hmp; have HSz1 := hid hsz; have HBp2 := hid hb; clear hbag hmp hsz hb))
  refine hK.out _ _ (HSx.out _ (below_call HBp1.out HBp2.out)) (fun hHeld => ?_)
  clear hK K
  simp only [List.getElem_toArray, List.getElem_cons_succ, List.getElem_cons_zero, Act.put, List.setIfInBounds_toArray, List.set_cons_zero, List.set_cons_succ]
  refine wpAnyH_norm (l2 := #[true, true, true, true, true, true, false, false, false, false, false, false]) (f2 := 6) (by kernel_rfl) (by kernel_rfl) ?_
  refine wpAnyH_ready (rs := [6]) (by kernel_rfl) (by simp) ?_
  refine AllReadyH.cons rfl (fun K hK => ?_) AllReadyH.nil
  go_simp
  have hcz2 := Bag.cz HBag1.out HSz1.out
  rw [HMp1.out] at hcz2
  have HRun1 := hid (run_ok c hc (HWs1.out.later HBp2.out) hn c2 hcz2 HNl.out)
  clear hcz2
  go_wp2_with (first | (go_at_call 6; refine HRun1.out.mono ?_; rintro e p3 ⟨ar, cr, X, rfl, hbag, hrep, hb⟩; have HBagR := hid hbag; have HRep := hid hrep; have HBp3 := hid hb; clear hbag hrep hb))
  refine hK.out _ _ (HSx.out _ (below_call (below_call HBp1.out HBp2.out) HBp3.out)) (fun hHeld => ?_)
  clear hK K
  simp only [List.getElem_toArray, List.getElem_cons_succ, List.getElem_cons_zero, Act.put, List.setIfInBounds_toArray, List.set_cons_zero, List.set_cons_succ]
  refine wpAnyH_norm (l2 := #[true, true, true, true, true, true, true, false, false, false, false, false]) (f2 := 5) (by kernel_rfl) (by kernel_rfl) ?_
  refine wpAnyH_take (i := 7) (oi := _) (v := ?_) rfl (by kernel_rfl) (by kernel_rfl) (by kernel_rfl) (fun _ _ _ h => h) (Or.inl ⟨by rfl, ?_⟩) (by assumption) ?_
  rotate_left
  · (intro w hSw; (try dsimp only at hSw); go_simp; try with_reducible rfl)
  simp only [List.getElem_toArray, List.getElem_cons_succ, List.getElem_cons_zero, Act.put, List.setIfInBounds_toArray, List.set_cons_zero, List.set_cons_succ]
  refine wpAnyH_norm (l2 := #[true, true, true, true, true, true, true, true, false, false, false, false]) (f2 := 4) (by kernel_rfl) (by kernel_rfl) ?_
  refine wpAnyH_take (i := 8) (oi := _) (v := ?_) rfl (by kernel_rfl) (by kernel_rfl) (by kernel_rfl) (fun _ _ _ h => h) (Or.inl ⟨by rfl, ?_⟩) (by assumption) ?_
  rotate_left
  · (intro w hSw; (try dsimp only at hSw); go_simp; try with_reducible rfl)
  simp only [List.getElem_toArray, List.getElem_cons_succ, List.getElem_cons_zero, Act.put, List.setIfInBounds_toArray, List.set_cons_zero, List.set_cons_succ]
  refine wpAnyH_norm (l2 := #[true, true, true, true, true, true, true, true, true, false, false, false]) (f2 := 3) (by kernel_rfl) (by kernel_rfl) ?_
  refine wpAnyH_take (i := 9) (oi := _) (v := ?_) rfl (by kernel_rfl) (by kernel_rfl) (by kernel_rfl) (fun _ _ _ h => h) (Or.inl ⟨by rfl, ?_⟩) (by assumption) ?_
  rotate_left
  · (intro w hSw; (try dsimp only at hSw); go_simp; try with_reducible rfl)
  simp only [List.getElem_toArray, List.getElem_cons_succ, List.getElem_cons_zero, Act.put, List.setIfInBounds_toArray, List.set_cons_zero, List.set_cons_succ]
  refine wpAnyH_norm (l2 := #[true, true, true, true, true, true, true, true, true, true, false, false]) (f2 := 2) (by kernel_rfl) (by kernel_rfl) ?_
  refine wpAnyH_take (i := 10) (oi := _) (v := ?_) rfl (by kernel_rfl) (by kernel_rfl) (by kernel_rfl) (fun _ _ _ h => h) (Or.inl ⟨by rfl, ?_⟩) (by assumption) ?_
  rotate_left
  · (intro w hSw; (try dsimp only at hSw); go_simp; try with_reducible rfl)
  simp only [List.getElem_toArray, List.getElem_cons_succ, List.getElem_cons_zero, Act.put, List.setIfInBounds_toArray, List.set_cons_zero, List.set_cons_succ]
  refine wpAnyH_norm (l2 := #[true, true, true, true, true, true, true, true, true, true, true, false]) (f2 := 1) (by kernel_rfl) (by kernel_rfl) ?_
  refine wpAnyH_take (i := 11) (oi := _) (v := ?_) rfl (by kernel_rfl) (by kernel_rfl) (by kernel_rfl) (fun _ _ _ h => h) (Or.inl ⟨by rfl, ?_⟩) (by assumption) ?_
  rotate_left
  · (intro w hSw; (try dsimp only at hSw); go_simp; try with_reducible rfl)
  simp only [List.getElem_toArray, List.getElem_cons_succ, List.getElem_cons_zero, Act.put, List.setIfInBounds_toArray, List.set_cons_zero, List.set_cons_succ]
  refine wpAnyH_norm (l2 := #[true, true, true, true, true, true, true, true, true, true, true, true]) (f2 := 0) (by kernel_rfl) (by kernel_rfl) ?_
  refine wpAnyH_done (by kernel_rfl) ?_ _
  go_upto_region 4 with fail
  have HBw3 : Hid (Below w1.heap.size w1 p3) := below_call (below_call HBp1.out HBp2.out) HBp3.out
  have HSy : Hid (∀ U, Below p3.heap.size p3 U → R.Bx U w.heap.size c.L) := fun U hU => HSx.out U (below_call HBw3.out hU)
  obtain ⟨a4, c4, p4, hrun, hws, -, hb⟩ := words_big (w := p3.drew) (((HWs.out.later HB1.out).later HBw3.out).later (Below.refl _ _).drew) HNd.out
  have HRUN2 := hid hrun
  have HWs2 := hid hws
  have HBp4 : Hid (Below p3.heap.size p3 p4) := below_call (Below.refl _ _).drew hb
  clear hrun hws hb
  have HNew2 := hid (pnew_ok c hc a4 n c4 f p4 HWs2.out hn)
  refine wp_region_held_drew (S := (fun U : World => R.Bx U w.heap.size c.L)) (by kernel_rfl) (HSy.out _ (Below.refl _ _).drew) (fun hHeld => ?_)
  refine wpAnyH_norm (l2 := #[false, false, false, false, false, false, false, false, false, false]) (f2 := 10) (by kernel_rfl) (by kernel_rfl) ?_
  refine wpAnyH_take (i := 0) (oi := _) (v := c.v) rfl (by kernel_rfl) (by kernel_rfl) (by kernel_rfl) (fun _ _ _ h => h) (Or.inl ⟨by rfl, ?_⟩) (by assumption) ?_
  · (intro w hSw; (try dsimp only at hSw); exact ex_ld rfl rfl (ldF hSw))
  simp only [List.getElem_toArray, List.getElem_cons_succ, List.getElem_cons_zero, Act.put, List.setIfInBounds_toArray, List.set_cons_zero, List.set_cons_succ]
  refine wpAnyH_norm (l2 := #[true, false, false, false, false, false, false, false, false, false]) (f2 := 9) (by kernel_rfl) (by kernel_rfl) ?_
  refine wpAnyH_take (i := 2) (oi := _) (v := ?_) rfl (by kernel_rfl) (by kernel_rfl) (by kernel_rfl) (fun _ _ _ h => h) (Or.inl ⟨by rfl, ?_⟩) (by assumption) ?_
  rotate_left
  · (intro w hSw; (try dsimp only at hSw); go_simp; try with_reducible rfl)
  simp only [List.getElem_toArray, List.getElem_cons_succ, List.getElem_cons_zero, Act.put, List.setIfInBounds_toArray, List.set_cons_zero, List.set_cons_succ]
  refine wpAnyH_norm (l2 := #[true, false, true, false, false, false, false, false, false, false]) (f2 := 8) (by kernel_rfl) (by kernel_rfl) ?_
  refine wpAnyH_ready (rs := [1]) (by kernel_rfl) (by simp) ?_
  refine AllReadyH.cons rfl (fun K hK => ?_) AllReadyH.nil
  go_simp
  refine hK.out _ _ (HSy.out _ ((Below.refl _ _).drew.alloc (Nat.le_refl _) _)) (fun hHeld => ?_)
  clear hK K
  simp only [List.getElem_toArray, List.getElem_cons_succ, List.getElem_cons_zero, Act.put, List.setIfInBounds_toArray, List.set_cons_zero, List.set_cons_succ]
  refine wpAnyH_norm (l2 := #[true, true, true, false, false, false, false, false, false, false]) (f2 := 7) (by kernel_rfl) (by kernel_rfl) ?_
  refine wpAnyH_ready (rs := [3]) (by kernel_rfl) (by simp) ?_
  refine AllReadyH.cons rfl (fun K hK => ?_) AllReadyH.nil
  refine wp_app (.tmp 29) (.tmp 30) 24 rfl _ _ rfl rfl _ p4 HRUN2.out ?_
  refine hK.out _ _ (HSy.out _ HBp4.out) (fun hHeld => ?_)
  clear hK K
  simp only [List.getElem_toArray, List.getElem_cons_succ, List.getElem_cons_zero, Act.put, List.setIfInBounds_toArray, List.set_cons_zero, List.set_cons_succ]
  refine wpAnyH_norm (l2 := #[true, true, true, true, false, false, false, false, false, false]) (f2 := 6) (by kernel_rfl) (by kernel_rfl) ?_
  refine wpAnyH_ready (rs := [4]) (by kernel_rfl) (by simp) ?_
  refine AllReadyH.cons rfl (fun K hK => ?_) AllReadyH.nil
  go_simp
  go_wp2_with (first | (go_at_call 8; refine HNew2.out.mono ?_; rintro e p5 ⟨h, N, rfl, hmd, hcf, hhn, hhf, hNn, hgs, hb⟩; have HMd := hid hmd; have HP : Hid (h.p = (c.pm n (fun j => D.cutN (f j) c.W)) ∧ h.cf = c) := ⟨hm_p hcf hhn hhf, hcf⟩; have HNn := hid hNn; have HGs := hid hgs; have HBp5 := hid hb; clear hmd hcf hhn hhf hNn hgs hb))
  refine hK.out _ _ (HSy.out _ (below_call HBp4.out HBp5.out)) (fun hHeld => ?_)
  clear hK K
  simp only [List.getElem_toArray, List.getElem_cons_succ, List.getElem_cons_zero, Act.put, List.setIfInBounds_toArray, List.set_cons_zero, List.set_cons_succ]
  refine wpAnyH_norm (l2 := #[true, true, true, true, true, false, false, false, false, false]) (f2 := 5) (by kernel_rfl) (by kernel_rfl) ?_
  refine wpAnyH_take (i := 5) (oi := _) (v := ?_) rfl (by kernel_rfl) (by kernel_rfl) (by kernel_rfl) (fun _ _ _ h => h) (Or.inl ⟨by rfl, ?_⟩) (by assumption) ?_
  rotate_left
  · (intro w hSw; (try dsimp only at hSw); go_simp; try with_reducible rfl)
  simp only [List.getElem_toArray, List.getElem_cons_succ, List.getElem_cons_zero, Act.put, List.setIfInBounds_toArray, List.set_cons_zero, List.set_cons_succ]
  refine wpAnyH_norm (l2 := #[true, true, true, true, true, true, false, false, false, false]) (f2 := 4) (by kernel_rfl) (by kernel_rfl) ?_
  refine wpAnyH_take (i := 6) (oi := _) (v := ?_) rfl (by kernel_rfl) (by kernel_rfl) (by kernel_rfl) (fun _ _ _ h => h) (Or.inl ⟨by rfl, ?_⟩) (by assumption) ?_
  rotate_left
  · (intro w hSw; (try dsimp only at hSw); go_simp; try with_reducible rfl)
  simp only [List.getElem_toArray, List.getElem_cons_succ, List.getElem_cons_zero, Act.put, List.setIfInBounds_toArray, List.set_cons_zero, List.set_cons_succ]
  refine wpAnyH_norm (l2 := #[true, true, true, true, true, true, true, false, false, false]) (f2 := 3) (by kernel_rfl) (by kernel_rfl) ?_
  refine wpAnyH_take (i := 7) (oi := _) (v := ?_) rfl (by kernel_rfl) (by kernel_rfl) (by kernel_rfl) (fun _ _ _ h => h) (Or.inl ⟨by rfl, ?_⟩) (by assumption) ?_
  rotate_left
  · (intro w hSw; (try dsimp only at hSw); go_simp; try with_reducible rfl)
  simp only [List.getElem_toArray, List.getElem_cons_succ, List.getElem_cons_zero, Act.put, List.setIfInBounds_toArray, List.set_cons_zero, List.set_cons_succ]
  refine wpAnyH_norm (l2 := #[true, true, true, true, true, true, true, true, false, false]) (f2 := 2) (by kernel_rfl) (by kernel_rfl) ?_
  refine wpAnyH_take (i := 8) (oi := _) (v := ?_) rfl (by kernel_rfl) (by kernel_rfl) (by kernel_rfl) (fun _ _ _ h => h) (Or.inl ⟨by rfl, ?_⟩) (by assumption) ?_
  rotate_left
  · (intro w hSw; (try dsimp only at hSw); go_simp; try with_reducible rfl)
  simp only [List.getElem_toArray, List.getElem_cons_succ, List.getElem_cons_zero, Act.put, List.setIfInBounds_toArray, List.set_cons_zero, List.set_cons_succ]
  refine wpAnyH_norm (l2 := #[true, true, true, true, true, true, true, true, true, false]) (f2 := 1) (by kernel_rfl) (by kernel_rfl) ?_
  refine wpAnyH_take (i := 9) (oi := _) (v := ?_) rfl (by kernel_rfl) (by kernel_rfl) (by kernel_rfl) (fun _ _ _ h => h) (Or.inl ⟨by rfl, ?_⟩) (by assumption) ?_
  rotate_left
  · (intro w hSw; (try dsimp only at hSw); go_simp; try with_reducible rfl)
  simp only [List.getElem_toArray, List.getElem_cons_succ, List.getElem_cons_zero, Act.put, List.setIfInBounds_toArray, List.set_cons_zero, List.set_cons_succ]
  refine wpAnyH_norm (l2 := #[true, true, true, true, true, true, true, true, true, true]) (f2 := 0) (by kernel_rfl) (by kernel_rfl) ?_
  refine wpAnyH_done (by kernel_rfl) ?_ _
  have HFin5 : Hid (Below w.heap.size w p3) := below_call HB.out (below_call HB1.out HBw3.out)
  have HCm : Hid (h.cf.may = true) := by unfold Hid; rw [HP.out.2]; exact hc
  have HSt : Hid (Pm1 p3 p5 h C 0 h.bo h.bl N) := by
    have hgs := HGs.out
    have hbs := HBp4.out.size
    refine ⟨⟨_, _, HMd.out⟩, by rw [HP.out.1]; exact fit_new hc hn (HWs.out.small), fun j hj => ?_, below_call HBp4.out HBp5.out⟩
    rcases hj with e | e | e | e
    · exact Nat.le_trans hbs (HNn.out j e)
    · omega
    · omega
    · omega
  have hpe := HP.out.1
  have hrl : X.map Prod.fst = rpl h.p pl0 C := by rw [hpe]; exact HRep.out
  have HRl := hid hrl
  have HXl : Hid (X.length = nl) := HBagR.out.len
  clear HMd HNn HGs hrl HRep hpe HSx HRUN1 HRUN2 HCop1 HBag1 HMp1 HSz1 HNew2 HSy
  go_upto_region 12 with fail
  go_loopw [11] (PrRel p3 h C nl) (fun v _ => nl - S.ivN v)
  case atStart => exact ⟨0, _, _, _, rfl, Nat.zero_le _, HSt.out⟩
  case round =>
    clear HSt
    obtain ⟨i, bo, bl, N1, rfl, hi, hpm⟩ := hrel
    have HPm := hid hpm
    have HIn := hid hi
    clear hpm hi
    by_cases hlt : i < nl
    · have hd : decide ((i : Int) < (nl : Int)) = true := decide_eq_true (by omega)
      obtain ⟨cl, hcl⟩ : ∃ cl, C[i]? = some cl := ⟨_, List.getElem?_eq_getElem (by have := HLen.out; omega)⟩
      obtain ⟨x, hx⟩ : ∃ x, X[i]? = some x := ⟨_, List.getElem?_eq_getElem (by have := HXl.out; omega)⟩
      obtain ⟨b, o, rfl, hrg⟩ := HCz.out.at_ (by omega)
      obtain ⟨gr, rfl, hrr⟩ := Bag.rep HBagR.out (by omega)
      have hrg := hrg i cl hcl
      have hrr := hrr i x hx
      have HIs := hid (HCz.out.is i cl hcl)
      obtain ⟨dd, hdd⟩ : ∃ dd, dd = D' i := ⟨_, rfl⟩
      obtain ⟨gg, hgg⟩ : ∃ gg, gg = G' i := ⟨_, rfl⟩
      rw [← hdd, ← hgg] at HIs hrg
      have hW3 : Below W.heap.size W p3 := below_call HB1.out HBw3.out
      have hgp : p3.heap.size ≤ h.g := HPm.out.lo h.g (.inr (.inr (.inr rfl)))
      have hbl0 : ∀ U, But (· = h.g) wr U → Below p3.heap.size p3 U := fun U hU => But.below HPm.out.bel hU (fun j e => by omega)
      have HS14 : Hid (∀ U, But (· = h.g) wr U → (U.rangeAt b (o + i * 13) (R.cC cl dd gg) ∧ U.rangeAt gr (i * 6) (rpL x.1 x.2.a x.2.n x.2.c))) := fun U hU => ⟨fun j v hv => cell_later (below_call hW3 (hbl0 U hU)) (hrg j v hv), fun j v hv => cell_later (hbl0 U hU) (hrr j v hv)⟩
      have HCp := hid (copied_own (w := wr.drew) ((HIs.out.1.later (below_call hW3 HPm.out.bel)).later (Below.refl _ _).drew) HIs.out.2.1 HIs.out.2.2)
      obtain ⟨r, hr⟩ : ∃ r, r = pDo h.p (stL h.p pl0 (C.take i)) cl := ⟨_, rfl⟩
      have hxr : x.1 = r.1 := by
        have h1 := rpl_at h.p pl0 hcl
        rw [← HRl.out, List.getElem?_map, hx] at h1
        simp only [Option.map_some, Option.some.injEq] at h1
        rw [h1, hr]
      have hxm := List.mem_of_getElem? hx
      have hxo : Own p3 p2.heap.size 5 x.2.a x.2.n x.2.c (S.u8s x.1.data) := HBagR.out.each x hxm
      have HXo : Hid (∀ U, But (· = h.g) wr U → Own U p2.heap.size 5 x.2.a x.2.n x.2.c (S.u8s x.1.data)) := fun U hU => Own.later (hbl0 U hU) hxo
      have HXn : Hid (x.2.n = r.1.data.length) := by unfold Hid; have := hxo.len; rw [S.u8s_length, hxr] at this; exact this.symm
      have HDl : Hid (∀ {m : Nat}, r.1.data.length = m → m ≤ 140737488355328) := fun e => by rw [← e, hr]; exact Nat.le_trans (pdo_data _ _ _) (by decide)
      have HXr := hid hxr
      have HRr := hid hr
      have HCl := hid hcl
      clear hcl hx hrg hrr hdd hgg hW3 hbl0 hxr hxm hxo hr hgp
      go_upto_region 14 with fail
      refine wp_region_held_drew (S := (fun U : World => (U.rangeAt b (o + i * 13) (R.cC cl dd gg) ∧ U.rangeAt gr (i * 6) (rpL x.1 x.2.a x.2.n x.2.c)))) (by kernel_rfl) (HS14.out _ (But.of (Below.refl _ _).drew)) (fun hHeld => ?_)
      refine wpAnyH_norm (l2 := #[false, false, false, false, false, false, false, false, false, false, false, false, false]) (f2 := 13) (by kernel_rfl) (by kernel_rfl) ?_
      refine wpAnyH_take (i := 0) (oi := _) (v := ?_) rfl (by kernel_rfl) (by kernel_rfl) (by kernel_rfl) (fun _ _ _ h => h) (Or.inl ⟨by rfl, ?_⟩) (by assumption) ?_
      rotate_left
      · (intro w hSw; (try dsimp only at hSw); go_simp; try with_reducible rfl)
      simp only [List.getElem_toArray, List.getElem_cons_succ, List.getElem_cons_zero, Act.put, List.setIfInBounds_toArray, List.set_cons_zero, List.set_cons_succ]
      refine wpAnyH_norm (l2 := #[true, false, false, false, false, false, false, false, false, false, false, false, false]) (f2 := 12) (by kernel_rfl) (by kernel_rfl) ?_
      refine wpAnyH_take (i := 1) (oi := _) (v := ?_) rfl (by kernel_rfl) (by kernel_rfl) (by kernel_rfl) (fun _ _ _ h => h) (Or.inl ⟨by rfl, ?_⟩) (by assumption) ?_
      rotate_left
      · (intro w hSw; (try dsimp only at hSw); go_simp; try with_reducible rfl)
      simp only [List.getElem_toArray, List.getElem_cons_succ, List.getElem_cons_zero, Act.put, List.setIfInBounds_toArray, List.set_cons_zero, List.set_cons_succ]
      refine wpAnyH_norm (l2 := #[true, true, false, false, false, false, false, false, false, false, false, false, false]) (f2 := 11) (by kernel_rfl) (by kernel_rfl) ?_
      refine wpAnyH_take (i := 2) (oi := _) (v := ?_) rfl (by kernel_rfl) (by kernel_rfl) (by kernel_rfl) (fun _ _ _ h => h) (Or.inl ⟨by rfl, ?_⟩) (by assumption) ?_
      rotate_left
      · (intro w hSw; (try dsimp only at hSw); go_simp; try with_reducible rfl)
      simp only [List.getElem_toArray, List.getElem_cons_succ, List.getElem_cons_zero, Act.put, List.setIfInBounds_toArray, List.set_cons_zero, List.set_cons_succ]
      refine wpAnyH_norm (l2 := #[true, true, true, false, false, false, false, false, false, false, false, false, false]) (f2 := 10) (by kernel_rfl) (by kernel_rfl) ?_
      refine wpAnyH_take (i := 3) (oi := _) (v := rpV x.1 x.2.a x.2.n x.2.c) rfl (by kernel_rfl) (by kernel_rfl) (by kernel_rfl) (fun _ _ _ h => h) (Or.inl ⟨by rfl, ?_⟩) (by assumption) ?_
      · (intro w hSw; (try dsimp only at hSw); exact ex_ld rfl rfl (ldR_at hSw.2))
      simp only [List.getElem_toArray, List.getElem_cons_succ, List.getElem_cons_zero, Act.put, List.setIfInBounds_toArray, List.set_cons_zero, List.set_cons_succ]
      refine wpAnyH_norm (l2 := #[true, true, true, true, false, false, false, false, false, false, false, false, false]) (f2 := 9) (by kernel_rfl) (by kernel_rfl) ?_
      refine wpAnyH_take (i := 4) (oi := _) (v := ?_) rfl (by kernel_rfl) (by kernel_rfl) (by kernel_rfl) (fun _ _ _ h => h) (Or.inl ⟨by rfl, ?_⟩) (by assumption) ?_
      rotate_left
      · (intro w hSw; (try dsimp only at hSw); go_simp; try with_reducible rfl)
      simp only [List.getElem_toArray, List.getElem_cons_succ, List.getElem_cons_zero, Act.put, List.setIfInBounds_toArray, List.set_cons_zero, List.set_cons_succ]
      refine wpAnyH_norm (l2 := #[true, true, true, true, true, false, false, false, false, false, false, false, false]) (f2 := 8) (by kernel_rfl) (by kernel_rfl) ?_
      refine wpAnyH_take (i := 5) (oi := _) (v := ?_) rfl (by kernel_rfl) (by kernel_rfl) (by kernel_rfl) (fun _ _ _ h => h) (Or.inl ⟨by rfl, ?_⟩) (by assumption) ?_
      rotate_left
      · (intro w hSw; (try dsimp only at hSw); go_simp; try with_reducible rfl)
      simp only [List.getElem_toArray, List.getElem_cons_succ, List.getElem_cons_zero, Act.put, List.setIfInBounds_toArray, List.set_cons_zero, List.set_cons_succ]
      refine wpAnyH_norm (l2 := #[true, true, true, true, true, true, false, false, false, false, false, false, false]) (f2 := 7) (by kernel_rfl) (by kernel_rfl) ?_
      refine wpAnyH_take (i := 6) (oi := _) (v := ?_) rfl (by kernel_rfl) (by kernel_rfl) (by kernel_rfl) (fun _ _ _ h => h) (Or.inl ⟨by rfl, ?_⟩) (by assumption) ?_
      rotate_left
      · (intro w hSw; (try dsimp only at hSw); go_simp; try with_reducible rfl)
      simp only [List.getElem_toArray, List.getElem_cons_succ, List.getElem_cons_zero, Act.put, List.setIfInBounds_toArray, List.set_cons_zero, List.set_cons_succ]
      refine wpAnyH_norm (l2 := #[true, true, true, true, true, true, true, false, false, false, false, false, false]) (f2 := 6) (by kernel_rfl) (by kernel_rfl) ?_
      refine wpAnyH_take (i := 7) (oi := _) (v := ?_) rfl (by kernel_rfl) (by kernel_rfl) (by kernel_rfl) (fun _ _ _ h => h) (Or.inl ⟨by rfl, ?_⟩) (by assumption) ?_
      rotate_left
      · (intro w hSw; (try dsimp only at hSw); go_simp; try with_reducible rfl)
      simp only [List.getElem_toArray, List.getElem_cons_succ, List.getElem_cons_zero, Act.put, List.setIfInBounds_toArray, List.set_cons_zero, List.set_cons_succ]
      refine wpAnyH_norm (l2 := #[true, true, true, true, true, true, true, true, false, false, false, false, false]) (f2 := 5) (by kernel_rfl) (by kernel_rfl) ?_
      refine wpAnyH_take (i := 8) (oi := _) (v := .agg (R.cC cl dd gg).toArray) rfl (by kernel_rfl) (by kernel_rfl) (by kernel_rfl) (fun _ _ _ h => h) (Or.inl ⟨by rfl, ?_⟩) (by assumption) ?_
      · (intro w hSw; (try dsimp only at hSw); exact ex_ld rfl rfl (ldC_at hSw.1))
      simp only [List.getElem_toArray, List.getElem_cons_succ, List.getElem_cons_zero, Act.put, List.setIfInBounds_toArray, List.set_cons_zero, List.set_cons_succ]
      refine wpAnyH_norm (l2 := #[true, true, true, true, true, true, true, true, true, false, false, false, false]) (f2 := 4) (by kernel_rfl) (by kernel_rfl) ?_
      refine wpAnyH_ready (rs := [9]) (by kernel_rfl) (by simp) ?_
      refine AllReadyH.cons rfl (fun K hK => ?_) AllReadyH.nil
      go_simp
      go_wp2_with (first | (go_at_call 11; refine HCp.out.mono ?_; rintro e u1 ⟨d1, g1, rfl, hm, hb⟩; have HCO := hid hm; have HU1 : Hid (Below wr.heap.size wr u1) := below_call (Below.refl _ _).drew hb; clear hm hb))
      refine hK.out _ _ (HS14.out _ (But.of HU1.out)) (fun hHeld => ?_)
      clear hK K
      simp only [List.getElem_toArray, List.getElem_cons_succ, List.getElem_cons_zero, Act.put, List.setIfInBounds_toArray, List.set_cons_zero, List.set_cons_succ]
      refine wpAnyH_norm (l2 := #[true, true, true, true, true, true, true, true, true, true, false, false, false]) (f2 := 3) (by kernel_rfl) (by kernel_rfl) ?_
      refine wpAnyH_ready (rs := [10]) (by kernel_rfl) (by simp) ?_
      refine AllReadyH.cons rfl (fun K hK => ?_) AllReadyH.nil
      have HDo := hid (do_at (HPm.out.later HU1.out) HCm.out HCO.out.is HRr.out)
      go_simp
      go_wp2_with (first | (go_at_call 10; refine HDo.out.mono ?_; rintro e u2 ⟨a2_, n2, c2_, bo2, bl2, N2, rfl, hO, hm, hg, hn_, ha⟩; have HO2 := hid hO; have HM2 := hid hm; have HG2 := hid hg; have HN2 := hid hn_; clear hO hm hg hn_ ha))
      refine hK.out _ _ (HS14.out _ ((But.of HU1.out).trans HG2.out)) (fun hHeld => ?_)
      clear hK K
      simp only [List.getElem_toArray, List.getElem_cons_succ, List.getElem_cons_zero, Act.put, List.setIfInBounds_toArray, List.set_cons_zero, List.set_cons_succ]
      refine wpAnyH_norm (l2 := #[true, true, true, true, true, true, true, true, true, true, true, false, false]) (f2 := 2) (by kernel_rfl) (by kernel_rfl) ?_
      refine wpAnyH_ready (rs := [11]) (by kernel_rfl) (by simp) ?_
      refine AllReadyH.cons rfl (fun K hK => ?_) AllReadyH.nil
      have hn0 : r.1.data.length = n2 := by have := HO2.out.len; rw [S.u8s_length] at this; exact this
      have hxn : x.2.n = n2 := (HXn.out).trans hn0
      have HSame : Hid (Calls Try.prog 9 #[rpV x.1 x.2.a x.2.n x.2.c, rpV r.1 a2_ n2 c2_] u2 fun e w' => e = .returned (.bool true) ∧ Below u2.heap.size u2 w') := by
            unfold Hid
            rw [HXr.out, hxn]
            exact sameReply_eq r.1 (by have := HXo.out u2 ((But.of HU1.out).trans HG2.out); rw [HXr.out] at this; exact Fl.own this) (Fl.own HO2.out) hn0 (HDl.out hn0)
      clear hxn hn0
      go_simp
      go_wp2_with (first | (go_at_call 9; refine HSame.out.mono ?_; rintro e u3 ⟨rfl, hb⟩; have HU3 := hid hb; clear hb))
      refine hK.out _ _ (HS14.out _ (((But.of HU1.out).trans HG2.out).call HU3.out)) (fun hHeld => ?_)
      clear hK K
      simp only [List.getElem_toArray, List.getElem_cons_succ, List.getElem_cons_zero, Act.put, List.setIfInBounds_toArray, List.set_cons_zero, List.set_cons_succ]
      refine wpAnyH_norm (l2 := #[true, true, true, true, true, true, true, true, true, true, true, true, false]) (f2 := 1) (by kernel_rfl) (by kernel_rfl) ?_
      refine wpAnyH_take (i := 12) (oi := _) (v := ?_) rfl (by kernel_rfl) (by kernel_rfl) (by kernel_rfl) (fun _ _ _ h => h) (Or.inl ⟨by rfl, ?_⟩) (by assumption) ?_
      rotate_left
      · (intro w hSw; (try dsimp only at hSw); go_simp; try with_reducible rfl)
      simp only [List.getElem_toArray, List.getElem_cons_succ, List.getElem_cons_zero, Act.put, List.setIfInBounds_toArray, List.set_cons_zero, List.set_cons_succ]
      refine wpAnyH_norm (l2 := #[true, true, true, true, true, true, true, true, true, true, true, true, true]) (f2 := 0) (by kernel_rfl) (by kernel_rfl) ?_
      refine wpAnyH_done (by kernel_rfl) ?_ _
      have hstep := (HPm.out.later HU1.out).step HCl.out HIs.out.1 HRr.out HM2.out HG2.out HN2.out
      have hfin : PrRel p3 h C nl (.int .i64 ((i + 1 : Nat) : Int)) u3 := ⟨i + 1, _, _, _, rfl, hlt, hstep.later HU3.out⟩
      have HF := hid hfin
      clear hfin hstep
      go_wp2
      exact ⟨HF.out, by simp [S.ivN]; omega⟩
    · obtain rfl : i = nl := by have := HIn.out; omega
      have hd : decide ((i : Int) < (i : Int)) = false := by simp
      obtain ⟨k, hk⟩ : ∃ k, k = i / 2 := ⟨_, rfl⟩
      have hq : (i : Int).tdiv 2 = (k : Int) := by rw [Int.tdiv_eq_ediv_of_nonneg (by omega), hk]; omega
      have hkl : k ≤ i := by omega
      have HKl := hid hkl
      have HBr := hid HPm.out.bel
      have HSz : Hid (∀ U, Below wr.heap.size wr U → R.Bx U w.heap.size c.L) := fun U hU => R.Bx.later hU (R.Bx.later HBr.out (R.Bx.later HBw3.out (R.Bx.later HB1.out HX.out)))
      have hWr : Below W.heap.size W wr := below_call (below_call HB1.out HBw3.out) HBr.out
      obtain ⟨a7, c7, p7, hrun, hws, -, hb⟩ := words_big (w := wr.drew) ((HWs.out.later hWr).later (Below.refl _ _).drew) HNd.out
      have HRUN7 := hid hrun
      have HWs7 := hid hws
      have HBp7 : Hid (Below wr.heap.size wr p7) := below_call (Below.refl _ _).drew hb
      have hk136 : k * 136 ≤ 140737488355328 := Nat.le_trans (Nat.mul_le_mul_right 136 hkl) HNl.out
      have HK136 := hid hk136
      have HCop7 := hid (copies_any (cap := cap) (((cz_take HCz.out hkl).later hWr).later HBp7.out) hk136)
      have HSl : Hid (∀ U, (Instr.sliceAt 25 (.slice al i cap) none (some (.int .i64 (k : Int))) none).run Try.prog U = .ok (.slice al k cap) U) := fun U => sliceCl_h U al i cap k (by omega)
      have HW7 := hid hWr
      clear hrun hws hb hk hWr hk136
      go_upto_region 17 with fail
      clear hq
      refine wp_region_held_drew (S := (fun U : World => R.Bx U w.heap.size c.L)) (by kernel_rfl) (HSz.out _ (Below.refl _ _).drew) (fun hHeld => ?_)
      refine wpAnyH_norm (l2 := #[false, false, false, false, false, false, false, false, false, false, false, false, false, false]) (f2 := 14) (by kernel_rfl) (by kernel_rfl) ?_
      refine wpAnyH_take (i := 0) (oi := _) (v := c.v) rfl (by kernel_rfl) (by kernel_rfl) (by kernel_rfl) (fun _ _ _ h => h) (Or.inl ⟨by rfl, ?_⟩) (by assumption) ?_
      · (intro w hSw; (try dsimp only at hSw); exact ex_ld rfl rfl (ldF hSw))
      simp only [List.getElem_toArray, List.getElem_cons_succ, List.getElem_cons_zero, Act.put, List.setIfInBounds_toArray, List.set_cons_zero, List.set_cons_succ]
      refine wpAnyH_norm (l2 := #[true, false, false, false, false, false, false, false, false, false, false, false, false, false]) (f2 := 13) (by kernel_rfl) (by kernel_rfl) ?_
      refine wpAnyH_take (i := 2) (oi := _) (v := ?_) rfl (by kernel_rfl) (by kernel_rfl) (by kernel_rfl) (fun _ _ _ h => h) (Or.inl ⟨by rfl, ?_⟩) (by assumption) ?_
      rotate_left
      · (intro w hSw; (try dsimp only at hSw); go_simp; try with_reducible rfl)
      simp only [List.getElem_toArray, List.getElem_cons_succ, List.getElem_cons_zero, Act.put, List.setIfInBounds_toArray, List.set_cons_zero, List.set_cons_succ]
      refine wpAnyH_norm (l2 := #[true, false, true, false, false, false, false, false, false, false, false, false, false, false]) (f2 := 12) (by kernel_rfl) (by kernel_rfl) ?_
      refine wpAnyH_take (i := 4) (oi := _) (v := ?_) rfl (by kernel_rfl) (by kernel_rfl) (by kernel_rfl) (fun _ _ _ h => h) (Or.inl ⟨by rfl, ?_⟩) (by assumption) ?_
      rotate_left
      · (intro w hSw; (try dsimp only at hSw); go_simp; try with_reducible rfl)
      simp only [List.getElem_toArray, List.getElem_cons_succ, List.getElem_cons_zero, Act.put, List.setIfInBounds_toArray, List.set_cons_zero, List.set_cons_succ]
      refine wpAnyH_norm (l2 := #[true, false, true, false, true, false, false, false, false, false, false, false, false, false]) (f2 := 11) (by kernel_rfl) (by kernel_rfl) ?_
      refine wpAnyH_take (i := 5) (oi := _) (v := ?_) rfl (by kernel_rfl) (by kernel_rfl) (by kernel_rfl) (fun _ _ _ h => h) (Or.inl ⟨by rfl, ?_⟩) (by assumption) ?_
      rotate_left
      · (intro w hSw; (try dsimp only at hSw); go_simp; try with_reducible rfl)
      simp only [List.getElem_toArray, List.getElem_cons_succ, List.getElem_cons_zero, Act.put, List.setIfInBounds_toArray, List.set_cons_zero, List.set_cons_succ]
      refine wpAnyH_norm (l2 := #[true, false, true, false, true, true, false, false, false, false, false, false, false, false]) (f2 := 10) (by kernel_rfl) (by kernel_rfl) ?_
      refine wpAnyH_take (i := 6) (oi := _) (v := .slice al k cap) rfl (by kernel_rfl) (by kernel_rfl) (by kernel_rfl) (fun _ _ _ h => h) (Or.inl ⟨by rfl, ?_⟩) (by assumption) ?_
      · (intro w hSw; (try dsimp only at hSw); exact ex_slice (vlo := none) (vhi := some (.int .i64 (k : Int))) (vmx := none) rfl rfl rfl rfl rfl (HSl.out _))
      simp only [List.getElem_toArray, List.getElem_cons_succ, List.getElem_cons_zero, Act.put, List.setIfInBounds_toArray, List.set_cons_zero, List.set_cons_succ]
      refine wpAnyH_norm (l2 := #[true, false, true, false, true, true, true, false, false, false, false, false, false, false]) (f2 := 9) (by kernel_rfl) (by kernel_rfl) ?_
      refine wpAnyH_ready (rs := [1]) (by kernel_rfl) (by simp) ?_
      refine AllReadyH.cons rfl (fun K hK => ?_) AllReadyH.nil
      go_simp
      refine hK.out _ _ (HSz.out _ ((Below.refl _ _).drew.alloc (Nat.le_refl _) _)) (fun hHeld => ?_)
      clear hK K
      simp only [List.getElem_toArray, List.getElem_cons_succ, List.getElem_cons_zero, Act.put, List.setIfInBounds_toArray, List.set_cons_zero, List.set_cons_succ]
      refine wpAnyH_norm (l2 := #[true, true, true, false, true, true, true, false, false, false, false, false, false, false]) (f2 := 8) (by kernel_rfl) (by kernel_rfl) ?_
      refine wpAnyH_ready (rs := [3]) (by kernel_rfl) (by simp) ?_
      refine AllReadyH.cons rfl (fun K hK => ?_) AllReadyH.nil
      refine wp_app (.tmp 84) (.tmp 85) 24 rfl _ _ rfl rfl _ p7 HRUN7.out ?_
      refine hK.out _ _ (HSz.out _ HBp7.out) (fun hHeld => ?_)
      clear hK K
      simp only [List.getElem_toArray, List.getElem_cons_succ, List.getElem_cons_zero, Act.put, List.setIfInBounds_toArray, List.set_cons_zero, List.set_cons_succ]
      refine wpAnyH_norm (l2 := #[true, true, true, true, true, true, true, false, false, false, false, false, false, false]) (f2 := 7) (by kernel_rfl) (by kernel_rfl) ?_
      refine wpAnyH_ready (rs := [7]) (by kernel_rfl) (by simp) ?_
      refine AllReadyH.cons rfl (fun K hK => ?_) AllReadyH.nil
      go_simp
      go_wp2_with (first | (go_at_call 7; refine HCop7.out.mono ?_; rintro e p8 ⟨a8, c8, X8, rfl, hbag, hmp, hsz, hb⟩; have HBag8 := hid hbag; have HMp8 := hid hmp; have HSz8 := hid hsz; have HBp8 := hid hb; clear hbag hmp hsz hb))
      refine hK.out _ _ (HSz.out _ (below_call HBp7.out HBp8.out)) (fun hHeld => ?_)
      clear hK K
      simp only [List.getElem_toArray, List.getElem_cons_succ, List.getElem_cons_zero, Act.put, List.setIfInBounds_toArray, List.set_cons_zero, List.set_cons_succ]
      refine wpAnyH_norm (l2 := #[true, true, true, true, true, true, true, true, false, false, false, false, false, false]) (f2 := 6) (by kernel_rfl) (by kernel_rfl) ?_
      refine wpAnyH_ready (rs := [8]) (by kernel_rfl) (by simp) ?_
      refine AllReadyH.cons rfl (fun K hK => ?_) AllReadyH.nil
      go_simp
      have hcz2 := Bag.cz HBag8.out HSz8.out
      rw [HMp8.out] at hcz2
      have HRun8 := hid (run_ok c hc (HWs7.out.later HBp8.out) hn c8 hcz2 HK136.out)
      clear hcz2
      go_wp2_with (first | (go_at_call 6; refine HRun8.out.mono ?_; rintro e p9 ⟨a9, c9, X2, rfl, hbag, hrep, hb⟩; have HBag9 := hid hbag; have HRep2 := hid hrep; have HBp9 := hid hb; clear hbag hrep hb))
      refine hK.out _ _ (HSz.out _ (below_call (below_call HBp7.out HBp8.out) HBp9.out)) (fun hHeld => ?_)
      clear hK K
      simp only [List.getElem_toArray, List.getElem_cons_succ, List.getElem_cons_zero, Act.put, List.setIfInBounds_toArray, List.set_cons_zero, List.set_cons_succ]
      refine wpAnyH_norm (l2 := #[true, true, true, true, true, true, true, true, true, false, false, false, false, false]) (f2 := 5) (by kernel_rfl) (by kernel_rfl) ?_
      refine wpAnyH_take (i := 9) (oi := _) (v := ?_) rfl (by kernel_rfl) (by kernel_rfl) (by kernel_rfl) (fun _ _ _ h => h) (Or.inl ⟨by rfl, ?_⟩) (by assumption) ?_
      rotate_left
      · (intro w hSw; (try dsimp only at hSw); go_simp; try with_reducible rfl)
      simp only [List.getElem_toArray, List.getElem_cons_succ, List.getElem_cons_zero, Act.put, List.setIfInBounds_toArray, List.set_cons_zero, List.set_cons_succ]
      refine wpAnyH_norm (l2 := #[true, true, true, true, true, true, true, true, true, true, false, false, false, false]) (f2 := 4) (by kernel_rfl) (by kernel_rfl) ?_
      refine wpAnyH_take (i := 10) (oi := _) (v := ?_) rfl (by kernel_rfl) (by kernel_rfl) (by kernel_rfl) (fun _ _ _ h => h) (Or.inl ⟨by rfl, ?_⟩) (by assumption) ?_
      rotate_left
      · (intro w hSw; (try dsimp only at hSw); go_simp; try with_reducible rfl)
      simp only [List.getElem_toArray, List.getElem_cons_succ, List.getElem_cons_zero, Act.put, List.setIfInBounds_toArray, List.set_cons_zero, List.set_cons_succ]
      refine wpAnyH_norm (l2 := #[true, true, true, true, true, true, true, true, true, true, true, false, false, false]) (f2 := 3) (by kernel_rfl) (by kernel_rfl) ?_
      refine wpAnyH_take (i := 11) (oi := _) (v := ?_) rfl (by kernel_rfl) (by kernel_rfl) (by kernel_rfl) (fun _ _ _ h => h) (Or.inl ⟨by rfl, ?_⟩) (by assumption) ?_
      rotate_left
      · (intro w hSw; (try dsimp only at hSw); go_simp; try with_reducible rfl)
      simp only [List.getElem_toArray, List.getElem_cons_succ, List.getElem_cons_zero, Act.put, List.setIfInBounds_toArray, List.set_cons_zero, List.set_cons_succ]
      refine wpAnyH_norm (l2 := #[true, true, true, true, true, true, true, true, true, true, true, true, false, false]) (f2 := 2) (by kernel_rfl) (by kernel_rfl) ?_
      refine wpAnyH_take (i := 12) (oi := _) (v := ?_) rfl (by kernel_rfl) (by kernel_rfl) (by kernel_rfl) (fun _ _ _ h => h) (Or.inl ⟨by rfl, ?_⟩) (by assumption) ?_
      rotate_left
      · (intro w hSw; (try dsimp only at hSw); go_simp; try with_reducible rfl)
      simp only [List.getElem_toArray, List.getElem_cons_succ, List.getElem_cons_zero, Act.put, List.setIfInBounds_toArray, List.set_cons_zero, List.set_cons_succ]
      refine wpAnyH_norm (l2 := #[true, true, true, true, true, true, true, true, true, true, true, true, true, false]) (f2 := 1) (by kernel_rfl) (by kernel_rfl) ?_
      refine wpAnyH_take (i := 13) (oi := _) (v := ?_) rfl (by kernel_rfl) (by kernel_rfl) (by kernel_rfl) (fun _ _ _ h => h) (Or.inl ⟨by rfl, ?_⟩) (by assumption) ?_
      rotate_left
      · (intro w hSw; (try dsimp only at hSw); go_simp; try with_reducible rfl)
      simp only [List.getElem_toArray, List.getElem_cons_succ, List.getElem_cons_zero, Act.put, List.setIfInBounds_toArray, List.set_cons_zero, List.set_cons_succ]
      refine wpAnyH_norm (l2 := #[true, true, true, true, true, true, true, true, true, true, true, true, true, true]) (f2 := 0) (by kernel_rfl) (by kernel_rfl) ?_
      refine wpAnyH_done (by kernel_rfl) ?_ _
      have hx2 : X2.map Prod.fst = (rpl h.p pl0 C).take k := by rw [HRep2.out, HP.out.1, rpl_take]
      have HX2 := hid hx2
      have HX2l : Hid (X2.length = k) := HBag9.out.len
      have HB39 : Hid (Below p3.heap.size p3 p9) := below_call HBr.out (below_call HBp7.out (below_call HBp8.out HBp9.out))
      clear hx2 HSz HRUN7 HCop7 HSl
      go_upto_region 21 with fail
      go_loopw [14] (PlRel2 p9 k) (fun v _ => k - S.ivN v)
      case atStart => exact ⟨0, rfl, Nat.zero_le _, Below.refl _ _⟩
      case round =>
        rename World => U
        obtain ⟨l, rfl, hl, hbU⟩ := hrel
        have HIl := hid hl
        have HBU := hid hbU
        clear hl hbU
        by_cases hlt2 : l < k
        · have hd2 : decide ((l : Int) < (k : Int)) = true := decide_eq_true (by omega)
          have hli : l < i := by have := HKl.out; omega
          obtain ⟨x, hx⟩ : ∃ x, X[l]? = some x := ⟨_, List.getElem?_eq_getElem (by have := HXl.out; omega)⟩
          obtain ⟨x2, hx2⟩ : ∃ x, X2[l]? = some x := ⟨_, List.getElem?_eq_getElem (by have := HX2l.out; omega)⟩
          obtain ⟨gr, rfl, hrr⟩ := Bag.rep HBagR.out (by omega)
          obtain ⟨gk, rfl, hrk⟩ := Bag.rep HBag9.out (by omega)
          have hrr := hrr l x hx
          have hrk := hrk l x2 hx2
          have hxx : x2.1 = x.1 := by
            have h1 : (X2.map Prod.fst)[l]? = some x2.1 := by rw [List.getElem?_map, hx2]; rfl
            rw [HX2.out, List.getElem?_take_of_lt hlt2, ← HRl.out, List.getElem?_map, hx] at h1
            simpa using h1.symm
          have hxm := List.mem_of_getElem? hx
          have hxm2 := List.mem_of_getElem? hx2
          have hxo : Own p3 p2.heap.size 5 x.2.a x.2.n x.2.c (S.u8s x.1.data) := HBagR.out.each x hxm
          have hxo2 : Own p9 p8.heap.size 5 x2.2.a x2.2.n x2.2.c (S.u8s x2.1.data) := HBag9.out.each x2 hxm2
          have hn1 := hxo.len
          have hn2 := hxo2.len
          rw [S.u8s_length] at hn1 hn2
          rw [hxx] at hn2 hxo2
          have hnn : x2.2.n = x.2.n := by omega
          have hdl : x.1.data.length ≤ 1024 := by
            have h1 : (X.map Prod.fst)[l]? = some x.1 := by rw [List.getElem?_map, hx]; rfl
            obtain ⟨cl, hcl⟩ : ∃ cl, C[l]? = some cl := ⟨_, List.getElem?_eq_getElem (by have := HLen.out; omega)⟩
            rw [HRl.out, rpl_at h.p pl0 hcl] at h1
            rw [← Option.some.inj h1]
            exact pdo_data _ _ _
          have HS23 : Hid (∀ V, Below U.heap.size U V → (V.rangeAt gr (l * 6) (rpL x.1 x.2.a x.2.n x.2.c) ∧ V.rangeAt gk (l * 6) (rpL x2.1 x2.2.a x2.2.n x2.2.c))) := fun V hV => ⟨fun j v hv => cell_later (below_call HB39.out (below_call HBU.out hV)) (hrr j v hv), fun j v hv => cell_later (below_call HBU.out hV) (hrk j v hv)⟩
          have HSame : Hid (Calls Try.prog 9 #[rpV x2.1 x2.2.a x2.2.n x2.2.c, rpV x.1 x.2.a x.2.n x.2.c] U.drew fun e w' => e = .returned (.bool true) ∧ Below U.drew.heap.size U.drew w') := by
            unfold Hid
            rw [hxx, hnn]
            exact sameReply_eq x.1 (Fl.own (Own.later (Below.refl _ _).drew (Own.later HBU.out hxo2))) (Fl.own (Own.later (Below.refl _ _).drew (Own.later (below_call HB39.out HBU.out) hxo))) hn1 (by omega)
          clear hx hx2 hrr hrk hxx hxm hxm2 hxo hxo2 hn1 hn2 hnn hdl
          go_upto_region 23 with fail
          refine wp_region_held_drew (S := (fun U : World => (U.rangeAt gr (l * 6) (rpL x.1 x.2.a x.2.n x.2.c) ∧ U.rangeAt gk (l * 6) (rpL x2.1 x2.2.a x2.2.n x2.2.c)))) (by kernel_rfl) (HS23.out _ (Below.refl _ _).drew) (fun hHeld => ?_)
          refine wpAnyH_norm (l2 := #[false, false, false, false, false, false, false, false, false, false]) (f2 := 10) (by kernel_rfl) (by kernel_rfl) ?_
          refine wpAnyH_take (i := 0) (oi := _) (v := ?_) rfl (by kernel_rfl) (by kernel_rfl) (by kernel_rfl) (fun _ _ _ h => h) (Or.inl ⟨by rfl, ?_⟩) (by assumption) ?_
          rotate_left
          · (intro w hSw; (try dsimp only at hSw); go_simp; try with_reducible rfl)
          simp only [List.getElem_toArray, List.getElem_cons_succ, List.getElem_cons_zero, Act.put, List.setIfInBounds_toArray, List.set_cons_zero, List.set_cons_succ]
          refine wpAnyH_norm (l2 := #[true, false, false, false, false, false, false, false, false, false]) (f2 := 9) (by kernel_rfl) (by kernel_rfl) ?_
          refine wpAnyH_take (i := 1) (oi := _) (v := ?_) rfl (by kernel_rfl) (by kernel_rfl) (by kernel_rfl) (fun _ _ _ h => h) (Or.inl ⟨by rfl, ?_⟩) (by assumption) ?_
          rotate_left
          · (intro w hSw; (try dsimp only at hSw); go_simp; try with_reducible rfl)
          simp only [List.getElem_toArray, List.getElem_cons_succ, List.getElem_cons_zero, Act.put, List.setIfInBounds_toArray, List.set_cons_zero, List.set_cons_succ]
          refine wpAnyH_norm (l2 := #[true, true, false, false, false, false, false, false, false, false]) (f2 := 8) (by kernel_rfl) (by kernel_rfl) ?_
          refine wpAnyH_take (i := 2) (oi := _) (v := ?_) rfl (by kernel_rfl) (by kernel_rfl) (by kernel_rfl) (fun _ _ _ h => h) (Or.inl ⟨by rfl, ?_⟩) (by assumption) ?_
          rotate_left
          · (intro w hSw; (try dsimp only at hSw); go_simp; try with_reducible rfl)
          simp only [List.getElem_toArray, List.getElem_cons_succ, List.getElem_cons_zero, Act.put, List.setIfInBounds_toArray, List.set_cons_zero, List.set_cons_succ]
          refine wpAnyH_norm (l2 := #[true, true, true, false, false, false, false, false, false, false]) (f2 := 7) (by kernel_rfl) (by kernel_rfl) ?_
          refine wpAnyH_take (i := 3) (oi := _) (v := rpV x2.1 x2.2.a x2.2.n x2.2.c) rfl (by kernel_rfl) (by kernel_rfl) (by kernel_rfl) (fun _ _ _ h => h) (Or.inl ⟨by rfl, ?_⟩) (by assumption) ?_
          · (intro w hSw; (try dsimp only at hSw); exact ex_ld rfl rfl (ldR_at hSw.2))
          simp only [List.getElem_toArray, List.getElem_cons_succ, List.getElem_cons_zero, Act.put, List.setIfInBounds_toArray, List.set_cons_zero, List.set_cons_succ]
          refine wpAnyH_norm (l2 := #[true, true, true, true, false, false, false, false, false, false]) (f2 := 6) (by kernel_rfl) (by kernel_rfl) ?_
          refine wpAnyH_take (i := 4) (oi := _) (v := ?_) rfl (by kernel_rfl) (by kernel_rfl) (by kernel_rfl) (fun _ _ _ h => h) (Or.inl ⟨by rfl, ?_⟩) (by assumption) ?_
          rotate_left
          · (intro w hSw; (try dsimp only at hSw); go_simp; try with_reducible rfl)
          simp only [List.getElem_toArray, List.getElem_cons_succ, List.getElem_cons_zero, Act.put, List.setIfInBounds_toArray, List.set_cons_zero, List.set_cons_succ]
          refine wpAnyH_norm (l2 := #[true, true, true, true, true, false, false, false, false, false]) (f2 := 5) (by kernel_rfl) (by kernel_rfl) ?_
          refine wpAnyH_take (i := 5) (oi := _) (v := ?_) rfl (by kernel_rfl) (by kernel_rfl) (by kernel_rfl) (fun _ _ _ h => h) (Or.inl ⟨by rfl, ?_⟩) (by assumption) ?_
          rotate_left
          · (intro w hSw; (try dsimp only at hSw); go_simp; try with_reducible rfl)
          simp only [List.getElem_toArray, List.getElem_cons_succ, List.getElem_cons_zero, Act.put, List.setIfInBounds_toArray, List.set_cons_zero, List.set_cons_succ]
          refine wpAnyH_norm (l2 := #[true, true, true, true, true, true, false, false, false, false]) (f2 := 4) (by kernel_rfl) (by kernel_rfl) ?_
          refine wpAnyH_take (i := 6) (oi := _) (v := ?_) rfl (by kernel_rfl) (by kernel_rfl) (by kernel_rfl) (fun _ _ _ h => h) (Or.inl ⟨by rfl, ?_⟩) (by assumption) ?_
          rotate_left
          · (intro w hSw; (try dsimp only at hSw); go_simp; try with_reducible rfl)
          simp only [List.getElem_toArray, List.getElem_cons_succ, List.getElem_cons_zero, Act.put, List.setIfInBounds_toArray, List.set_cons_zero, List.set_cons_succ]
          refine wpAnyH_norm (l2 := #[true, true, true, true, true, true, true, false, false, false]) (f2 := 3) (by kernel_rfl) (by kernel_rfl) ?_
          refine wpAnyH_take (i := 7) (oi := _) (v := rpV x.1 x.2.a x.2.n x.2.c) rfl (by kernel_rfl) (by kernel_rfl) (by kernel_rfl) (fun _ _ _ h => h) (Or.inl ⟨by rfl, ?_⟩) (by assumption) ?_
          · (intro w hSw; (try dsimp only at hSw); exact ex_ld rfl rfl (ldR_at hSw.1))
          simp only [List.getElem_toArray, List.getElem_cons_succ, List.getElem_cons_zero, Act.put, List.setIfInBounds_toArray, List.set_cons_zero, List.set_cons_succ]
          refine wpAnyH_norm (l2 := #[true, true, true, true, true, true, true, true, false, false]) (f2 := 2) (by kernel_rfl) (by kernel_rfl) ?_
          refine wpAnyH_ready (rs := [8]) (by kernel_rfl) (by simp) ?_
          refine AllReadyH.cons rfl (fun K hK => ?_) AllReadyH.nil
          go_simp
          go_wp2_with (first | (go_at_call 9; refine HSame.out.mono ?_; rintro e u3 ⟨rfl, hb⟩; have HU3 := hid hb; clear hb))
          refine hK.out _ _ (HS23.out _ (below_call (Below.refl _ _).drew HU3.out)) (fun hHeld => ?_)
          clear hK K
          simp only [List.getElem_toArray, List.getElem_cons_succ, List.getElem_cons_zero, Act.put, List.setIfInBounds_toArray, List.set_cons_zero, List.set_cons_succ]
          refine wpAnyH_norm (l2 := #[true, true, true, true, true, true, true, true, true, false]) (f2 := 1) (by kernel_rfl) (by kernel_rfl) ?_
          refine wpAnyH_take (i := 9) (oi := _) (v := ?_) rfl (by kernel_rfl) (by kernel_rfl) (by kernel_rfl) (fun _ _ _ h => h) (Or.inl ⟨by rfl, ?_⟩) (by assumption) ?_
          rotate_left
          · (intro w hSw; (try dsimp only at hSw); go_simp; try with_reducible rfl)
          simp only [List.getElem_toArray, List.getElem_cons_succ, List.getElem_cons_zero, Act.put, List.setIfInBounds_toArray, List.set_cons_zero, List.set_cons_succ]
          refine wpAnyH_norm (l2 := #[true, true, true, true, true, true, true, true, true, true]) (f2 := 0) (by kernel_rfl) (by kernel_rfl) ?_
          refine wpAnyH_done (by kernel_rfl) ?_ _
          have hfin : PlRel2 p9 k (.int .i64 ((l + 1 : Nat) : Int)) u3 := ⟨l + 1, rfl, hlt2, below_call HBU.out (below_call (Below.refl _ _).drew HU3.out)⟩
          have HF := hid hfin
          clear hfin
          go_wp2
          exact ⟨HF.out, by simp [S.ivN]; omega⟩
        · obtain rfl : l = k := by have := HIl.out; omega
          have hd2 : decide ((l : Int) < (l : Int)) = false := by simp
          have HFin : Hid (Below w.heap.size w U) := below_call HFin5.out (below_call HB39.out HBU.out)
          go_wp2
          go_ret
          exact ⟨ret_bool (by simp), HFin.out⟩
end
end Go.Proofs.Ytffmodpgddecnaa.V.E
