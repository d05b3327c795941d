import Derived.Test.YtffmodpgddecnaaZ31
import Derived.Test.YtffmodpgddecnaaZ06
import Derived.Test.YtffmodpgddecnaaZ05
namespace Go.Proofs.Ytffmodpgddecnaa.V.E
open Go.RowKit Go.Maps
open Go.Proofs.Ytffmodpgddecnaa.H (B64 Cp)
open Go.Proofs.Ytffmodpgddecnaa.M (wpAnyH_norm)
set_option linter.unusedVariables false
set_option linter.unusedSimpArgs false
section
variable {w w' U : World}
theorem words_big {a : Option Addr} {n cap : Nat} {f : Nat → Nat} (h : D.Ws w a n cap f) (hn : n * 16 ≤ 140737488355328) :
    ∃ a' c' w3, (Builtin.append_ #[24, 24] 24 #[.slice (some ⟨w.heap.size, 0, none⟩) 0 0, .slice a n cap]).run Try.prog (w.alloc (Obj.cells #[] 38)) = .ok (.slice a' n c') w3 ∧ D.Ws w3 a' n c' f ∧ (∀ j, Blk a' j → w.heap.size ≤ j ∧ j < w3.heap.size) ∧ Below w.heap.size w w3 := by
  have hB := below1 w (Obj.cells #[] 38)
  have hO := ow_empty w 38 2
  obtain ⟨a', c', w3, hrun, hO3, hG⟩ := append_k 24 38 _ 2 16 Try.underlying24 info31 rfl (by omega) (by omega) hO (Ws.cr (h.later hB)) hB.size (by rw [Nat.zero_add]; exact hn)
  rw [Nat.zero_add] at hrun hO3
  rw [List.nil_append] at hO3
  have hO3 : Ow w3 w.heap.size 38 2 a' n c' (D.wvs f n) := hO3
  exact ⟨a', c', w3, hrun, Ow.ws hO3 h.small, fun j hj => hO3.blk j hj, But.below hB hG.but (fun k hk => (hO.blk k hk).1)⟩
theorem ldR_at {b o : Nat} {r : Rep} {a : Option Addr} {n c : Nat} (h : w.rangeAt b o (rpL r a n c)) : (Instr.loadAt 43 (.pointer (some ⟨b, o, none⟩))).run Try.prog w = .ok (rpV r a n c) w := by
  have := run_loadVar_mid (P := Try.prog) w b o 43 (rpL r a n c) _ h Try.underlying43 rfl (by rw [info6]; rfl)
  simp [Instr.loadAt, Instr.sureAddr, this, rpL]
theorem Bag.rep {base : Nat} {a : Option Addr} {n c : Nat} {X : List Rq} (h : Rbag w base a n c X) (h0 : 0 < n) : ∃ g, a = some ⟨g, 0, none⟩ ∧ ∀ i x, X[i]? = some x → w.rangeAt g (i * 6) (rpL x.1 x.2.a x.2.n x.2.c) := by
  obtain ⟨g, e, hc⟩ := Ow.at_ h.row h0
  refine ⟨g, e, fun i x hx j v hv => ?_⟩
  have hj : j < 6 := by
    have := (List.getElem?_eq_some_iff.1 hv).1
    simpa [rpL] using this
  refine hc _ _ ?_
  rw [flat_at kR.cel 6 kR_ok.len X i x hx j hj]
  exact hv
theorem cz_take {a : Option Addr} {n k : Nat} {C : List R.Cl} {D' G' : Nat → R.Sl} (h : Cz w a n C D' G') (hk : k ≤ n) : Cz w a k (C.take k) D' G' := by
  refine ⟨by rw [List.length_take, h.len]; omega, fun h0 => ?_, fun i c hc => ?_⟩
  · obtain ⟨b, o, e, hr⟩ := h.at_ (by omega)
    refine ⟨b, o, e, fun i c hc => hr i c ?_⟩
    by_cases hi : i < k
    · rwa [List.getElem?_take_of_lt hi] at hc
    · rw [List.getElem?_eq_none (by rw [List.length_take]; omega)] at hc; cases hc
  · by_cases hi : i < k
    · rw [List.getElem?_take_of_lt hi] at hc
      exact h.is i c hc
    · rw [List.getElem?_eq_none (by rw [List.length_take]; omega)] at hc; cases hc
theorem szCl (w : World) : (sizeOf 47).run Try.prog w = .ok 13 w := by
  obtain ⟨i, hi, hz0, hz1, hz2⟩ := info_parts infoC
  simp [sizeOf, typeInfo, hi, hz1]
set_option maxRecDepth 100000 in
theorem undCl : Try.prog.underlying 25 = some (.slice (Try.prog.elem 25)) := Try.underlying25
theorem elCl : Try.prog.elem 25 = 47 := by kernel_rfl
theorem sliceCl_h (w : World) (a : Option Addr) (n c i : Nat) (h : i ≤ c) : (Instr.sliceAt 25 (.slice a n c) none (some (.int .i64 (i : Int))) none).run Try.prog w = .ok (.slice a i c) w := by
  rw [run_sliceAt_slice _ _ _ _ _ _ undCl, run_slice_h _ _ _ _ _ undCl _ _ (by omega) (by omega), elCl, szCl]
  simp [sliced]
  cases a <;> simp [Addr.add]
set_option maxRecDepth 100000 in
set_option maxHeartbeats 8000000 in
theorem runs_bad (c : Cf) (hc : c.may = false) {a : Option Addr} {n dcap : Nat} {f : Nat → Nat} (hw : D.Ws w a n dcap f) (hnd : n * 16 ≤ 140737488355328)  {al : Option Addr} {nl cap : Nat} {C : List R.Cl} {D' G' : Nat → R.Sl} (hC : Cz w al nl C D' G') (hnl : nl * 136 ≤ 140737488355328) (hcp : nl ≤ cap) :
    Calls Try.prog 3 #[c.v, .slice a n dcap, .slice al nl cap] w fun e w' => e = .returned (.bool true) ∧ Below w.heap.size w w' := by
  obtain ⟨W, hW⟩ : ∃ W, W = w.alloc (Obj.cells c.L.toArray 23) := ⟨_, rfl⟩
  have hB : Below w.heap.size w W := by rw [hW]; exact below1 _ _
  have hX : R.Bx W w.heap.size c.L := by rw [hW]; exact R.Bx.new w c.L 23
  have HX := hid hX
  have HB := hid hB
  have HW := hid hW
  have HWs := hid (hw.later hB)
  have HCz := hid (hC.later hB)
  have HLen := hid hC.len
  have hnl2 : nl ≤ 140737488355328 := Nat.le_trans (Nat.le_mul_of_pos_right _ (by omega)) hnl
  have HNl := hid hnl
  have HNd := hid hnd
  clear hX hB hW hw hC hnl hnd
  go_enter Try.func3, Try.ntmps3
  go_upto_region 1 with fail
  rw [← HW.out]
  go_upto_region 3 with (first | (go_at_call 5; refine (pexample_any (w := W)).mono ?_; rintro e w1 ⟨rfl, hb⟩; have HB1 := hid hb; clear hb))
  have HSx : Hid (∀ U, Below w1.heap.size w1 U → R.Bx U w.heap.size c.L) := fun U hU => R.Bx.later hU (R.Bx.later HB1.out HX.out)
  obtain ⟨a1, c1, p1, hrun, hws, -, hb⟩ := words_big (w := w1.drew) ((HWs.out.later HB1.out).later (Below.refl _ _).drew) HNd.out
  have HRUN1 := hid hrun
  have HWs1 := hid hws
  have HBp1 : Hid (Below w1.heap.size w1 p1) := below_call (Below.refl _ _).drew hb
  clear hrun hws hb
  have HCop1 := hid (copies_any (cap := cap) ((HCz.out.later HB1.out).later HBp1.out) HNl.out)
  refine wp_region_held_drew (S := (fun U : World => R.Bx U w.heap.size c.L)) (by kernel_rfl) (HSx.out _ (Below.refl _ _).drew) (fun hHeld => ?_)
  refine wpAnyH_norm (l2 := #[false, false, false, false, false, false, false, false, false, false, false, false]) (f2 := 12) (by kernel_rfl) (by kernel_rfl) ?_
  refine wpAnyH_take (i := 0) (oi := _) (v := c.v) rfl (by kernel_rfl) (by kernel_rfl) (by kernel_rfl) (fun _ _ _ h => h) (Or.inl ⟨by rfl, ?_⟩) (by assumption) ?_
  · (intro w hSw; (try dsimp only at hSw); exact ex_ld rfl rfl (ldF hSw))
  simp only [List.getElem_toArray, List.getElem_cons_succ, List.getElem_cons_zero, Act.put, List.setIfInBounds_toArray, List.set_cons_zero, List.set_cons_succ]
  refine wpAnyH_norm (l2 := #[true, false, false, false, false, false, false, false, false, false, false, false]) (f2 := 11) (by kernel_rfl) (by kernel_rfl) ?_
  refine wpAnyH_take (i := 2) (oi := _) (v := ?_) rfl (by kernel_rfl) (by kernel_rfl) (by kernel_rfl) (fun _ _ _ h => h) (Or.inl ⟨by rfl, ?_⟩) (by assumption) ?_
  rotate_left
  · (intro w hSw; (try dsimp only at hSw); go_simp; try with_reducible rfl)
  simp only [List.getElem_toArray, List.getElem_cons_succ, List.getElem_cons_zero, Act.put, List.setIfInBounds_toArray, List.set_cons_zero, List.set_cons_succ]
  refine wpAnyH_norm (l2 := #[true, false, true, false, false, false, false, false, false, false, false, false]) (f2 := 10) (by kernel_rfl) (by kernel_rfl) ?_
  refine wpAnyH_take (i := 4) (oi := _) (v := ?_) rfl (by kernel_rfl) (by kernel_rfl) (by kernel_rfl) (fun _ _ _ h => h) (Or.inl ⟨by rfl, ?_⟩) (by assumption) ?_
  rotate_left
  · (intro w hSw; (try dsimp only at hSw); go_simp; try with_reducible rfl)
  simp only [List.getElem_toArray, List.getElem_cons_succ, List.getElem_cons_zero, Act.put, List.setIfInBounds_toArray, List.set_cons_zero, List.set_cons_succ]
  refine wpAnyH_norm (l2 := #[true, false, true, false, true, false, false, false, false, false, false, false]) (f2 := 9) (by kernel_rfl) (by kernel_rfl) ?_
  refine wpAnyH_ready (rs := [1]) (by kernel_rfl) (by simp) ?_
  refine AllReadyH.cons rfl (fun K hK => ?_) AllReadyH.nil
  go_simp
  refine hK.out _ _ (HSx.out _ ((Below.refl _ _).drew.alloc (Nat.le_refl _) _)) (fun hHeld => ?_)
  clear hK K
  simp only [List.getElem_toArray, List.getElem_cons_succ, List.getElem_cons_zero, Act.put, List.setIfInBounds_toArray, List.set_cons_zero, List.set_cons_succ]
  refine wpAnyH_norm (l2 := #[true, true, true, false, true, false, false, false, false, false, false, false]) (f2 := 8) (by kernel_rfl) (by kernel_rfl) ?_
  refine wpAnyH_ready (rs := [3]) (by kernel_rfl) (by simp) ?_
  refine AllReadyH.cons rfl (fun K hK => ?_) AllReadyH.nil
  refine wp_app (.tmp 19) (.tmp 20) 24 rfl _ _ rfl rfl _ p1 HRUN1.out ?_
  refine hK.out _ _ (HSx.out _ HBp1.out) (fun hHeld => ?_)
  clear hK K
  simp only [List.getElem_toArray, List.getElem_cons_succ, List.getElem_cons_zero, Act.put, List.setIfInBounds_toArray, List.set_cons_zero, List.set_cons_succ]
  refine wpAnyH_norm (l2 := #[true, true, true, true, true, false, false, false, false, false, false, false]) (f2 := 7) (by kernel_rfl) (by kernel_rfl) ?_
  refine wpAnyH_ready (rs := [5]) (by kernel_rfl) (by simp) ?_
  refine AllReadyH.cons rfl (fun K hK => ?_) AllReadyH.nil
  go_simp
  go_wp2_with (first | (go_at_call 7; refine HCop1.out.mono ?_; rintro e p2 ⟨a2, c2, X1, rfl, hbag, hmp, hsz, hb⟩; have HBag1 := hid hbag; have HMp1 := hid hmp; have HSz1 := hid hsz; have HBp2 := hid hb; clear hbag hmp hsz hb))
  refine hK.out _ _ (HSx.out _ (below_call HBp1.out HBp2.out)) (fun hHeld => ?_)
  clear hK K
  simp only [List.getElem_toArray, List.getElem_cons_succ, List.getElem_cons_zero, Act.put, List.setIfInBounds_toArray, List.set_cons_zero, List.set_cons_succ]
  refine wpAnyH_norm (l2 := #[true, true, true, true, true, true, false, false, false, false, false, false]) (f2 := 6) (by kernel_rfl) (by kernel_rfl) ?_
  refine wpAnyH_ready (rs := [6]) (by kernel_rfl) (by simp) ?_
  refine AllReadyH.cons rfl (fun K hK => ?_) AllReadyH.nil
  go_simp
  go_wp2_with (first | (go_at_call 6; refine (run_bad (w := p2) c hc a1 n c1 a2 nl c2).mono ?_; rintro e p3 ⟨rfl, hb⟩; have HBp3 := hid hb; clear hb))
  refine hK.out _ _ (HSx.out _ (below_call (below_call HBp1.out HBp2.out) HBp3.out)) (fun hHeld => ?_)
  clear hK K
  simp only [List.getElem_toArray, List.getElem_cons_succ, List.getElem_cons_zero, Act.put, List.setIfInBounds_toArray, List.set_cons_zero, List.set_cons_succ]
  refine wpAnyH_norm (l2 := #[true, true, true, true, true, true, true, false, false, false, false, false]) (f2 := 5) (by kernel_rfl) (by kernel_rfl) ?_
  refine wpAnyH_take (i := 7) (oi := _) (v := ?_) rfl (by kernel_rfl) (by kernel_rfl) (by kernel_rfl) (fun _ _ _ h => h) (Or.inl ⟨by rfl, ?_⟩) (by assumption) ?_
  rotate_left
  · (intro w hSw; (try dsimp only at hSw); go_simp; try with_reducible rfl)
  simp only [List.getElem_toArray, List.getElem_cons_succ, List.getElem_cons_zero, Act.put, List.setIfInBounds_toArray, List.set_cons_zero, List.set_cons_succ]
  refine wpAnyH_norm (l2 := #[true, true, true, true, true, true, true, true, false, false, false, false]) (f2 := 4) (by kernel_rfl) (by kernel_rfl) ?_
  refine wpAnyH_take (i := 8) (oi := _) (v := ?_) rfl (by kernel_rfl) (by kernel_rfl) (by kernel_rfl) (fun _ _ _ h => h) (Or.inl ⟨by rfl, ?_⟩) (by assumption) ?_
  rotate_left
  · (intro w hSw; (try dsimp only at hSw); go_simp; try with_reducible rfl)
  simp only [List.getElem_toArray, List.getElem_cons_succ, List.getElem_cons_zero, Act.put, List.setIfInBounds_toArray, List.set_cons_zero, List.set_cons_succ]
  refine wpAnyH_norm (l2 := #[true, true, true, true, true, true, true, true, true, false, false, false]) (f2 := 3) (by kernel_rfl) (by kernel_rfl) ?_
  refine wpAnyH_take (i := 9) (oi := _) (v := ?_) rfl (by kernel_rfl) (by kernel_rfl) (by kernel_rfl) (fun _ _ _ h => h) (Or.inl ⟨by rfl, ?_⟩) (by assumption) ?_
  rotate_left
  · (intro w hSw; (try dsimp only at hSw); go_simp; try with_reducible rfl)
  simp only [List.getElem_toArray, List.getElem_cons_succ, List.getElem_cons_zero, Act.put, List.setIfInBounds_toArray, List.set_cons_zero, List.set_cons_succ]
  refine wpAnyH_norm (l2 := #[true, true, true, true, true, true, true, true, true, true, false, false]) (f2 := 2) (by kernel_rfl) (by kernel_rfl) ?_
  refine wpAnyH_take (i := 10) (oi := _) (v := ?_) rfl (by kernel_rfl) (by kernel_rfl) (by kernel_rfl) (fun _ _ _ h => h) (Or.inl ⟨by rfl, ?_⟩) (by assumption) ?_
  rotate_left
  · (intro w hSw; (try dsimp only at hSw); go_simp; try with_reducible rfl)
  simp only [List.getElem_toArray, List.getElem_cons_succ, List.getElem_cons_zero, Act.put, List.setIfInBounds_toArray, List.set_cons_zero, List.set_cons_succ]
  refine wpAnyH_norm (l2 := #[true, true, true, true, true, true, true, true, true, true, true, false]) (f2 := 1) (by kernel_rfl) (by kernel_rfl) ?_
  refine wpAnyH_take (i := 11) (oi := _) (v := ?_) rfl (by kernel_rfl) (by kernel_rfl) (by kernel_rfl) (fun _ _ _ h => h) (Or.inl ⟨by rfl, ?_⟩) (by assumption) ?_
  rotate_left
  · (intro w hSw; (try dsimp only at hSw); go_simp; try with_reducible rfl)
  simp only [List.getElem_toArray, List.getElem_cons_succ, List.getElem_cons_zero, Act.put, List.setIfInBounds_toArray, List.set_cons_zero, List.set_cons_succ]
  refine wpAnyH_norm (l2 := #[true, true, true, true, true, true, true, true, true, true, true, true]) (f2 := 0) (by kernel_rfl) (by kernel_rfl) ?_
  refine wpAnyH_done (by kernel_rfl) ?_ _
  go_upto_region 4 with fail
  have HBw3 : Hid (Below w1.heap.size w1 p3) := below_call (below_call HBp1.out HBp2.out) HBp3.out
  have HSy : Hid (∀ U, Below p3.heap.size p3 U → R.Bx U w.heap.size c.L) := fun U hU => HSx.out U (below_call HBw3.out hU)
  obtain ⟨a4, c4, p4, hrun, hws, -, hb⟩ := words_big (w := p3.drew) (((HWs.out.later HB1.out).later HBw3.out).later (Below.refl _ _).drew) HNd.out
  have HRUN2 := hid hrun
  have HWs2 := hid hws
  have HBp4 : Hid (Below p3.heap.size p3 p4) := below_call (Below.refl _ _).drew hb
  clear hrun hws hb
  refine wp_region_held_drew (S := (fun U : World => R.Bx U w.heap.size c.L)) (by kernel_rfl) (HSy.out _ (Below.refl _ _).drew) (fun hHeld => ?_)
  refine wpAnyH_norm (l2 := #[false, false, false, false, false, false, false, false, false, false]) (f2 := 10) (by kernel_rfl) (by kernel_rfl) ?_
  refine wpAnyH_take (i := 0) (oi := _) (v := c.v) rfl (by kernel_rfl) (by kernel_rfl) (by kernel_rfl) (fun _ _ _ h => h) (Or.inl ⟨by rfl, ?_⟩) (by assumption) ?_
  · (intro w hSw; (try dsimp only at hSw); exact ex_ld rfl rfl (ldF hSw))
  simp only [List.getElem_toArray, List.getElem_cons_succ, List.getElem_cons_zero, Act.put, List.setIfInBounds_toArray, List.set_cons_zero, List.set_cons_succ]
  refine wpAnyH_norm (l2 := #[true, false, false, false, false, false, false, false, false, false]) (f2 := 9) (by kernel_rfl) (by kernel_rfl) ?_
  refine wpAnyH_take (i := 2) (oi := _) (v := ?_) rfl (by kernel_rfl) (by kernel_rfl) (by kernel_rfl) (fun _ _ _ h => h) (Or.inl ⟨by rfl, ?_⟩) (by assumption) ?_
  rotate_left
  · (intro w hSw; (try dsimp only at hSw); go_simp; try with_reducible rfl)
  simp only [List.getElem_toArray, List.getElem_cons_succ, List.getElem_cons_zero, Act.put, List.setIfInBounds_toArray, List.set_cons_zero, List.set_cons_succ]
  refine wpAnyH_norm (l2 := #[true, false, true, false, false, false, false, false, false, false]) (f2 := 8) (by kernel_rfl) (by kernel_rfl) ?_
  refine wpAnyH_ready (rs := [1]) (by kernel_rfl) (by simp) ?_
  refine AllReadyH.cons rfl (fun K hK => ?_) AllReadyH.nil
  go_simp
  refine hK.out _ _ (HSy.out _ ((Below.refl _ _).drew.alloc (Nat.le_refl _) _)) (fun hHeld => ?_)
  clear hK K
  simp only [List.getElem_toArray, List.getElem_cons_succ, List.getElem_cons_zero, Act.put, List.setIfInBounds_toArray, List.set_cons_zero, List.set_cons_succ]
  refine wpAnyH_norm (l2 := #[true, true, true, false, false, false, false, false, false, false]) (f2 := 7) (by kernel_rfl) (by kernel_rfl) ?_
  refine wpAnyH_ready (rs := [3]) (by kernel_rfl) (by simp) ?_
  refine AllReadyH.cons rfl (fun K hK => ?_) AllReadyH.nil
  refine wp_app (.tmp 29) (.tmp 30) 24 rfl _ _ rfl rfl _ p4 HRUN2.out ?_
  refine hK.out _ _ (HSy.out _ HBp4.out) (fun hHeld => ?_)
  clear hK K
  simp only [List.getElem_toArray, List.getElem_cons_succ, List.getElem_cons_zero, Act.put, List.setIfInBounds_toArray, List.set_cons_zero, List.set_cons_succ]
  refine wpAnyH_norm (l2 := #[true, true, true, true, false, false, false, false, false, false]) (f2 := 6) (by kernel_rfl) (by kernel_rfl) ?_
  refine wpAnyH_ready (rs := [4]) (by kernel_rfl) (by simp) ?_
  refine AllReadyH.cons rfl (fun K hK => ?_) AllReadyH.nil
  go_simp
  go_wp2_with (first | (go_at_call 8; refine (pnew_bad c hc a4 n c4 p4).mono ?_; rintro e p5 ⟨rfl, hb⟩; have HBp5 := hid hb; clear hb))
  refine hK.out _ _ (HSy.out _ (below_call HBp4.out HBp5.out)) (fun hHeld => ?_)
  clear hK K
  simp only [List.getElem_toArray, List.getElem_cons_succ, List.getElem_cons_zero, Act.put, List.setIfInBounds_toArray, List.set_cons_zero, List.set_cons_succ]
  refine wpAnyH_norm (l2 := #[true, true, true, true, true, false, false, false, false, false]) (f2 := 5) (by kernel_rfl) (by kernel_rfl) ?_
  refine wpAnyH_take (i := 5) (oi := _) (v := ?_) rfl (by kernel_rfl) (by kernel_rfl) (by kernel_rfl) (fun _ _ _ h => h) (Or.inl ⟨by rfl, ?_⟩) (by assumption) ?_
  rotate_left
  · (intro w hSw; (try dsimp only at hSw); go_simp; try with_reducible rfl)
  simp only [List.getElem_toArray, List.getElem_cons_succ, List.getElem_cons_zero, Act.put, List.setIfInBounds_toArray, List.set_cons_zero, List.set_cons_succ]
  refine wpAnyH_norm (l2 := #[true, true, true, true, true, true, false, false, false, false]) (f2 := 4) (by kernel_rfl) (by kernel_rfl) ?_
  refine wpAnyH_take (i := 6) (oi := _) (v := ?_) rfl (by kernel_rfl) (by kernel_rfl) (by kernel_rfl) (fun _ _ _ h => h) (Or.inl ⟨by rfl, ?_⟩) (by assumption) ?_
  rotate_left
  · (intro w hSw; (try dsimp only at hSw); go_simp; try with_reducible rfl)
  simp only [List.getElem_toArray, List.getElem_cons_succ, List.getElem_cons_zero, Act.put, List.setIfInBounds_toArray, List.set_cons_zero, List.set_cons_succ]
  refine wpAnyH_norm (l2 := #[true, true, true, true, true, true, true, false, false, false]) (f2 := 3) (by kernel_rfl) (by kernel_rfl) ?_
  refine wpAnyH_take (i := 7) (oi := _) (v := ?_) rfl (by kernel_rfl) (by kernel_rfl) (by kernel_rfl) (fun _ _ _ h => h) (Or.inl ⟨by rfl, ?_⟩) (by assumption) ?_
  rotate_left
  · (intro w hSw; (try dsimp only at hSw); go_simp; try with_reducible rfl)
  simp only [List.getElem_toArray, List.getElem_cons_succ, List.getElem_cons_zero, Act.put, List.setIfInBounds_toArray, List.set_cons_zero, List.set_cons_succ]
  refine wpAnyH_norm (l2 := #[true, true, true, true, true, true, true, true, false, false]) (f2 := 2) (by kernel_rfl) (by kernel_rfl) ?_
  refine wpAnyH_take (i := 8) (oi := _) (v := ?_) rfl (by kernel_rfl) (by kernel_rfl) (by kernel_rfl) (fun _ _ _ h => h) (Or.inl ⟨by rfl, ?_⟩) (by assumption) ?_
  rotate_left
  · (intro w hSw; (try dsimp only at hSw); go_simp; try with_reducible rfl)
  simp only [List.getElem_toArray, List.getElem_cons_succ, List.getElem_cons_zero, Act.put, List.setIfInBounds_toArray, List.set_cons_zero, List.set_cons_succ]
  refine wpAnyH_norm (l2 := #[true, true, true, true, true, true, true, true, true, false]) (f2 := 1) (by kernel_rfl) (by kernel_rfl) ?_
  refine wpAnyH_take (i := 9) (oi := _) (v := ?_) rfl (by kernel_rfl) (by kernel_rfl) (by kernel_rfl) (fun _ _ _ h => h) (Or.inl ⟨by rfl, ?_⟩) (by assumption) ?_
  rotate_left
  · (intro w hSw; (try dsimp only at hSw); go_simp; try with_reducible rfl)
  simp only [List.getElem_toArray, List.getElem_cons_succ, List.getElem_cons_zero, Act.put, List.setIfInBounds_toArray, List.set_cons_zero, List.set_cons_succ]
  refine wpAnyH_norm (l2 := #[true, true, true, true, true, true, true, true, true, true]) (f2 := 0) (by kernel_rfl) (by kernel_rfl) ?_
  refine wpAnyH_done (by kernel_rfl) ?_ _
  have HFin : Hid (Below w.heap.size w p5) := below_call HB.out (below_call HB1.out (below_call HBw3.out (below_call HBp4.out HBp5.out)))
  go_wp2
  go_ret
  exact ⟨ret_bool (by simp), HFin.out⟩
set_option maxRecDepth 100000 in
set_option maxHeartbeats 8000000 in
theorem runs_many (c : Cf) (hc : c.may = true) {a : Option Addr} {n dcap : Nat} {f : Nat → Nat} (hw : D.Ws w a n dcap f) (hnd : n * 16 ≤ 140737488355328) (hn : 4096 < n) {al : Option Addr} {nl cap : Nat} {C : List R.Cl} {D' G' : Nat → R.Sl} (hC : Cz w al nl C D' G') (hnl : nl * 136 ≤ 140737488355328) (hcp : nl ≤ cap) :
    Calls Try.prog 3 #[c.v, .slice a n dcap, .slice al nl cap] w fun e w' => e = .returned (.bool true) ∧ Below w.heap.size w w' := by
  obtain ⟨W, hW⟩ : ∃ W, W = w.alloc (Obj.cells c.L.toArray 23) := ⟨_, rfl⟩
  have hB : Below w.heap.size w W := by rw [hW]; exact below1 _ _
  have hX : R.Bx W w.heap.size c.L := by rw [hW]; exact R.Bx.new w c.L 23
  have HX := hid hX
  have HB := hid hB
  have HW := hid hW
  have HWs := hid (hw.later hB)
  have HCz := hid (hC.later hB)
  have HLen := hid hC.len
  have hnl2 : nl ≤ 140737488355328 := Nat.le_trans (Nat.le_mul_of_pos_right _ (by omega)) hnl
  have HNl := hid hnl
  have HNd := hid hnd
  clear hX hB hW hw hC hnl hnd
  go_enter Try.func3, Try.ntmps3
  go_upto_region 1 with fail
  rw [← HW.out]
  go_upto_region 3 with (first | (go_at_call 5; refine (pexample_any (w := W)).mono ?_; rintro e w1 ⟨rfl, hb⟩; have HB1 := hid hb; clear hb))
  have HSx : Hid (∀ U, Below w1.heap.size w1 U → R.Bx U w.heap.size c.L) := fun U hU => R.Bx.later hU (R.Bx.later HB1.out HX.out)
  obtain ⟨a1, c1, p1, hrun, hws, -, hb⟩ := words_big (w := w1.drew) ((HWs.out.later HB1.out).later (Below.refl _ _).drew) HNd.out
  have HRUN1 := hid hrun
  have HWs1 := hid hws
  have HBp1 : Hid (Below w1.heap.size w1 p1) := below_call (Below.refl _ _).drew hb
  clear hrun hws hb
  have HCop1 := hid (copies_any (cap := cap) ((HCz.out.later HB1.out).later HBp1.out) HNl.out)
  refine wp_region_held_drew (S := (fun U : World => R.Bx U w.heap.size c.L)) (by kernel_rfl) (HSx.out _ (Below.refl _ _).drew) (fun hHeld => ?_)
  refine wpAnyH_norm (l2 := #[false, false, false, false, false, false, false, false, false, false, false, false]) (f2 := 12) (by kernel_rfl) (by kernel_rfl) ?_
  refine wpAnyH_take (i := 0) (oi := _) (v := c.v) rfl (by kernel_rfl) (by kernel_rfl) (by kernel_rfl) (fun _ _ _ h => h) (Or.inl ⟨by rfl, ?_⟩) (by assumption) ?_
  · (intro w hSw; (try dsimp only at hSw); exact ex_ld rfl rfl (ldF hSw))
  simp only [List.getElem_toArray, List.getElem_cons_succ, List.getElem_cons_zero, Act.put, List.setIfInBounds_toArray, List.set_cons_zero, List.set_cons_succ]
  refine wpAnyH_norm (l2 := #[true, false, false, false, false, false, false, false, false, false, false, false]) (f2 := 11) (by kernel_rfl) (by kernel_rfl) ?_
  refine wpAnyH_take (i := 2) (oi := _) (v := ?_) rfl (by kernel_rfl) (by kernel_rfl) (by kernel_rfl) (fun _ _ _ h => h) (Or.inl ⟨by rfl, ?_⟩) (by assumption) ?_
  rotate_left
  · (intro w hSw; (try dsimp only at hSw); go_simp; try with_reducible rfl)
  simp only [List.getElem_toArray, List.getElem_cons_succ, List.getElem_cons_zero, Act.put, List.setIfInBounds_toArray, List.set_cons_zero, List.set_cons_succ]
  refine wpAnyH_norm (l2 := #[true, false, true, false, false, false, false, false, false, false, false, false]) (f2 := 10) (by kernel_rfl) (by kernel_rfl) ?_
  refine wpAnyH_take (i := 4) (oi := _) (v := ?_) rfl (by kernel_rfl) (by kernel_rfl) (by kernel_rfl) (fun _ _ _ h => h) (Or.inl ⟨by rfl, ?_⟩) (by assumption) ?_
  rotate_left
  · (intro w hSw; (try dsimp only at hSw); go_simp; try with_reducible rfl)
  simp only [List.getElem_toArray, List.getElem_cons_succ, List.getElem_cons_zero, Act.put, List.setIfInBounds_toArray, List.set_cons_zero, List.set_cons_succ]
  refine wpAnyH_norm (l2 := #[true, false, true, false, true, false, false, false, false, false, false, false]) (f2 := 9) (by kernel_rfl) (by kernel_rfl) ?_
  refine wpAnyH_ready (rs := [1]) (by kernel_rfl) (by simp) ?_
  refine AllReadyH.cons rfl (fun K hK => ?_) AllReadyH.nil
  go_simp
  refine hK.out _ _ (HSx.out _ ((Below.refl _ _).drew.alloc (Nat.le_refl _) _)) (fun hHeld => ?_)
  clear hK K
  simp only [List.getElem_toArray, List.getElem_cons_succ, List.getElem_cons_zero, Act.put, List.setIfInBounds_toArray, List.set_cons_zero, List.set_cons_succ]
  refine wpAnyH_norm (l2 := #[true, true, true, false, true, false, false, false, false, false, false, false]) (f2 := 8) (by kernel_rfl) (by kernel_rfl) ?_
  refine wpAnyH_ready (rs := [3]) (by kernel_rfl) (by simp) ?_
  refine AllReadyH.cons rfl (fun K hK => ?_) AllReadyH.nil
  refine wp_app (.tmp 19) (.tmp 20) 24 rfl _ _ rfl rfl _ p1 HRUN1.out ?_
  refine hK.out _ _ (HSx.out _ HBp1.out) (fun hHeld => ?_)
  clear hK K
  simp only [List.getElem_toArray, List.getElem_cons_succ, List.getElem_cons_zero, Act.put, List.setIfInBounds_toArray, List.set_cons_zero, List.set_cons_succ]
  refine wpAnyH_norm (l2 := #[true, true, true, true, true, false, false, false, false, false, false, false]) (f2 := 7) (by kernel_rfl) (by kernel_rfl) ?_
  refine wpAnyH_ready (rs := [5]) (by kernel_rfl) (by simp) ?_
  refine AllReadyH.cons rfl (fun K hK => ?_) AllReadyH.nil
  go_simp
  go_wp2_with (first | (go_at_call 7; refine HCop1.out.mono ?_; rintro e p2 ⟨a2, c2, X1, rfl, hbag, hmp, hsz, hb⟩; have HBag1 := hid hbag; have HMp1 := hid hmp; have HSz1 := hid hsz; have HBp2 := hid hb; clear hbag hmp hsz hb))
  refine hK.out _ _ (HSx.out _ (below_call HBp1.out HBp2.out)) (fun hHeld => ?_)
  clear hK K
  simp only [List.getElem_toArray, List.getElem_cons_succ, List.getElem_cons_zero, Act.put, List.setIfInBounds_toArray, List.set_cons_zero, List.set_cons_succ]
  refine wpAnyH_norm (l2 := #[true, true, true, true, true, true, false, false, false, false, false, false]) (f2 := 6) (by kernel_rfl) (by kernel_rfl) ?_
  refine wpAnyH_ready (rs := [6]) (by kernel_rfl) (by simp) ?_
  refine AllReadyH.cons rfl (fun K hK => ?_) AllReadyH.nil
  go_simp
  go_wp2_with (first | (go_at_call 6; refine (run_many (w := p2) c hc a1 n c1 hn a2 nl c2).mono ?_; rintro e p3 ⟨rfl, hb⟩; have HBp3 := hid hb; clear hb))
  refine hK.out _ _ (HSx.out _ (below_call (below_call HBp1.out HBp2.out) HBp3.out)) (fun hHeld => ?_)
  clear hK K
  simp only [List.getElem_toArray, List.getElem_cons_succ, List.getElem_cons_zero, Act.put, List.setIfInBounds_toArray, List.set_cons_zero, List.set_cons_succ]
  refine wpAnyH_norm (l2 := #[true, true, true, true, true, true, true, false, false, false, false, false]) (f2 := 5) (by kernel_rfl) (by kernel_rfl) ?_
  refine wpAnyH_take (i := 7) (oi := _) (v := ?_) rfl (by kernel_rfl) (by kernel_rfl) (by kernel_rfl) (fun _ _ _ h => h) (Or.inl ⟨by rfl, ?_⟩) (by assumption) ?_
  rotate_left
  · (intro w hSw; (try dsimp only at hSw); go_simp; try with_reducible rfl)
  simp only [List.getElem_toArray, List.getElem_cons_succ, List.getElem_cons_zero, Act.put, List.setIfInBounds_toArray, List.set_cons_zero, List.set_cons_succ]
  refine wpAnyH_norm (l2 := #[true, true, true, true, true, true, true, true, false, false, false, false]) (f2 := 4) (by kernel_rfl) (by kernel_rfl) ?_
  refine wpAnyH_take (i := 8) (oi := _) (v := ?_) rfl (by kernel_rfl) (by kernel_rfl) (by kernel_rfl) (fun _ _ _ h => h) (Or.inl ⟨by rfl, ?_⟩) (by assumption) ?_
  rotate_left
  · (intro w hSw; (try dsimp only at hSw); go_simp; try with_reducible rfl)
  simp only [List.getElem_toArray, List.getElem_cons_succ, List.getElem_cons_zero, Act.put, List.setIfInBounds_toArray, List.set_cons_zero, List.set_cons_succ]
  refine wpAnyH_norm (l2 := #[true, true, true, true, true, true, true, true, true, false, false, false]) (f2 := 3) (by kernel_rfl) (by kernel_rfl) ?_
  refine wpAnyH_take (i := 9) (oi := _) (v := ?_) rfl (by kernel_rfl) (by kernel_rfl) (by kernel_rfl) (fun _ _ _ h => h) (Or.inl ⟨by rfl, ?_⟩) (by assumption) ?_
  rotate_left
  · (intro w hSw; (try dsimp only at hSw); go_simp; try with_reducible rfl)
  simp only [List.getElem_toArray, List.getElem_cons_succ, List.getElem_cons_zero, Act.put, List.setIfInBounds_toArray, List.set_cons_zero, List.set_cons_succ]
  refine wpAnyH_norm (l2 := #[true, true, true, true, true, true, true, true, true, true, false, false]) (f2 := 2) (by kernel_rfl) (by kernel_rfl) ?_
  refine wpAnyH_take (i := 10) (oi := _) (v := ?_) rfl (by kernel_rfl) (by kernel_rfl) (by kernel_rfl) (fun _ _ _ h => h) (Or.inl ⟨by rfl, ?_⟩) (by assumption) ?_
  rotate_left
  · (intro w hSw; (try dsimp only at hSw); go_simp; try with_reducible rfl)
  simp only [List.getElem_toArray, List.getElem_cons_succ, List.getElem_cons_zero, Act.put, List.setIfInBounds_toArray, List.set_cons_zero, List.set_cons_succ]
  refine wpAnyH_norm (l2 := #[true, true, true, true, true, true, true, true, true, true, true, false]) (f2 := 1) (by kernel_rfl) (by kernel_rfl) ?_
  refine wpAnyH_take (i := 11) (oi := _) (v := ?_) rfl (by kernel_rfl) (by kernel_rfl) (by kernel_rfl) (fun _ _ _ h => h) (Or.inl ⟨by rfl, ?_⟩) (by assumption) ?_
  rotate_left
  · (intro w hSw; (try dsimp only at hSw); go_simp; try with_reducible rfl)
  simp only [List.getElem_toArray, List.getElem_cons_succ, List.getElem_cons_zero, Act.put, List.setIfInBounds_toArray, List.set_cons_zero, List.set_cons_succ]
  refine wpAnyH_norm (l2 := #[true, true, true, true, true, true, true, true, true, true, true, true]) (f2 := 0) (by kernel_rfl) (by kernel_rfl) ?_
  refine wpAnyH_done (by kernel_rfl) ?_ _
  go_upto_region 4 with fail
  have HBw3 : Hid (Below w1.heap.size w1 p3) := below_call (below_call HBp1.out HBp2.out) HBp3.out
  have HSy : Hid (∀ U, Below p3.heap.size p3 U → R.Bx U w.heap.size c.L) := fun U hU => HSx.out U (below_call HBw3.out hU)
  obtain ⟨a4, c4, p4, hrun, hws, -, hb⟩ := words_big (w := p3.drew) (((HWs.out.later HB1.out).later HBw3.out).later (Below.refl _ _).drew) HNd.out
  have HRUN2 := hid hrun
  have HWs2 := hid hws
  have HBp4 : Hid (Below p3.heap.size p3 p4) := below_call (Below.refl _ _).drew hb
  clear hrun hws hb
  refine wp_region_held_drew (S := (fun U : World => R.Bx U w.heap.size c.L)) (by kernel_rfl) (HSy.out _ (Below.refl _ _).drew) (fun hHeld => ?_)
  refine wpAnyH_norm (l2 := #[false, false, false, false, false, false, false, false, false, false]) (f2 := 10) (by kernel_rfl) (by kernel_rfl) ?_
  refine wpAnyH_take (i := 0) (oi := _) (v := c.v) rfl (by kernel_rfl) (by kernel_rfl) (by kernel_rfl) (fun _ _ _ h => h) (Or.inl ⟨by rfl, ?_⟩) (by assumption) ?_
  · (intro w hSw; (try dsimp only at hSw); exact ex_ld rfl rfl (ldF hSw))
  simp only [List.getElem_toArray, List.getElem_cons_succ, List.getElem_cons_zero, Act.put, List.setIfInBounds_toArray, List.set_cons_zero, List.set_cons_succ]
  refine wpAnyH_norm (l2 := #[true, false, false, false, false, false, false, false, false, false]) (f2 := 9) (by kernel_rfl) (by kernel_rfl) ?_
  refine wpAnyH_take (i := 2) (oi := _) (v := ?_) rfl (by kernel_rfl) (by kernel_rfl) (by kernel_rfl) (fun _ _ _ h => h) (Or.inl ⟨by rfl, ?_⟩) (by assumption) ?_
  rotate_left
  · (intro w hSw; (try dsimp only at hSw); go_simp; try with_reducible rfl)
  simp only [List.getElem_toArray, List.getElem_cons_succ, List.getElem_cons_zero, Act.put, List.setIfInBounds_toArray, List.set_cons_zero, List.set_cons_succ]
  refine wpAnyH_norm (l2 := #[true, false, true, false, false, false, false, false, false, false]) (f2 := 8) (by kernel_rfl) (by kernel_rfl) ?_
  refine wpAnyH_ready (rs := [1]) (by kernel_rfl) (by simp) ?_
  refine AllReadyH.cons rfl (fun K hK => ?_) AllReadyH.nil
  go_simp
  refine hK.out _ _ (HSy.out _ ((Below.refl _ _).drew.alloc (Nat.le_refl _) _)) (fun hHeld => ?_)
  clear hK K
  simp only [List.getElem_toArray, List.getElem_cons_succ, List.getElem_cons_zero, Act.put, List.setIfInBounds_toArray, List.set_cons_zero, List.set_cons_succ]
  refine wpAnyH_norm (l2 := #[true, true, true, false, false, false, false, false, false, false]) (f2 := 7) (by kernel_rfl) (by kernel_rfl) ?_
  refine wpAnyH_ready (rs := [3]) (by kernel_rfl) (by simp) ?_
  refine AllReadyH.cons rfl (fun K hK => ?_) AllReadyH.nil
  refine wp_app (.tmp 29) (.tmp 30) 24 rfl _ _ rfl rfl _ p4 HRUN2.out ?_
  refine hK.out _ _ (HSy.out _ HBp4.out) (fun hHeld => ?_)
  clear hK K
  simp only [List.getElem_toArray, List.getElem_cons_succ, List.getElem_cons_zero, Act.put, List.setIfInBounds_toArray, List.set_cons_zero, List.set_cons_succ]
  refine wpAnyH_norm (l2 := #[true, true, true, true, false, false, false, false, false, false]) (f2 := 6) (by kernel_rfl) (by kernel_rfl) ?_
  refine wpAnyH_ready (rs := [4]) (by kernel_rfl) (by simp) ?_
  refine AllReadyH.cons rfl (fun K hK => ?_) AllReadyH.nil
  go_simp
  go_wp2_with (first | (go_at_call 8; refine (pnew_many c hc a4 n c4 p4 hn).mono ?_; rintro e p5 ⟨rfl, hb⟩; have HBp5 := hid hb; clear hb))
  refine hK.out _ _ (HSy.out _ (below_call HBp4.out HBp5.out)) (fun hHeld => ?_)
  clear hK K
  simp only [List.getElem_toArray, List.getElem_cons_succ, List.getElem_cons_zero, Act.put, List.setIfInBounds_toArray, List.set_cons_zero, List.set_cons_succ]
  refine wpAnyH_norm (l2 := #[true, true, true, true, true, false, false, false, false, false]) (f2 := 5) (by kernel_rfl) (by kernel_rfl) ?_
  refine wpAnyH_take (i := 5) (oi := _) (v := ?_) rfl (by kernel_rfl) (by kernel_rfl) (by kernel_rfl) (fun _ _ _ h => h) (Or.inl ⟨by rfl, ?_⟩) (by assumption) ?_
  rotate_left
  · (intro w hSw; (try dsimp only at hSw); go_simp; try with_reducible rfl)
  simp only [List.getElem_toArray, List.getElem_cons_succ, List.getElem_cons_zero, Act.put, List.setIfInBounds_toArray, List.set_cons_zero, List.set_cons_succ]
  refine wpAnyH_norm (l2 := #[true, true, true, true, true, true, false, false, false, false]) (f2 := 4) (by kernel_rfl) (by kernel_rfl) ?_
  refine wpAnyH_take (i := 6) (oi := _) (v := ?_) rfl (by kernel_rfl) (by kernel_rfl) (by kernel_rfl) (fun _ _ _ h => h) (Or.inl ⟨by rfl, ?_⟩) (by assumption) ?_
  rotate_left
  · (intro w hSw; (try dsimp only at hSw); go_simp; try with_reducible rfl)
  simp only [List.getElem_toArray, List.getElem_cons_succ, List.getElem_cons_zero, Act.put, List.setIfInBounds_toArray, List.set_cons_zero, List.set_cons_succ]
  refine wpAnyH_norm (l2 := #[true, true, true, true, true, true, true, false, false, false]) (f2 := 3) (by kernel_rfl) (by kernel_rfl) ?_
  refine wpAnyH_take (i := 7) (oi := _) (v := ?_) rfl (by kernel_rfl) (by kernel_rfl) (by kernel_rfl) (fun _ _ _ h => h) (Or.inl ⟨by rfl, ?_⟩) (by assumption) ?_
  rotate_left
  · (intro w hSw; (try dsimp only at hSw); go_simp; try with_reducible rfl)
  simp only [List.getElem_toArray, List.getElem_cons_succ, List.getElem_cons_zero, Act.put, List.setIfInBounds_toArray, List.set_cons_zero, List.set_cons_succ]
  refine wpAnyH_norm (l2 := #[true, true, true, true, true, true, true, true, false, false]) (f2 := 2) (by kernel_rfl) (by kernel_rfl) ?_
  refine wpAnyH_take (i := 8) (oi := _) (v := ?_) rfl (by kernel_rfl) (by kernel_rfl) (by kernel_rfl) (fun _ _ _ h => h) (Or.inl ⟨by rfl, ?_⟩) (by assumption) ?_
  rotate_left
  · (intro w hSw; (try dsimp only at hSw); go_simp; try with_reducible rfl)
  simp only [List.getElem_toArray, List.getElem_cons_succ, List.getElem_cons_zero, Act.put, List.setIfInBounds_toArray, List.set_cons_zero, List.set_cons_succ]
  refine wpAnyH_norm (l2 := #[true, true, true, true, true, true, true, true, true, false]) (f2 := 1) (by kernel_rfl) (by kernel_rfl) ?_
  refine wpAnyH_take (i := 9) (oi := _) (v := ?_) rfl (by kernel_rfl) (by kernel_rfl) (by kernel_rfl) (fun _ _ _ h => h) (Or.inl ⟨by rfl, ?_⟩) (by assumption) ?_
  rotate_left
  · (intro w hSw; (try dsimp only at hSw); go_simp; try with_reducible rfl)
  simp only [List.getElem_toArray, List.getElem_cons_succ, List.getElem_cons_zero, Act.put, List.setIfInBounds_toArray, List.set_cons_zero, List.set_cons_succ]
  refine wpAnyH_norm (l2 := #[true, true, true, true, true, true, true, true, true, true]) (f2 := 0) (by kernel_rfl) (by kernel_rfl) ?_
  refine wpAnyH_done (by kernel_rfl) ?_ _
  have HFin : Hid (Below w.heap.size w p5) := below_call HB.out (below_call HB1.out (below_call HBw3.out (below_call HBp4.out HBp5.out)))
  go_wp2
  go_ret
  exact ⟨ret_bool (by simp), HFin.out⟩
theorem pdo_data (p : Pm) (q : Pl) (c : R.Cl) : (pDo p q c).1.data.length ≤ 1024 := by
  unfold pDo
  split
  · exact Nat.zero_le _
  · split
    · exact Nat.zero_le _
    · unfold pDeed
      split
      · unfold pCre
        split
        · exact Nat.zero_le _
        · split <;> exact Nat.zero_le _
      split
      · unfold pDes
        split <;> exact Nat.zero_le _
      split
      · unfold pDer
        split
        · exact Nat.zero_le _
        · split <;> exact Nat.zero_le _
      split
      · unfold pRev
        split
        · exact Nat.zero_le _
        · split
          · exact Nat.zero_le _
          · split <;> exact Nat.zero_le _
      split
      · unfold pRead
        split
        · exact Nat.zero_le _
        · split
          · rename_i h
            simp only [List.length_take]
            omega
          · exact Nat.zero_le _
      split
      · unfold pWrite
        split
        · exact Nat.zero_le _
        · split <;> exact Nat.zero_le _
      split
      · unfold pAdd
        split
        · exact Nat.zero_le _
        · split <;> exact Nat.zero_le _
      split
      · unfold pRem
        split <;> exact Nat.zero_le _
      split
      · unfold pSpa
        split
        · exact Nat.zero_le _
        · split <;> exact Nat.zero_le _
      · exact Nat.zero_le _
structure Pm1 (q U : World) (h : Hm) (C : List R.Cl) (i : Nat) (bo bl : Nat) (N : Nat → Prop) : Prop where
  md : Mw U { h with bo := bo, bl := bl } (stL h.p pl0 (C.take i)) N
  fit : Fit h.p (stL h.p pl0 (C.take i))
  lo : ∀ j, MdB h.g bo bl N j → q.heap.size ≤ j
  bel : Below q.heap.size q U
def PrRel (q : World) (h : Hm) (C : List R.Cl) (nl : Nat) (v : Value) (U : World) : Prop := ∃ i bo bl N, v = .int .i64 ((i : Nat) : Int) ∧ i ≤ nl ∧ Pm1 q U h C i bo bl N
def PlRel2 (q : World) (k : Nat) (v : Value) (U : World) : Prop := ∃ i, v = .int .i64 ((i : Nat) : Int) ∧ i ≤ k ∧ Below q.heap.size q U
theorem Pm1.later {q U U1 : World} {h : Hm} {C : List R.Cl} {i bo bl : Nat} {N : Nat → Prop} (k : Pm1 q U h C i bo bl N) (hb : Below U.heap.size U U1) : Pm1 q U1 h C i bo bl N := ⟨k.md.later hb, k.fit, k.lo, below_call k.bel hb⟩
theorem do_at {q U : World} {h : Hm} {C : List R.Cl} {i bo bl : Nat} {N : Nat → Prop} (k : Pm1 q U h C i bo bl N) (hcf : h.cf.may = true) {cl : R.Cl} {dd gg : R.Sl} (hi : R.Is U cl dd gg) {r : Rep × Pl} (hr : r = pDo h.p (stL h.p pl0 (C.take i)) cl) :
    Calls Try.prog 10 #[.pointer (some ⟨h.g, 0, none⟩), .agg (R.cC cl dd gg).toArray] U (DoP U { h with bo := bo, bl := bl } N r) := by
  obtain ⟨Es, Ls, km⟩ := k.md
  rw [hr]
  exact do_any km k.fit hcf hi
theorem Pm1.step {q U U1 : World} {h : Hm} {C : List R.Cl} {i bo bl : Nat} {N : Nat → Prop} (k : Pm1 q U h C i bo bl N) {cl : R.Cl} (hcl : C[i]? = some cl) {dd gg : R.Sl} (his : R.Is w cl dd gg) {r : Rep × Pl} (hr : r = pDo h.p (stL h.p pl0 (C.take i)) cl)
    {bo2 bl2 : Nat} {N2 : Nat → Prop} (hm : Mw U1 { h with bo := bo2, bl := bl2 } r.2 N2) (hg : But (· = h.g) U U1) (hn : ∀ k, (N2 k ∨ k = bo2 ∨ k = bl2) → (N k ∨ k = bo ∨ k = bl) ∨ U.heap.size ≤ k) : Pm1 q U1 h C (i + 1) bo2 bl2 N2 := by
  have hX : C.take (i + 1) = C.take i ++ [cl] := take_snoc hcl
  have hh : ∀ j, (N2 j ∨ j = bo2 ∨ j = bl2) → q.heap.size ≤ j := fun j hj => by
    rcases hn j hj with (e | e | e) | e
    · exact k.lo j (.inl e)
    · exact k.lo j (.inr (.inl e))
    · exact k.lo j (.inr (.inr (.inl e)))
    · exact Nat.le_trans k.bel.size e
  refine ⟨?_, ?_, fun j hj => ?_, But.below k.bel hg (fun j e => k.lo j (.inr (.inr (.inr e))))⟩
  · rw [hX, (rpl_snoc _ _ _ _).2, ← hr]; exact hm
  · rw [hX, (rpl_snoc _ _ _ _).2]; exact fit_is k.fit his
  · rcases hj with hj | hj | hj | hj
    · exact hh j (.inl hj)
    · exact hh j (.inr (.inl hj))
    · exact hh j (.inr (.inr hj))
    · exact k.lo j (.inr (.inr (.inr hj)))
end
end Go.Proofs.Ytffmodpgddecnaa.V.E
