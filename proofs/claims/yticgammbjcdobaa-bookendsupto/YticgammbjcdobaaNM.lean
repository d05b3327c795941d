import Derived.Test.YticgammbjcdobaaNH
namespace Go.Proofs.Yticgammbjcdobaa
open Go.RowKit
set_option linter.unusedVariables false
set_option linter.unusedSimpArgs false
set_option maxRecDepth 100000 in
set_option maxHeartbeats 4000000 in
theorem telling_any (m : Bm) (p : Int) (c : Cp) (r : Option Value) (w : World) (h : Bw w m) (hc : c.far) (hF : hasF c = true) (hp : I64 p) (hg : Gt m.T p (fmV (frm c)) r) :
    Calls Try.prog 27 #[.pointer (some ⟨m.g, 0, none⟩), .int .i64 p, capV c] w fun e w' => e = .returned (.tuple #[r.getD (.pointer none), .bool r.isSome]) ∧ Below w.heap.size w w' := by
  obtain ⟨o, ch, cl⟩ := c
  obtain ⟨W, hW⟩ : ∃ W, W = w.alloc (Obj.cells #[.int .i64 o, .int .u64 (ch : Int), .int .u64 (cl : Int)] 31) := ⟨_, rfl⟩
  have hB : Below w.heap.size w W := by rw [hW]; exact below1 _ _
  have HX0 : Hid (Bx W w.heap.size [.int .i64 o, .int .u64 (ch : Int), .int .u64 (cl : Int)]) := by rw [hW]; exact Bx.new w [.int .i64 o, .int .u64 (ch : Int), .int .u64 (cl : Int)] _
  have c4 := HX0.out.cell 0 rfl
  have c5 := HX0.out.cell 1 rfl
  have c6 := HX0.out.cell 2 rfl
  have HFo := hid (formOf_any ⟨o, ch, cl⟩ hc W)
  have eF : fmR ⟨o, ch, cl⟩ = frm ⟨o, ch, cl⟩ := by unfold fmR; rw [if_pos hF]
  rw [eF, hF] at HFo
  have HLo : Hid (∀ U, Below w.heap.size w U → Calls Try.prog 40 #[.map (some m.bt), .int .i64 p, fmV (frm ⟨o, ch, cl⟩)] U fun e w' => e = .returned (.tuple #[r.getD (.pointer none), .bool r.isSome]) ∧ Below U.heap.size U w') := fun U hU => lookF_any m.bt m.T p (frm ⟨o, ch, cl⟩) r U ((h.later hU).told) hp (frm_len _) (frm_sml _) hg
  have HH := hid h
  have HB := hid hB
  have HW := hid hW
  have HFl := hid (frm_len ⟨o, ch, cl⟩)
  generalize frm ⟨o, ch, cl⟩ = F at HFo HLo HFl
  generalize r.getD (.pointer none) = rv at HLo ⊢
  generalize r.isSome = rb at HLo ⊢
  clear h hB hW hg eF hF hc
  go_enter Try.func27, Try.ntmps27
  go_upto_region 1 with fail
  rw [← HW.out]
  go_upto_region 2 with (first | (go_at_call 44; refine HFo.out.mono ?_; rintro x w2 ⟨rfl, hb2⟩; have HB2 := hid hb2; (have HZx : Hid (Bx (w2.alloc (Obj.cells #[.int .u8 0, .int .u8 0, .int .u8 0, .int .u8 0, .int .u8 0, .int .u8 0, .int .u8 0, .int .u8 0, .int .u8 0, .int .u8 0, .int .u8 0, .int .u8 0, .int .u8 0, .int .u8 0, .int .u8 0, .int .u8 0, .int .u8 0, .int .u8 0, .int .u8 0, .int .u8 0, .int .u8 0, .int .u8 0, .int .u8 0, .int .u8 0] 95)) w2.heap.size (u8s zF)) := Bx.new w2 (u8s zF) _); (have HSt := hid (stFm (L := u8s F) (w := w2.alloc (Obj.cells #[.int .u8 0, .int .u8 0, .int .u8 0, .int .u8 0, .int .u8 0, .int .u8 0, .int .u8 0, .int .u8 0, .int .u8 0, .int .u8 0, .int .u8 0, .int .u8 0, .int .u8 0, .int .u8 0, .int .u8 0, .int .u8 0, .int .u8 0, .int .u8 0, .int .u8 0, .int .u8 0, .int .u8 0, .int .u8 0, .int .u8 0, .int .u8 0] 95)) (b := w2.heap.size) (o := 0) (by have := HZx.out.there; rwa [u8s_length, show zF.length = 24 from rfl] at this) (by rw [u8s_length]; exact HFl.out) (u8s_one F))); clear hb2) | ((with_reducible refine st_arm HSt.out ?_ ?_ ?_); (· rfl); (· rfl)))
  obtain ⟨V2, hV2⟩ : ∃ V, V = (w2.alloc (Obj.cells #[.int .u8 0, .int .u8 0, .int .u8 0, .int .u8 0, .int .u8 0, .int .u8 0, .int .u8 0, .int .u8 0, .int .u8 0, .int .u8 0, .int .u8 0, .int .u8 0, .int .u8 0, .int .u8 0, .int .u8 0, .int .u8 0, .int .u8 0, .int .u8 0, .int .u8 0, .int .u8 0, .int .u8 0, .int .u8 0, .int .u8 0, .int .u8 0] 95)).setCells w2.heap.size 0 (u8s F) := ⟨_, rfl⟩
  rw [← hV2]
  obtain ⟨kf, hkf⟩ : ∃ k, k = w2.heap.size := ⟨_, rfl⟩
  have HBv : Hid (Below w2.heap.size w2 V2) := by rw [hV2]; exact But.below (below1 _ _) (setCells_but (S := (· = w2.heap.size)) rfl (u8s F) 0 (But.refl _ _)) (fun k hk => by omega)
  have HXf : Hid (Bx V2 kf (u8s F)) := by rw [hkf, hV2]; exact HZx.out.set (by rw [u8s_length, u8s_length, HFl.out]; rfl)
  have HBw : Hid (Below w.heap.size w V2) := below_call HB.out (below_call HB2.out HBv.out)
  rw [← hkf]
  clear c4 c5 c6 hV2 hkf HZx HSt HB2 HBv HX0 HFo HW HB
  have HSA : Hid (∀ U, Below V2.heap.size V2 U → (U.rangeAt m.g 0 m.cells ∧ U.rangeAt kf 0 (u8s F))) := fun U hU => ⟨((HH.out.later HBw.out).bx.later hU).range, (HXf.out.later hU).range⟩
  go_upto_region 4 with fail
  refine wp_region_held_drew (S := (fun U : World => U.rangeAt m.g 0 m.cells ∧ U.rangeAt kf 0 (u8s F))) (by kernel_rfl) (HSA.out _ (Below.refl _ _).drew) (fun hHeld => ?_)
  refine wpAnyH_norm (l2 := #[false, false, false, false, false, false, false, false, false, false, false]) (f2 := 11) (by kernel_rfl) (by kernel_rfl) ?_
  refine wpAnyH_take (i := 0) (oi := _) (v := ?_) rfl (by kernel_rfl) (by kernel_rfl) (by kernel_rfl) (fun _ _ _ h => h) (Or.inl ⟨by rfl, ?_⟩) (by assumption) ?_
  rotate_left
  · (intro w hSw; (try dsimp only at hSw); go_simp; try with_reducible rfl)
  simp only [List.getElem_toArray, List.getElem_cons_succ, List.getElem_cons_zero, Act.put, List.setIfInBounds_toArray, List.set_cons_zero, List.set_cons_succ]
  refine wpAnyH_norm (l2 := #[true, false, false, false, false, false, false, false, false, false, false]) (f2 := 10) (by kernel_rfl) (by kernel_rfl) ?_
  refine wpAnyH_take (i := 1) (oi := _) (v := ?_) rfl (by kernel_rfl) (by kernel_rfl) (by kernel_rfl) (fun _ _ _ h => h) (Or.inl ⟨by rfl, ?_⟩) (by assumption) ?_
  rotate_left
  · (intro w hSw; (try dsimp only at hSw); go_simp; try with_reducible rfl)
  simp only [List.getElem_toArray, List.getElem_cons_succ, List.getElem_cons_zero, Act.put, List.setIfInBounds_toArray, List.set_cons_zero, List.set_cons_succ]
  refine wpAnyH_norm (l2 := #[true, true, false, false, false, false, false, false, false, false, false]) (f2 := 9) (by kernel_rfl) (by kernel_rfl) ?_
  refine wpAnyH_take (i := 2) (oi := _) (v := ?_) rfl (by kernel_rfl) (by kernel_rfl) (by kernel_rfl) (fun _ _ _ h => h) (Or.inl ⟨by rfl, ?_⟩) (by assumption) ?_
  rotate_left
  · (intro w hSw; (try dsimp only at hSw); go_simp; try with_reducible rfl)
  simp only [List.getElem_toArray, List.getElem_cons_succ, List.getElem_cons_zero, Act.put, List.setIfInBounds_toArray, List.set_cons_zero, List.set_cons_succ]
  refine wpAnyH_norm (l2 := #[true, true, true, false, false, false, false, false, false, false, false]) (f2 := 8) (by kernel_rfl) (by kernel_rfl) ?_
  refine wpAnyH_take (i := 3) (oi := _) (v := ?_) rfl (by kernel_rfl) (by kernel_rfl) (by kernel_rfl) (fun _ _ _ h => h) (Or.inl ⟨by rfl, ?_⟩) (by assumption) ?_
  rotate_left
  · (intro w hSw; have z1 := rg_at (j := 4) hSw.1 rfl; go_simp; try with_reducible rfl)
  simp only [List.getElem_toArray, List.getElem_cons_succ, List.getElem_cons_zero, Act.put, List.setIfInBounds_toArray, List.set_cons_zero, List.set_cons_succ]
  refine wpAnyH_norm (l2 := #[true, true, true, true, false, false, false, false, false, false, false]) (f2 := 7) (by kernel_rfl) (by kernel_rfl) ?_
  refine wpAnyH_take (i := 4) (oi := _) (v := ?_) rfl (by kernel_rfl) (by kernel_rfl) (by kernel_rfl) (fun _ _ _ h => h) (Or.inl ⟨by rfl, ?_⟩) (by assumption) ?_
  rotate_left
  · (intro w hSw; (try dsimp only at hSw); go_simp; try with_reducible rfl)
  simp only [List.getElem_toArray, List.getElem_cons_succ, List.getElem_cons_zero, Act.put, List.setIfInBounds_toArray, List.set_cons_zero, List.set_cons_succ]
  refine wpAnyH_norm (l2 := #[true, true, true, true, true, false, false, false, false, false, false]) (f2 := 6) (by kernel_rfl) (by kernel_rfl) ?_
  refine wpAnyH_take (i := 5) (oi := _) (v := fmV F) rfl (by kernel_rfl) (by kernel_rfl) (by kernel_rfl) (fun _ _ _ h => h) (Or.inl ⟨by rfl, ?_⟩) (by assumption) ?_
  · (intro w hSw; (try dsimp only at hSw); exact ex_ld rfl rfl (ldFm hSw.2 (by rw [u8s_length]; exact HFl.out)))
  simp only [List.getElem_toArray, List.getElem_cons_succ, List.getElem_cons_zero, Act.put, List.setIfInBounds_toArray, List.set_cons_zero, List.set_cons_succ]
  refine wpAnyH_norm (l2 := #[true, true, true, true, true, true, false, false, false, false, false]) (f2 := 5) (by kernel_rfl) (by kernel_rfl) ?_
  refine wpAnyH_ready (rs := [6]) (by kernel_rfl) (by simp) ?_
  refine AllReadyH.cons rfl (fun K hK => ?_) AllReadyH.nil
  go_simp
  go_wp2_with (first | (go_at_call 40; refine (HLo.out _ (below_call HBw.out (Below.refl _ _).drew)).mono ?_; rintro e w3 ⟨rfl, hb3⟩))
  have HB3 : Hid (Below V2.heap.size V2 w3) := below_call (Below.refl _ _).drew hb3
  clear hb3
  refine hK.out _ _ (HSA.out _ HB3.out) (fun hHeld => ?_)
  clear hK K
  simp only [List.getElem_toArray, List.getElem_cons_succ, List.getElem_cons_zero, Act.put, List.setIfInBounds_toArray, List.set_cons_zero, List.set_cons_succ]
  refine wpAnyH_norm (l2 := #[true, true, true, true, true, true, true, false, false, false, false]) (f2 := 4) (by kernel_rfl) (by kernel_rfl) ?_
  refine wpAnyH_take (i := 7) (oi := _) (v := ?_) rfl (by kernel_rfl) (by kernel_rfl) (by kernel_rfl) (fun _ _ _ h => h) (Or.inl ⟨by rfl, ?_⟩) (by assumption) ?_
  rotate_left
  · (intro w hSw; (try dsimp only at hSw); go_simp; try with_reducible rfl)
  simp only [List.getElem_toArray, List.getElem_cons_succ, List.getElem_cons_zero, Act.put, List.setIfInBounds_toArray, List.set_cons_zero, List.set_cons_succ]
  refine wpAnyH_norm (l2 := #[true, true, true, true, true, true, true, true, false, false, false]) (f2 := 3) (by kernel_rfl) (by kernel_rfl) ?_
  refine wpAnyH_take (i := 8) (oi := _) (v := ?_) rfl (by kernel_rfl) (by kernel_rfl) (by kernel_rfl) (fun _ _ _ h => h) (Or.inl ⟨by rfl, ?_⟩) (by assumption) ?_
  rotate_left
  · (intro w hSw; (try dsimp only at hSw); go_simp; try with_reducible rfl)
  simp only [List.getElem_toArray, List.getElem_cons_succ, List.getElem_cons_zero, Act.put, List.setIfInBounds_toArray, List.set_cons_zero, List.set_cons_succ]
  refine wpAnyH_norm (l2 := #[true, true, true, true, true, true, true, true, true, false, false]) (f2 := 2) (by kernel_rfl) (by kernel_rfl) ?_
  refine wpAnyH_take (i := 9) (oi := _) (v := ?_) rfl (by kernel_rfl) (by kernel_rfl) (by kernel_rfl) (fun _ _ _ h => h) (Or.inl ⟨by rfl, ?_⟩) (by assumption) ?_
  rotate_left
  · (intro w hSw; (try dsimp only at hSw); go_simp; try with_reducible rfl)
  simp only [List.getElem_toArray, List.getElem_cons_succ, List.getElem_cons_zero, Act.put, List.setIfInBounds_toArray, List.set_cons_zero, List.set_cons_succ]
  refine wpAnyH_norm (l2 := #[true, true, true, true, true, true, true, true, true, true, false]) (f2 := 1) (by kernel_rfl) (by kernel_rfl) ?_
  refine wpAnyH_take (i := 10) (oi := _) (v := ?_) rfl (by kernel_rfl) (by kernel_rfl) (by kernel_rfl) (fun _ _ _ h => h) (Or.inl ⟨by rfl, ?_⟩) (by assumption) ?_
  rotate_left
  · (intro w hSw; (try dsimp only at hSw); go_simp; try with_reducible rfl)
  simp only [List.getElem_toArray, List.getElem_cons_succ, List.getElem_cons_zero, Act.put, List.setIfInBounds_toArray, List.set_cons_zero, List.set_cons_succ]
  refine wpAnyH_norm (l2 := #[true, true, true, true, true, true, true, true, true, true, true]) (f2 := 0) (by kernel_rfl) (by kernel_rfl) ?_
  refine wpAnyH_done (by kernel_rfl) ?_ _
  go_wp2
  exact bodyPost_ret (v := .tuple #[rv, .bool rb]) (by simp [results, Try.results27, go_sem]) rfl ⟨rfl, below_call HBw.out HB3.out⟩
set_option maxRecDepth 100000 in
set_option maxHeartbeats 2000000 in
theorem told_any (m : Bm) (p : Int) (c : Cp) (r : Option Value) (w : World) (h : Bw w m) (hc : c.far) (hF : hasF c = true) (hp : I64 p) (hg : Gt m.T p (fmV (frm c)) r) :
    Calls Try.prog 16 #[.pointer (some ⟨m.g, 0, none⟩), .int .i64 p, capV c] w fun e w' => e = .returned (.bool r.isSome) ∧ Below w.heap.size w w' := by
  obtain ⟨W, hW⟩ : ∃ W, W = w.alloc (Obj.cells #[.int .i64 c.o, .int .u64 (c.h : Int), .int .u64 (c.l : Int)] 31) := ⟨_, rfl⟩
  have hB : Below w.heap.size w W := by rw [hW]; exact below1 _ _
  have HX0 : Hid (Bx W w.heap.size [.int .i64 c.o, .int .u64 (c.h : Int), .int .u64 (c.l : Int)]) := by rw [hW]; exact Bx.new w [.int .i64 c.o, .int .u64 (c.h : Int), .int .u64 (c.l : Int)] _
  have c4 := HX0.out.cell 0 rfl
  have c5 := HX0.out.cell 1 rfl
  have c6 := HX0.out.cell 2 rfl
  have HT := hid (telling_any m p c r W (h.later hB) hc hF hp hg)
  have HB := hid hB
  have HW := hid hW
  generalize r.getD (.pointer none) = rv at HT
  generalize r.isSome = rb at HT ⊢
  clear h hB hW hg hF hc
  go_enter Try.func16, Try.ntmps16
  go_upto_region 1 with fail
  rw [← HW.out]
  go_wp2_with (first | (go_at_call 27; refine HT.out.mono ?_; rintro e w2 ⟨rfl, hb2⟩; have HB2 := hid hb2; clear hb2))
  go_ret
  exact ⟨rfl, below_call HB.out HB2.out⟩
end Go.Proofs.Yticgammbjcdobaa
