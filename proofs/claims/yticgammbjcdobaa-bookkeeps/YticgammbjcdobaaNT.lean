import Derived.Test.YticgammbjcdobaaNS
namespace Go.Proofs.Yticgammbjcdobaa
open Go.RowKit
set_option linter.unusedVariables false
set_option linter.unusedSimpArgs false
set_option maxRecDepth 100000 in
set_option maxHeartbeats 4000000 in
/-- Note of an add, whatever the list's append does. -/
theorem note_add (m : Bm) (C : List Value) (by_ nu : Int) (c c2 : Cp) (d : Sl) (w : World) (h : Bw w m) (hC : C.length = 13) (h0 : C[0]? = some (.int .i64 7)) (h1 : C[1]? = some (.int .i64 by_)) (h3 : C[3]? = some (.int .i64 c.o)) (h4 : C[4]? = some (.int .u64 (c.h : Int))) (h5 : C[5]? = some (.int .u64 (c.l : Int))) (hnn : 0 ≤ m.n ∧ m.n < 4611686018427387904) (S2 : Nat → Prop) (Q : World → Prop) (hS2 : ∀ j, S2 j → j < w.heap.size ∧ j ≠ m.g)
    (hn : ∀ (U : World), w.heap.size ≤ U.heap.size → But (· = m.g) w U → Bw U { m with n := m.n + 1 } → ∃ v0 v7 w7 w8, (∀ U', Below U.heap.size U U' → (Instr.lookup 61 (.map (some m.bi)) (.int .i64 by_) false).run Try.prog U' = .ok v0 U') ∧ (Builtin.append_ #[26, 26] 26 #[v0, .slice (some ⟨U.heap.size, 0, none⟩) 1 1]).run Try.prog (U.alloc (Obj.cells #[.int .i64 c.o, .int .u64 (c.h : Int), .int .u64 (c.l : Int)] 31)) = .ok v7 w7 ∧ (Instr.mapUpdate 61 (.map (some m.bi)) (.int .i64 by_) v7).run Try.prog w7 = .ok () w8 ∧ Q w8 ∧ But S2 U w8 ∧ But S2 U w7) :
    Calls Try.prog 7 #[.pointer (some ⟨m.g, 0, none⟩), .agg C.toArray, rpV 0 c2 d nu] w fun e w' => e = .returned (.tuple #[]) ∧ Q w' := by
  obtain ⟨o, ch, cl⟩ := c
  obtain ⟨o2, ch2, cl2⟩ := c2
  obtain ⟨W, hW⟩ : ∃ W, W = (w.alloc (Obj.cells C.toArray 36)).alloc (Obj.cells #[.int .i64 0, .int .i64 o2, .int .u64 (ch2 : Int), .int .u64 (cl2 : Int), .slice d.a d.n d.c, .int .i64 nu] 39) := ⟨_, rfl⟩
  have hB : Below w.heap.size w W := by rw [hW]; exact below2 _ _ _
  have HX0 : Hid (Bx W w.heap.size C) := by rw [hW]; exact (Bx.new w C _).later (below1 _ _)
  have HX1 : Hid (Bx W (w.heap.size + 1) (rpL 0 ⟨o2, ch2, cl2⟩ d nu)) := by rw [hW]; have := Bx.new (w.alloc (Obj.cells C.toArray 36)) (rpL 0 ⟨o2, ch2, cl2⟩ d nu) 39; simp at this; exact this
  have hBW := h.later hB
  have q0 := hBW.bx.cell 0 rfl
  have q0f : W.frozen? ⟨m.g, 0, none⟩ = false := by have := (hBW.bx.there 0 (by simp)).2; rwa [Nat.zero_add] at this
  have ew : IntKind.i64.wrap (m.n + 1) = m.n + 1 := by rw [IntKind.wrap_i64]; omega
  have hgl := h.lo m.g (by simp [Bm.blks])
  have HBW := hid hBW
  have HB := hid hB
  have HW := hid hW
  have H0 := hid h0
  have H1 := hid h1
  have H3 := hid h3
  have H4 := hid h4
  have H5 := hid h5
  have HCn := hid hC
  have HN := hid hn
  have HS2 := hid hS2
  clear hBW h hB hW hn h0 h1 hC h3 h4 h5 hS2
  go_enter Try.func7, Try.ntmps7
  go_upto_region 1 with fail
  rw [← HW.out]
  go_upto_region 2 with fail
  obtain ⟨U, hU⟩ : ∃ U, U = W.setCell ⟨m.g, 0, none⟩ (.int .i64 (m.n + 1)) := ⟨_, rfl⟩
  rw [← hU]
  have HBu : Hid (But (· = m.g) W U) := by rw [hU]; exact (But.refl (· = m.g) W).setCell (p := ⟨m.g, 0, none⟩) rfl _
  have HBm : Hid (Bw U { m with n := m.n + 1 }) := by rw [hU]; exact HBW.out.step _
  have HY := hid (HX1.out.but HBu.out (by omega))
  have HX := hid (HX0.out.but HBu.out (by omega))
  clear q0 q0f hU
  have y0 := HY.out.cell 0 rfl
  have x0 := HX.out.cell 0 H0.out
  obtain ⟨v0, v7, w7, w8, l0, r7, r8, hQ, b8, b7⟩ := HN.out U.drew (Nat.le_trans HB.out.size HBu.out.size) (((But.of HB.out).trans HBu.out).trans (But.of (Below.refl _ _).drew)) (HBm.out.later (Below.refl _ _).drew)
  have HL0 := hid l0
  have HR7 := hid r7
  have HR8 := hid r8
  have HQ := hid hQ
  have HB8 := hid b8
  have HB7 := hid b7
  have HS6 : Hid (∀ V, But S2 U.drew V → (V.rangeAt m.g 0 [.int .i64 (m.n + 1), .map (some m.bl), .map (some m.bi), .map (some m.ba), .map (some m.bt), .map (some m.bk)] ∧ V.rangeAt w.heap.size 0 C)) := fun V hV => ⟨((HBm.out.bx.later (Below.refl _ _).drew).but hV (fun hj => (HS2.out _ hj).2 rfl)).range, ((HX.out.later (Below.refl _ _).drew).but hV (fun hj => by have := (HS2.out _ hj).1; omega)).range⟩
  clear l0 r7 r8 hQ b8 b7 HN
  go_upto_region 17 with fail
  refine wp_region_held_drew (S := (fun U : World => U.rangeAt m.g 0 [.int .i64 (m.n + 1), .map (some m.bl), .map (some m.bi), .map (some m.ba), .map (some m.bt), .map (some m.bk)] ∧ U.rangeAt w.heap.size 0 C)) (by kernel_rfl) (HS6.out _ (But.refl _ _)) (fun hHeld => ?_)
  refine wpAnyH_norm (l2 := #[false, false, false, false, false, false, false, false, false, false, false, false, false, false, false, false, false, false]) (f2 := 18) (by kernel_rfl) (by kernel_rfl) ?_
  refine wpAnyH_take (i := 0) (oi := _) (v := ?_) rfl (by kernel_rfl) (by kernel_rfl) (by kernel_rfl) (fun _ _ _ h => h) (Or.inl ⟨by rfl, ?_⟩) (by assumption) ?_
  rotate_left
  · (intro w hSw; (try dsimp only at hSw); go_simp; try with_reducible rfl)
  simp only [List.getElem_toArray, List.getElem_cons_succ, List.getElem_cons_zero, Act.put, List.setIfInBounds_toArray, List.set_cons_zero, List.set_cons_succ]
  refine wpAnyH_norm (l2 := #[true, false, false, false, false, false, false, false, false, false, false, false, false, false, false, false, false, false]) (f2 := 17) (by kernel_rfl) (by kernel_rfl) ?_
  refine wpAnyH_take (i := 1) (oi := _) (v := ?_) rfl (by kernel_rfl) (by kernel_rfl) (by kernel_rfl) (fun _ _ _ h => h) (Or.inl ⟨by rfl, ?_⟩) (by assumption) ?_
  rotate_left
  · (intro w hSw; (try dsimp only at hSw); go_simp; try with_reducible rfl)
  simp only [List.getElem_toArray, List.getElem_cons_succ, List.getElem_cons_zero, Act.put, List.setIfInBounds_toArray, List.set_cons_zero, List.set_cons_succ]
  refine wpAnyH_norm (l2 := #[true, true, false, false, false, false, false, false, false, false, false, false, false, false, false, false, false, false]) (f2 := 16) (by kernel_rfl) (by kernel_rfl) ?_
  refine wpAnyH_take (i := 2) (oi := _) (v := ?_) rfl (by kernel_rfl) (by kernel_rfl) (by kernel_rfl) (fun _ _ _ h => h) (Or.inl ⟨by rfl, ?_⟩) (by assumption) ?_
  rotate_left
  · (intro w hSw; (try dsimp only at hSw); go_simp; try with_reducible rfl)
  simp only [List.getElem_toArray, List.getElem_cons_succ, List.getElem_cons_zero, Act.put, List.setIfInBounds_toArray, List.set_cons_zero, List.set_cons_succ]
  refine wpAnyH_norm (l2 := #[true, true, true, false, false, false, false, false, false, false, false, false, false, false, false, false, false, false]) (f2 := 15) (by kernel_rfl) (by kernel_rfl) ?_
  refine wpAnyH_take (i := 3) (oi := _) (v := ?_) rfl (by kernel_rfl) (by kernel_rfl) (by kernel_rfl) (fun _ _ _ h => h) (Or.inl ⟨by rfl, ?_⟩) (by assumption) ?_
  rotate_left
  · (intro w hSw; have z1 := rg_at (j := 2) hSw.1 rfl; go_simp; try with_reducible rfl)
  simp only [List.getElem_toArray, List.getElem_cons_succ, List.getElem_cons_zero, Act.put, List.setIfInBounds_toArray, List.set_cons_zero, List.set_cons_succ]
  refine wpAnyH_norm (l2 := #[true, true, true, true, false, false, false, false, false, false, false, false, false, false, false, false, false, false]) (f2 := 14) (by kernel_rfl) (by kernel_rfl) ?_
  refine wpAnyH_take (i := 4) (oi := _) (v := ?_) rfl (by kernel_rfl) (by kernel_rfl) (by kernel_rfl) (fun _ _ _ h => h) (Or.inl ⟨by rfl, ?_⟩) (by assumption) ?_
  rotate_left
  · (intro w hSw; (try dsimp only at hSw); go_simp; try with_reducible rfl)
  simp only [List.getElem_toArray, List.getElem_cons_succ, List.getElem_cons_zero, Act.put, List.setIfInBounds_toArray, List.set_cons_zero, List.set_cons_succ]
  refine wpAnyH_norm (l2 := #[true, true, true, true, true, false, false, false, false, false, false, false, false, false, false, false, false, false]) (f2 := 13) (by kernel_rfl) (by kernel_rfl) ?_
  refine wpAnyH_take (i := 5) (oi := _) (v := ?_) rfl (by kernel_rfl) (by kernel_rfl) (by kernel_rfl) (fun _ _ _ h => h) (Or.inl ⟨by rfl, ?_⟩) (by assumption) ?_
  rotate_left
  · (intro w hSw; have z0 := rg_at (j := 1) hSw.2 H1.out; go_simp; try with_reducible rfl)
  simp only [List.getElem_toArray, List.getElem_cons_succ, List.getElem_cons_zero, Act.put, List.setIfInBounds_toArray, List.set_cons_zero, List.set_cons_succ]
  refine wpAnyH_norm (l2 := #[true, true, true, true, true, true, false, false, false, false, false, false, false, false, false, false, false, false]) (f2 := 12) (by kernel_rfl) (by kernel_rfl) ?_
  refine wpAnyH_take (i := 6) (oi := _) (v := ?_) rfl (by kernel_rfl) (by kernel_rfl) (by kernel_rfl) (fun _ _ _ h => h) (Or.inl ⟨by rfl, ?_⟩) (by assumption) ?_
  rotate_left
  · (intro w hSw; (try dsimp only at hSw); go_simp; try with_reducible rfl)
  simp only [List.getElem_toArray, List.getElem_cons_succ, List.getElem_cons_zero, Act.put, List.setIfInBounds_toArray, List.set_cons_zero, List.set_cons_succ]
  refine wpAnyH_norm (l2 := #[true, true, true, true, true, true, true, false, false, false, false, false, false, false, false, false, false, false]) (f2 := 11) (by kernel_rfl) (by kernel_rfl) ?_
  refine wpAnyH_take (i := 7) (oi := _) (v := ?_) rfl (by kernel_rfl) (by kernel_rfl) (by kernel_rfl) (fun _ _ _ h => h) (Or.inl ⟨by rfl, ?_⟩) (by assumption) ?_
  rotate_left
  · (intro w hSw; (try dsimp only at hSw); go_simp; try with_reducible rfl)
  simp only [List.getElem_toArray, List.getElem_cons_succ, List.getElem_cons_zero, Act.put, List.setIfInBounds_toArray, List.set_cons_zero, List.set_cons_succ]
  refine wpAnyH_norm (l2 := #[true, true, true, true, true, true, true, true, false, false, false, false, false, false, false, false, false, false]) (f2 := 10) (by kernel_rfl) (by kernel_rfl) ?_
  refine wpAnyH_take (i := 8) (oi := _) (v := ?_) rfl (by kernel_rfl) (by kernel_rfl) (by kernel_rfl) (fun _ _ _ h => h) (Or.inl ⟨by rfl, ?_⟩) (by assumption) ?_
  rotate_left
  · (intro w hSw; (try dsimp only at hSw); go_simp; try with_reducible rfl)
  simp only [List.getElem_toArray, List.getElem_cons_succ, List.getElem_cons_zero, Act.put, List.setIfInBounds_toArray, List.set_cons_zero, List.set_cons_succ]
  refine wpAnyH_norm (l2 := #[true, true, true, true, true, true, true, true, true, false, false, false, false, false, false, false, false, false]) (f2 := 9) (by kernel_rfl) (by kernel_rfl) ?_
  refine wpAnyH_take (i := 9) (oi := _) (v := ?_) rfl (by kernel_rfl) (by kernel_rfl) (by kernel_rfl) (fun _ _ _ h => h) (Or.inl ⟨by rfl, ?_⟩) (by assumption) ?_
  rotate_left
  · (intro w hSw; have z1 := rg_at (j := 2) hSw.1 rfl; go_simp; try with_reducible rfl)
  simp only [List.getElem_toArray, List.getElem_cons_succ, List.getElem_cons_zero, Act.put, List.setIfInBounds_toArray, List.set_cons_zero, List.set_cons_succ]
  refine wpAnyH_norm (l2 := #[true, true, true, true, true, true, true, true, true, true, false, false, false, false, false, false, false, false]) (f2 := 8) (by kernel_rfl) (by kernel_rfl) ?_
  refine wpAnyH_take (i := 10) (oi := _) (v := ?_) rfl (by kernel_rfl) (by kernel_rfl) (by kernel_rfl) (fun _ _ _ h => h) (Or.inl ⟨by rfl, ?_⟩) (by assumption) ?_
  rotate_left
  · (intro w hSw; (try dsimp only at hSw); go_simp; try with_reducible rfl)
  simp only [List.getElem_toArray, List.getElem_cons_succ, List.getElem_cons_zero, Act.put, List.setIfInBounds_toArray, List.set_cons_zero, List.set_cons_succ]
  refine wpAnyH_norm (l2 := #[true, true, true, true, true, true, true, true, true, true, true, false, false, false, false, false, false, false]) (f2 := 7) (by kernel_rfl) (by kernel_rfl) ?_
  refine wpAnyH_take (i := 11) (oi := _) (v := ?_) rfl (by kernel_rfl) (by kernel_rfl) (by kernel_rfl) (fun _ _ _ h => h) (Or.inl ⟨by rfl, ?_⟩) (by assumption) ?_
  rotate_left
  · (intro w hSw; have z0 := rg_at (j := 1) hSw.2 H1.out; go_simp; try with_reducible rfl)
  simp only [List.getElem_toArray, List.getElem_cons_succ, List.getElem_cons_zero, Act.put, List.setIfInBounds_toArray, List.set_cons_zero, List.set_cons_succ]
  refine wpAnyH_norm (l2 := #[true, true, true, true, true, true, true, true, true, true, true, true, false, false, false, false, false, false]) (f2 := 6) (by kernel_rfl) (by kernel_rfl) ?_
  refine wpAnyH_take (i := 13) (oi := _) (v := ?_) rfl (by kernel_rfl) (by kernel_rfl) (by kernel_rfl) (fun _ _ _ h => h) (Or.inl ⟨by rfl, ?_⟩) (by assumption) ?_
  rotate_left
  · (intro w hSw; (try dsimp only at hSw); go_simp; try with_reducible rfl)
  simp only [List.getElem_toArray, List.getElem_cons_succ, List.getElem_cons_zero, Act.put, List.setIfInBounds_toArray, List.set_cons_zero, List.set_cons_succ]
  refine wpAnyH_norm (l2 := #[true, true, true, true, true, true, true, true, true, true, true, true, false, true, false, false, false, false]) (f2 := 5) (by kernel_rfl) (by kernel_rfl) ?_
  refine wpAnyH_take (i := 14) (oi := _) (v := ?_) rfl (by kernel_rfl) (by kernel_rfl) (by kernel_rfl) (fun _ _ _ h => h) (Or.inl ⟨by rfl, ?_⟩) (by assumption) ?_
  rotate_left
  · (intro w hSw; have z4 := rg_at (j := 3) hSw.2 H3.out; have z5 := rg_at (j := 4) hSw.2 H4.out; have z6 := rg_at (j := 5) hSw.2 H5.out; go_simp; try with_reducible rfl)
  simp only [List.getElem_toArray, List.getElem_cons_succ, List.getElem_cons_zero, Act.put, List.setIfInBounds_toArray, List.set_cons_zero, List.set_cons_succ]
  refine wpAnyH_norm (l2 := #[true, true, true, true, true, true, true, true, true, true, true, true, false, true, true, false, false, false]) (f2 := 4) (by kernel_rfl) (by kernel_rfl) ?_
  refine wpAnyH_ready (rs := [12, 15]) (by kernel_rfl) (by simp) ?_
  refine AllReadyH.cons rfl (fun K hK => ?_) ?_
  · refine wp_lk rfl rfl rfl (HL0.out _ (Below.refl _ _)) ?_
    refine hK.out _ _ (HS6.out _ (But.refl _ _)) (fun hHeld => ?_)
    clear hK K
    simp only [List.getElem_toArray, List.getElem_cons_succ, List.getElem_cons_zero, Act.put, List.setIfInBounds_toArray, List.set_cons_zero, List.set_cons_succ]
    refine wpAnyH_norm (l2 := #[true, true, true, true, true, true, true, true, true, true, true, true, true, true, true, false, false, false]) (f2 := 3) (by kernel_rfl) (by kernel_rfl) ?_
    refine wpAnyH_ready (rs := [15]) (by kernel_rfl) (by simp) ?_
    refine AllReadyH.cons rfl (fun K hK => ?_) AllReadyH.nil
    go_simp
    rw [al_drew]
    refine hK.out _ _ (HS6.out _ (But.of (below1 _ _))) (fun hHeld => ?_)
    clear hK K
    simp only [List.getElem_toArray, List.getElem_cons_succ, List.getElem_cons_zero, Act.put, List.setIfInBounds_toArray, List.set_cons_zero, List.set_cons_succ]
    refine wpAnyH_norm (l2 := #[true, true, true, true, true, true, true, true, true, true, true, true, true, true, true, true, false, false]) (f2 := 2) (by kernel_rfl) (by kernel_rfl) ?_
    refine wpAnyH_ready (rs := [16]) (by kernel_rfl) (by simp) ?_
    refine AllReadyH.cons rfl (fun K hK => ?_) AllReadyH.nil
    refine wp_append_known (.tmp 68) (.tmp 71) 26 rfl _ _ rfl rfl _ w7 HR7.out ?_
    refine hK.out _ _ (HS6.out _ HB7.out) (fun hHeld => ?_)
    clear hK K
    simp only [List.getElem_toArray, List.getElem_cons_succ, List.getElem_cons_zero, Act.put, List.setIfInBounds_toArray, List.set_cons_zero, List.set_cons_succ]
    refine wpAnyH_norm (l2 := #[true, true, true, true, true, true, true, true, true, true, true, true, true, true, true, true, true, false]) (f2 := 1) (by kernel_rfl) (by kernel_rfl) ?_
    refine wpAnyH_ready (rs := [17]) (by kernel_rfl) (by simp) ?_
    refine AllReadyH.cons rfl (fun K hK => ?_) AllReadyH.nil
    refine wp_upd rfl rfl rfl rfl HR8.out ?_
    refine hK.out _ _ (HS6.out _ HB8.out) (fun hHeld => ?_)
    clear hK K
    simp only [List.getElem_toArray, List.getElem_cons_succ, List.getElem_cons_zero, Act.put, List.setIfInBounds_toArray, List.set_cons_zero, List.set_cons_succ]
    refine wpAnyH_norm (l2 := #[true, true, true, true, true, true, true, true, true, true, true, true, true, true, true, true, true, true]) (f2 := 0) (by kernel_rfl) (by kernel_rfl) ?_
    refine wpAnyH_done (by kernel_rfl) ?_ _
    go_wp2
    exact bodyPost_end (v := .tuple #[]) (by simp [results, Try.results7, go_sem]) rfl ⟨rfl, HQ.out⟩
  refine AllReadyH.cons rfl (fun K hK => ?_) AllReadyH.nil
  go_simp
  rw [al_drew]
  refine hK.out _ _ (HS6.out _ (But.of (below1 _ _))) (fun hHeld => ?_)
  clear hK K
  simp only [List.getElem_toArray, List.getElem_cons_succ, List.getElem_cons_zero, Act.put, List.setIfInBounds_toArray, List.set_cons_zero, List.set_cons_succ]
  refine wpAnyH_norm (l2 := #[true, true, true, true, true, true, true, true, true, true, true, true, false, true, true, true, false, false]) (f2 := 3) (by kernel_rfl) (by kernel_rfl) ?_
  refine wpAnyH_ready (rs := [12]) (by kernel_rfl) (by simp) ?_
  refine AllReadyH.cons rfl (fun K hK => ?_) AllReadyH.nil
  refine wp_lk rfl rfl rfl (HL0.out _ (below1 _ _)) ?_
  refine hK.out _ _ (HS6.out _ (But.of (below1 _ _))) (fun hHeld => ?_)
  clear hK K
  simp only [List.getElem_toArray, List.getElem_cons_succ, List.getElem_cons_zero, Act.put, List.setIfInBounds_toArray, List.set_cons_zero, List.set_cons_succ]
  refine wpAnyH_norm (l2 := #[true, true, true, true, true, true, true, true, true, true, true, true, true, true, true, true, false, false]) (f2 := 2) (by kernel_rfl) (by kernel_rfl) ?_
  refine wpAnyH_ready (rs := [16]) (by kernel_rfl) (by simp) ?_
  refine AllReadyH.cons rfl (fun K hK => ?_) AllReadyH.nil
  refine wp_append_known (.tmp 68) (.tmp 71) 26 rfl _ _ rfl rfl _ w7 HR7.out ?_
  refine hK.out _ _ (HS6.out _ HB7.out) (fun hHeld => ?_)
  clear hK K
  simp only [List.getElem_toArray, List.getElem_cons_succ, List.getElem_cons_zero, Act.put, List.setIfInBounds_toArray, List.set_cons_zero, List.set_cons_succ]
  refine wpAnyH_norm (l2 := #[true, true, true, true, true, true, true, true, true, true, true, true, true, true, true, true, true, false]) (f2 := 1) (by kernel_rfl) (by kernel_rfl) ?_
  refine wpAnyH_ready (rs := [17]) (by kernel_rfl) (by simp) ?_
  refine AllReadyH.cons rfl (fun K hK => ?_) AllReadyH.nil
  refine wp_upd rfl rfl rfl rfl HR8.out ?_
  refine hK.out _ _ (HS6.out _ HB8.out) (fun hHeld => ?_)
  clear hK K
  simp only [List.getElem_toArray, List.getElem_cons_succ, List.getElem_cons_zero, Act.put, List.setIfInBounds_toArray, List.set_cons_zero, List.set_cons_succ]
  refine wpAnyH_norm (l2 := #[true, true, true, true, true, true, true, true, true, true, true, true, true, true, true, true, true, true]) (f2 := 0) (by kernel_rfl) (by kernel_rfl) ?_
  refine wpAnyH_done (by kernel_rfl) ?_ _
  go_wp2
  exact bodyPost_end (v := .tuple #[]) (by simp [results, Try.results7, go_sem]) rfl ⟨rfl, HQ.out⟩
end Go.Proofs.Yticgammbjcdobaa
