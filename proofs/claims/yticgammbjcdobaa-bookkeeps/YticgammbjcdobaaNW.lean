import Derived.Test.YticgammbjcdobaaNV
namespace Go.Proofs.Yticgammbjcdobaa
open Go.RowKit
set_option linter.unusedVariables false
set_option linter.unusedSimpArgs false
set_option maxRecDepth 100000 in
set_option maxHeartbeats 4000000 in
theorem rights_any (m : Bm) (c : Cp) (t : Tn) (ok : Bool) (w : World) (h : Bw w m) (hc : c.far) (hr : gtT m.L c.o c.h c.l t ok) :
    Calls Try.prog 15 #[.pointer (some ⟨m.g, 0, none⟩), capV c] w fun e w' => e = .returned (.tuple #[.int .i64 t.r, .bool ok]) ∧ Below w.heap.size w w' := by
  obtain ⟨o, ch, cl⟩ := c
  obtain ⟨W, hW⟩ : ∃ W, W = w.alloc (Obj.cells #[.int .i64 o, .int .u64 (ch : Int), .int .u64 (cl : Int)] 31) := ⟨_, rfl⟩
  have hB : Below w.heap.size w W := by rw [hW]; exact below1 _ _
  have hBW := h.later hB
  have HX0 : Hid (Bx W w.heap.size [.int .i64 o, .int .u64 (ch : Int), .int .u64 (cl : Int)]) := by rw [hW]; exact Bx.new w [.int .i64 o, .int .u64 (ch : Int), .int .u64 (cl : Int)] _
  have HLo : Hid (∀ U, Below W.heap.size W U → Calls Try.prog 32 #[.map (some m.bl), .int .i64 o, wdV ch cl] U fun e w' => e = .returned (.tuple #[t.v, .bool ok]) ∧ Below U.heap.size U w') := fun U hU => lookW_any m.bl m.L o ch cl t ok U (hBW.live.later hU) hc.1 hc.2.1 hc.2.2 hr
  have HS : Hid (∀ U, Below W.heap.size W U → (U.rangeAt m.g 0 m.cells ∧ U.rangeAt w.heap.size 0 [.int .i64 o, .int .u64 (ch : Int), .int .u64 (cl : Int)])) := fun U hU => ⟨(hBW.bx.later hU).range, (HX0.out.later hU).range⟩
  have HB := hid hB
  have HW := hid hW
  have HO1 := hid t.one
  have ht6 : t.L.length = 6 := rfl
  obtain ⟨th, tl, tph, tpl, tr, ts⟩ := t
  clear h hB hW hBW hc hr ht6
  simp only at HLo HO1 ⊢
  go_enter Try.func15, Try.ntmps15
  go_upto_region 1 with fail
  rw [← HW.out]
  refine wp_region_held_drew (S := (fun U : World => U.rangeAt m.g 0 m.cells ∧ U.rangeAt w.heap.size 0 [.int .i64 o, .int .u64 (ch : Int), .int .u64 (cl : Int)])) (by kernel_rfl) (HS.out _ (Below.refl _ _).drew) (fun hHeld => ?_)
  refine wpAnyH_norm (l2 := #[false, false, false, false, false, false, false, false, false, false, false, false, false, false, false]) (f2 := 15) (by kernel_rfl) (by kernel_rfl) ?_
  refine wpAnyH_take (i := 0) (oi := _) (v := ?_) rfl (by kernel_rfl) (by kernel_rfl) (by kernel_rfl) (fun _ _ _ h => h) (Or.inl ⟨by rfl, ?_⟩) (by assumption) ?_
  rotate_left
  · (intro w hSw; (try dsimp only at hSw); go_simp; try with_reducible rfl)
  simp only [List.getElem_toArray, List.getElem_cons_succ, List.getElem_cons_zero, Act.put, List.setIfInBounds_toArray, List.set_cons_zero, List.set_cons_succ]
  refine wpAnyH_norm (l2 := #[true, false, false, false, false, false, false, false, false, false, false, false, false, false, false]) (f2 := 14) (by kernel_rfl) (by kernel_rfl) ?_
  refine wpAnyH_take (i := 1) (oi := _) (v := ?_) rfl (by kernel_rfl) (by kernel_rfl) (by kernel_rfl) (fun _ _ _ h => h) (Or.inl ⟨by rfl, ?_⟩) (by assumption) ?_
  rotate_left
  · (intro w hSw; (try dsimp only at hSw); go_simp; try with_reducible rfl)
  simp only [List.getElem_toArray, List.getElem_cons_succ, List.getElem_cons_zero, Act.put, List.setIfInBounds_toArray, List.set_cons_zero, List.set_cons_succ]
  refine wpAnyH_norm (l2 := #[true, true, false, false, false, false, false, false, false, false, false, false, false, false, false]) (f2 := 13) (by kernel_rfl) (by kernel_rfl) ?_
  refine wpAnyH_take (i := 2) (oi := _) (v := ?_) rfl (by kernel_rfl) (by kernel_rfl) (by kernel_rfl) (fun _ _ _ h => h) (Or.inl ⟨by rfl, ?_⟩) (by assumption) ?_
  rotate_left
  · (intro w hSw; (try dsimp only at hSw); go_simp; try with_reducible rfl)
  simp only [List.getElem_toArray, List.getElem_cons_succ, List.getElem_cons_zero, Act.put, List.setIfInBounds_toArray, List.set_cons_zero, List.set_cons_succ]
  refine wpAnyH_norm (l2 := #[true, true, true, false, false, false, false, false, false, false, false, false, false, false, false]) (f2 := 12) (by kernel_rfl) (by kernel_rfl) ?_
  refine wpAnyH_take (i := 3) (oi := _) (v := ?_) rfl (by kernel_rfl) (by kernel_rfl) (by kernel_rfl) (fun _ _ _ h => h) (Or.inl ⟨by rfl, ?_⟩) (by assumption) ?_
  rotate_left
  · (intro w hSw; have z1 := rg_at (j := 1) hSw.1 rfl; go_simp; try with_reducible rfl)
  simp only [List.getElem_toArray, List.getElem_cons_succ, List.getElem_cons_zero, Act.put, List.setIfInBounds_toArray, List.set_cons_zero, List.set_cons_succ]
  refine wpAnyH_norm (l2 := #[true, true, true, true, false, false, false, false, false, false, false, false, false, false, false]) (f2 := 11) (by kernel_rfl) (by kernel_rfl) ?_
  refine wpAnyH_take (i := 4) (oi := _) (v := ?_) rfl (by kernel_rfl) (by kernel_rfl) (by kernel_rfl) (fun _ _ _ h => h) (Or.inl ⟨by rfl, ?_⟩) (by assumption) ?_
  rotate_left
  · (intro w hSw; (try dsimp only at hSw); go_simp; try with_reducible rfl)
  simp only [List.getElem_toArray, List.getElem_cons_succ, List.getElem_cons_zero, Act.put, List.setIfInBounds_toArray, List.set_cons_zero, List.set_cons_succ]
  refine wpAnyH_norm (l2 := #[true, true, true, true, true, false, false, false, false, false, false, false, false, false, false]) (f2 := 10) (by kernel_rfl) (by kernel_rfl) ?_
  refine wpAnyH_take (i := 5) (oi := _) (v := ?_) rfl (by kernel_rfl) (by kernel_rfl) (by kernel_rfl) (fun _ _ _ h => h) (Or.inl ⟨by rfl, ?_⟩) (by assumption) ?_
  rotate_left
  · (intro w hSw; have z0 := rg_at (j := 0) hSw.2 rfl; go_simp; try with_reducible rfl)
  simp only [List.getElem_toArray, List.getElem_cons_succ, List.getElem_cons_zero, Act.put, List.setIfInBounds_toArray, List.set_cons_zero, List.set_cons_succ]
  refine wpAnyH_norm (l2 := #[true, true, true, true, true, true, false, false, false, false, false, false, false, false, false]) (f2 := 9) (by kernel_rfl) (by kernel_rfl) ?_
  refine wpAnyH_take (i := 6) (oi := _) (v := ?_) rfl (by kernel_rfl) (by kernel_rfl) (by kernel_rfl) (fun _ _ _ h => h) (Or.inl ⟨by rfl, ?_⟩) (by assumption) ?_
  rotate_left
  · (intro w hSw; (try dsimp only at hSw); go_simp; try with_reducible rfl)
  simp only [List.getElem_toArray, List.getElem_cons_succ, List.getElem_cons_zero, Act.put, List.setIfInBounds_toArray, List.set_cons_zero, List.set_cons_succ]
  refine wpAnyH_norm (l2 := #[true, true, true, true, true, true, true, false, false, false, false, false, false, false, false]) (f2 := 8) (by kernel_rfl) (by kernel_rfl) ?_
  refine wpAnyH_take (i := 7) (oi := _) (v := ?_) rfl (by kernel_rfl) (by kernel_rfl) (by kernel_rfl) (fun _ _ _ h => h) (Or.inl ⟨by rfl, ?_⟩) (by assumption) ?_
  rotate_left
  · (intro w hSw; have z1 := rg_at (j := 1) hSw.2 rfl; have z2 := rg_at (j := 2) hSw.2 rfl; go_simp; try with_reducible rfl)
  simp only [List.getElem_toArray, List.getElem_cons_succ, List.getElem_cons_zero, Act.put, List.setIfInBounds_toArray, List.set_cons_zero, List.set_cons_succ]
  refine wpAnyH_norm (l2 := #[true, true, true, true, true, true, true, true, false, false, false, false, false, false, false]) (f2 := 7) (by kernel_rfl) (by kernel_rfl) ?_
  refine wpAnyH_ready (rs := [8, 12]) (by kernel_rfl) (by simp) ?_
  refine AllReadyH.cons rfl (fun K hK => ?_) ?_
  · go_simp
    go_wp2_with (first | (go_at_call 32; refine (HLo.out _ ((Below.refl _ _).drew)).mono ?_; rintro e w3 ⟨rfl, hb3⟩))
    have HB3 : Hid (Below W.heap.size W w3) := below_call (Below.refl _ _).drew hb3
    clear hb3
    refine hK.out _ _ (HS.out _ HB3.out) (fun hHeld => ?_)
    clear hK K
    simp only [List.getElem_toArray, List.getElem_cons_succ, List.getElem_cons_zero, Act.put, List.setIfInBounds_toArray, List.set_cons_zero, List.set_cons_succ]
    refine wpAnyH_norm (l2 := #[true, true, true, true, true, true, true, true, true, false, false, false, false, false, false]) (f2 := 6) (by kernel_rfl) (by kernel_rfl) ?_
    refine wpAnyH_take (i := 9) (oi := _) (v := ?_) rfl (by kernel_rfl) (by kernel_rfl) (by kernel_rfl) (fun _ _ _ h => h) (Or.inl ⟨by rfl, ?_⟩) (by assumption) ?_
    rotate_left
    · (intro w hSw; (try dsimp only at hSw); go_simp; try with_reducible rfl)
    simp only [List.getElem_toArray, List.getElem_cons_succ, List.getElem_cons_zero, Act.put, List.setIfInBounds_toArray, List.set_cons_zero, List.set_cons_succ]
    refine wpAnyH_norm (l2 := #[true, true, true, true, true, true, true, true, true, true, false, false, false, false, false]) (f2 := 5) (by kernel_rfl) (by kernel_rfl) ?_
    refine wpAnyH_take (i := 10) (oi := _) (v := ?_) rfl (by kernel_rfl) (by kernel_rfl) (by kernel_rfl) (fun _ _ _ h => h) (Or.inl ⟨by rfl, ?_⟩) (by assumption) ?_
    rotate_left
    · (intro w hSw; (try dsimp only at hSw); go_simp; try with_reducible rfl)
    simp only [List.getElem_toArray, List.getElem_cons_succ, List.getElem_cons_zero, Act.put, List.setIfInBounds_toArray, List.set_cons_zero, List.set_cons_succ]
    refine wpAnyH_norm (l2 := #[true, true, true, true, true, true, true, true, true, true, true, false, false, false, false]) (f2 := 4) (by kernel_rfl) (by kernel_rfl) ?_
    refine wpAnyH_take (i := 11) (oi := _) (v := ?_) rfl (by kernel_rfl) (by kernel_rfl) (by kernel_rfl) (fun _ _ _ h => h) (Or.inl ⟨by rfl, ?_⟩) (by assumption) ?_
    rotate_left
    · (intro w hSw; (try dsimp only at hSw); go_simp; try with_reducible rfl)
    simp only [List.getElem_toArray, List.getElem_cons_succ, List.getElem_cons_zero, Act.put, List.setIfInBounds_toArray, List.set_cons_zero, List.set_cons_succ]
    refine wpAnyH_norm (l2 := #[true, true, true, true, true, true, true, true, true, true, true, true, false, false, false]) (f2 := 3) (by kernel_rfl) (by kernel_rfl) ?_
    refine wpAnyH_ready (rs := [12]) (by kernel_rfl) (by simp) ?_
    refine AllReadyH.cons rfl (fun K hK => ?_) AllReadyH.nil
    go_simp
    obtain ⟨V, hV⟩ : ∃ V, V = w3.alloc (Obj.cells #[.int .u64 0, .int .u64 0, .int .u64 0, .int .u64 0, .int .i64 0, .int .i64 0] 77) := ⟨_, rfl⟩
    rw [← hV]
    obtain ⟨kz, hkz⟩ : ∃ k, k = w3.heap.size := ⟨_, rfl⟩
    rw [← hkz]
    have HXz : Hid (Bx V kz tn0.L) := by rw [hkz, hV]; exact Bx.new w3 tn0.L _
    have HBv : Hid (Below W.heap.size W V) := by rw [hV]; exact below_call HB3.out (below1 _ _)
    have HKz : Hid (W.heap.size ≤ kz) := by rw [hkz]; exact HB3.out.size
    clear hV hkz
    have HSt0 := stTn (L := [.int .u64 (th : Int), .int .u64 (tl : Int), .int .u64 (tph : Int), .int .u64 (tpl : Int), .int .i64 tr, .int .i64 ts]) (by have := HXz.out.there; exact this) rfl HO1.out
    have HXv0 := HXz.out.set (M := [.int .u64 (th : Int), .int .u64 (tl : Int), .int .u64 (tph : Int), .int .u64 (tpl : Int), .int .i64 tr, .int .i64 ts]) rfl
    have HBf0 : Below w.heap.size w (V.setCells kz 0 [.int .u64 (th : Int), .int .u64 (tl : Int), .int .u64 (tph : Int), .int .u64 (tpl : Int), .int .i64 tr, .int .i64 ts]) := But.below (below_call HB.out HBv.out) (setCells_but (S := (· = kz)) rfl [.int .u64 (th : Int), .int .u64 (tl : Int), .int .u64 (tph : Int), .int .u64 (tpl : Int), .int .i64 tr, .int .i64 ts] 0 (But.refl _ _)) (fun k hk => by have h1 := HB.out.size; have h2 := HKz.out; omega)
    have HBg0 : Below W.heap.size W (V.setCells kz 0 [.int .u64 (th : Int), .int .u64 (tl : Int), .int .u64 (tph : Int), .int .u64 (tpl : Int), .int .i64 tr, .int .i64 ts]) := But.below HBv.out (setCells_but (S := (· = kz)) rfl [.int .u64 (th : Int), .int .u64 (tl : Int), .int .u64 (tph : Int), .int .u64 (tpl : Int), .int .i64 tr, .int .i64 ts] 0 (But.refl _ _)) (fun k hk => by have h2 := HKz.out; omega)
    generalize V.setCells kz 0 [.int .u64 (th : Int), .int .u64 (tl : Int), .int .u64 (tph : Int), .int .u64 (tpl : Int), .int .i64 tr, .int .i64 ts] = V9 at HSt0 HXv0 HBf0 HBg0
    have HSt := hid HSt0
    have HXv := hid HXv0
    have HBf := hid HBf0
    have HBg := hid HBg0
    clear HSt0 HXv0 HBf0 HBg0
    refine hK.out _ _ (HS.out _ HBv.out) (fun hHeld => ?_)
    clear hK K
    simp only [List.getElem_toArray, List.getElem_cons_succ, List.getElem_cons_zero, Act.put, List.setIfInBounds_toArray, List.set_cons_zero, List.set_cons_succ]
    refine wpAnyH_norm (l2 := #[true, true, true, true, true, true, true, true, true, true, true, true, true, false, false]) (f2 := 2) (by kernel_rfl) (by kernel_rfl) ?_
    refine wpAnyH_ready (rs := [13]) (by kernel_rfl) (by simp) ?_
    refine AllReadyH.cons rfl (fun K hK => ?_) AllReadyH.nil
    refine wp_sto rfl rfl rfl HSt.out ?_
    refine hK.out _ _ (HS.out _ HBg.out) (fun hHeld => ?_)
    clear hK K
    simp only [List.getElem_toArray, List.getElem_cons_succ, List.getElem_cons_zero, Act.put, List.setIfInBounds_toArray, List.set_cons_zero, List.set_cons_succ]
    refine wpAnyH_norm (l2 := #[true, true, true, true, true, true, true, true, true, true, true, true, true, true, false]) (f2 := 1) (by kernel_rfl) (by kernel_rfl) ?_
    refine wpAnyH_take (i := 14) (oi := _) (v := ?_) rfl (by kernel_rfl) (by kernel_rfl) (by kernel_rfl) (fun _ _ _ h => h) (Or.inl ⟨by rfl, ?_⟩) (by assumption) ?_
    rotate_left
    · (intro w hSw; (try dsimp only at hSw); go_simp; try with_reducible rfl)
    simp only [List.getElem_toArray, List.getElem_cons_succ, List.getElem_cons_zero, Act.put, List.setIfInBounds_toArray, List.set_cons_zero, List.set_cons_succ]
    refine wpAnyH_norm (l2 := #[true, true, true, true, true, true, true, true, true, true, true, true, true, true, true]) (f2 := 0) (by kernel_rfl) (by kernel_rfl) ?_
    refine wpAnyH_done (by kernel_rfl) ?_ _
    have z4 := HXv.out.cell 4 rfl
    go_wp2
    exact bodyPost_ret (v := .tuple #[.int .i64 tr, .bool ok]) (by simp [results, Try.results15, go_sem]) rfl ⟨rfl, HBf.out⟩
  refine AllReadyH.cons rfl (fun K hK => ?_) AllReadyH.nil
  go_simp
  obtain ⟨V0, hV⟩ : ∃ V, V = (W.alloc (Obj.cells #[.int .u64 0, .int .u64 0, .int .u64 0, .int .u64 0, .int .i64 0, .int .i64 0] 77)).drew := ⟨_, rfl⟩
  rw [← hV]
  obtain ⟨kz, hkz⟩ : ∃ k, k = W.heap.size := ⟨_, rfl⟩
  have HXz0 : Hid (Bx V0 kz tn0.L) := by rw [hkz, hV]; exact (Bx.new W tn0.L _).later (Below.refl _ _).drew
  have HBv0 : Hid (Below W.heap.size W V0) := by rw [hV]; exact (below1 _ _).drew
  have HKz : Hid (W.heap.size ≤ kz) := by rw [hkz]; exact Nat.le_refl _
  have HKe := hid hkz
  clear hV hkz
  refine hK.out _ _ (HS.out _ HBv0.out) (fun hHeld => ?_)
  clear hK K
  simp only [List.getElem_toArray, List.getElem_cons_succ, List.getElem_cons_zero, Act.put, List.setIfInBounds_toArray, List.set_cons_zero, List.set_cons_succ]
  refine wpAnyH_norm (l2 := #[true, true, true, true, true, true, true, true, false, false, false, false, true, false, false]) (f2 := 6) (by kernel_rfl) (by kernel_rfl) ?_
  refine wpAnyH_ready (rs := [8]) (by kernel_rfl) (by simp) ?_
  refine AllReadyH.cons rfl (fun K hK => ?_) AllReadyH.nil
  go_simp
  go_wp2_with (first | (go_at_call 32; refine (HLo.out _ (HBv0.out)).mono ?_; rintro e w3 ⟨rfl, hb3⟩))
  obtain ⟨V, hVe⟩ : ∃ V, V = w3 := ⟨_, rfl⟩
  rw [← hVe]
  rw [← HKe.out]
  have HXz : Hid (Bx V kz tn0.L) := by rw [hVe]; exact HXz0.out.later hb3
  have HBv : Hid (Below W.heap.size W V) := by rw [hVe]; exact below_call HBv0.out hb3
  clear hb3 hVe w3
  have HSt0 := stTn (L := [.int .u64 (th : Int), .int .u64 (tl : Int), .int .u64 (tph : Int), .int .u64 (tpl : Int), .int .i64 tr, .int .i64 ts]) (by have := HXz.out.there; exact this) rfl HO1.out
  have HXv0 := HXz.out.set (M := [.int .u64 (th : Int), .int .u64 (tl : Int), .int .u64 (tph : Int), .int .u64 (tpl : Int), .int .i64 tr, .int .i64 ts]) rfl
  have HBf0 : Below w.heap.size w (V.setCells kz 0 [.int .u64 (th : Int), .int .u64 (tl : Int), .int .u64 (tph : Int), .int .u64 (tpl : Int), .int .i64 tr, .int .i64 ts]) := But.below (below_call HB.out HBv.out) (setCells_but (S := (· = kz)) rfl [.int .u64 (th : Int), .int .u64 (tl : Int), .int .u64 (tph : Int), .int .u64 (tpl : Int), .int .i64 tr, .int .i64 ts] 0 (But.refl _ _)) (fun k hk => by have h1 := HB.out.size; have h2 := HKz.out; omega)
  have HBg0 : Below W.heap.size W (V.setCells kz 0 [.int .u64 (th : Int), .int .u64 (tl : Int), .int .u64 (tph : Int), .int .u64 (tpl : Int), .int .i64 tr, .int .i64 ts]) := But.below HBv.out (setCells_but (S := (· = kz)) rfl [.int .u64 (th : Int), .int .u64 (tl : Int), .int .u64 (tph : Int), .int .u64 (tpl : Int), .int .i64 tr, .int .i64 ts] 0 (But.refl _ _)) (fun k hk => by have h2 := HKz.out; omega)
  generalize V.setCells kz 0 [.int .u64 (th : Int), .int .u64 (tl : Int), .int .u64 (tph : Int), .int .u64 (tpl : Int), .int .i64 tr, .int .i64 ts] = V9 at HSt0 HXv0 HBf0 HBg0
  have HSt := hid HSt0
  have HXv := hid HXv0
  have HBf := hid HBf0
  have HBg := hid HBg0
  clear HSt0 HXv0 HBf0 HBg0
  refine hK.out _ _ (HS.out _ HBv.out) (fun hHeld => ?_)
  clear hK K
  simp only [List.getElem_toArray, List.getElem_cons_succ, List.getElem_cons_zero, Act.put, List.setIfInBounds_toArray, List.set_cons_zero, List.set_cons_succ]
  refine wpAnyH_norm (l2 := #[true, true, true, true, true, true, true, true, true, false, false, false, true, false, false]) (f2 := 5) (by kernel_rfl) (by kernel_rfl) ?_
  refine wpAnyH_take (i := 9) (oi := _) (v := ?_) rfl (by kernel_rfl) (by kernel_rfl) (by kernel_rfl) (fun _ _ _ h => h) (Or.inl ⟨by rfl, ?_⟩) (by assumption) ?_
  rotate_left
  · (intro w hSw; (try dsimp only at hSw); go_simp; try with_reducible rfl)
  simp only [List.getElem_toArray, List.getElem_cons_succ, List.getElem_cons_zero, Act.put, List.setIfInBounds_toArray, List.set_cons_zero, List.set_cons_succ]
  refine wpAnyH_norm (l2 := #[true, true, true, true, true, true, true, true, true, true, false, false, true, false, false]) (f2 := 4) (by kernel_rfl) (by kernel_rfl) ?_
  refine wpAnyH_take (i := 10) (oi := _) (v := ?_) rfl (by kernel_rfl) (by kernel_rfl) (by kernel_rfl) (fun _ _ _ h => h) (Or.inl ⟨by rfl, ?_⟩) (by assumption) ?_
  rotate_left
  · (intro w hSw; (try dsimp only at hSw); go_simp; try with_reducible rfl)
  simp only [List.getElem_toArray, List.getElem_cons_succ, List.getElem_cons_zero, Act.put, List.setIfInBounds_toArray, List.set_cons_zero, List.set_cons_succ]
  refine wpAnyH_norm (l2 := #[true, true, true, true, true, true, true, true, true, true, true, false, true, false, false]) (f2 := 3) (by kernel_rfl) (by kernel_rfl) ?_
  refine wpAnyH_take (i := 11) (oi := _) (v := ?_) rfl (by kernel_rfl) (by kernel_rfl) (by kernel_rfl) (fun _ _ _ h => h) (Or.inl ⟨by rfl, ?_⟩) (by assumption) ?_
  rotate_left
  · (intro w hSw; (try dsimp only at hSw); go_simp; try with_reducible rfl)
  simp only [List.getElem_toArray, List.getElem_cons_succ, List.getElem_cons_zero, Act.put, List.setIfInBounds_toArray, List.set_cons_zero, List.set_cons_succ]
  refine wpAnyH_norm (l2 := #[true, true, true, true, true, true, true, true, true, true, true, true, true, false, false]) (f2 := 2) (by kernel_rfl) (by kernel_rfl) ?_
  refine wpAnyH_ready (rs := [13]) (by kernel_rfl) (by simp) ?_
  refine AllReadyH.cons rfl (fun K hK => ?_) AllReadyH.nil
  refine wp_sto rfl rfl rfl HSt.out ?_
  refine hK.out _ _ (HS.out _ HBg.out) (fun hHeld => ?_)
  clear hK K
  simp only [List.getElem_toArray, List.getElem_cons_succ, List.getElem_cons_zero, Act.put, List.setIfInBounds_toArray, List.set_cons_zero, List.set_cons_succ]
  refine wpAnyH_norm (l2 := #[true, true, true, true, true, true, true, true, true, true, true, true, true, true, false]) (f2 := 1) (by kernel_rfl) (by kernel_rfl) ?_
  refine wpAnyH_take (i := 14) (oi := _) (v := ?_) rfl (by kernel_rfl) (by kernel_rfl) (by kernel_rfl) (fun _ _ _ h => h) (Or.inl ⟨by rfl, ?_⟩) (by assumption) ?_
  rotate_left
  · (intro w hSw; (try dsimp only at hSw); go_simp; try with_reducible rfl)
  simp only [List.getElem_toArray, List.getElem_cons_succ, List.getElem_cons_zero, Act.put, List.setIfInBounds_toArray, List.set_cons_zero, List.set_cons_succ]
  refine wpAnyH_norm (l2 := #[true, true, true, true, true, true, true, true, true, true, true, true, true, true, true]) (f2 := 0) (by kernel_rfl) (by kernel_rfl) ?_
  refine wpAnyH_done (by kernel_rfl) ?_ _
  have z4 := HXv.out.cell 4 rfl
  go_wp2
  exact bodyPost_ret (v := .tuple #[.int .i64 tr, .bool ok]) (by simp [results, Try.results15, go_sem]) rfl ⟨rfl, HBf.out⟩
theorem steps_any (m : Bm) (w : World) (h : Bw w m) : Calls Try.prog 17 #[.pointer (some ⟨m.g, 0, none⟩)] w fun e w' => e = .returned (.int .i64 m.n) ∧ w' = w := by
  have q0 := h.bx.cell 0 rfl
  clear h
  go_enter Try.func17, Try.ntmps17
  go_wp2
  go_ret
  exact ⟨rfl, rfl⟩
theorem isPlace_any (p : Int) (a : Option Addr) (n c : Nat) (w : World) : Calls Try.prog 42 #[.int .i64 p, .slice a n c] w fun e w' => e = .returned (.bool (decide (0 ≤ p ∧ p < (n : Int)))) ∧ w' = w := by
  by_cases h1 : 0 ≤ p
  · by_cases h2 : p < (n : Int)
    · rw [decide_eq_true ⟨h1, h2⟩]
      go_enter Try.func42, Try.ntmps42
      go_wp2
      go_ret
      exact ⟨rfl, rfl⟩
    · rw [decide_eq_false (fun h => h2 h.2)]
      go_enter Try.func42, Try.ntmps42
      go_wp2
      go_ret
      exact ⟨rfl, rfl⟩
  · rw [decide_eq_false (fun h => h1 h.1)]
    go_enter Try.func42, Try.ntmps42
    go_wp2
    go_ret
    exact ⟨rfl, rfl⟩
/-- Does a call bring a password? -/
def brB (op : Int) (gv : Bool) : Bool := if op = 2 ∨ op = 3 ∨ op = 4 ∨ op = 7 then true else if op = 5 ∨ op = 6 then gv else false
set_option maxRecDepth 100000 in
set_option maxHeartbeats 2000000 in
theorem brings_any (C : List Value) (op : Int) (gv : Bool) (w : World) (h0 : C[0]? = some (.int .i64 op)) (h6 : C[6]? = some (.bool gv)) :
    Calls Try.prog 31 #[.agg C.toArray] w fun e w' => e = .returned (.bool (brB op gv)) ∧ Below w.heap.size w w' := by
  obtain ⟨W, hW⟩ : ∃ W, W = w.alloc (Obj.cells C.toArray 36) := ⟨_, rfl⟩
  have hB : Below w.heap.size w W := by rw [hW]; exact below1 _ _
  have hX : Bx W w.heap.size C := by rw [hW]; exact Bx.new w C _
  have x0 := hX.cell 0 h0
  have x6 := hX.cell 6 h6
  have HB := hid hB
  have HW := hid hW
  clear hB hW hX h0 h6
  by_cases e2 : op = 2
  · subst e2
    go_enter Try.func31, Try.ntmps31
    go_upto_region 1 with fail
    rw [← HW.out]
    go_wp2
    go_ret
    exact ⟨rfl, HB.out⟩
  by_cases e3 : op = 3
  · subst e3
    go_enter Try.func31, Try.ntmps31
    go_upto_region 1 with fail
    rw [← HW.out]
    go_wp2
    go_ret
    exact ⟨rfl, HB.out⟩
  by_cases e4 : op = 4
  · subst e4
    go_enter Try.func31, Try.ntmps31
    go_upto_region 1 with fail
    rw [← HW.out]
    go_wp2
    go_ret
    exact ⟨rfl, HB.out⟩
  by_cases e7 : op = 7
  · subst e7
    go_enter Try.func31, Try.ntmps31
    go_upto_region 1 with fail
    rw [← HW.out]
    go_wp2
    go_ret
    exact ⟨rfl, HB.out⟩
  by_cases e5 : op = 5
  · subst e5
    go_enter Try.func31, Try.ntmps31
    go_upto_region 1 with fail
    rw [← HW.out]
    go_wp2
    go_ret
    exact ⟨rfl, HB.out⟩
  by_cases e6 : op = 6
  · subst e6
    go_enter Try.func31, Try.ntmps31
    go_upto_region 1 with fail
    rw [← HW.out]
    go_wp2
    go_ret
    exact ⟨rfl, HB.out⟩
  have hb : brB op gv = false := by
    unfold brB
    rw [if_neg (by omega), if_neg (by omega)]
  rw [hb]
  have d2 : (op == 2) = false := by simp [e2]
  have d3 : (op == 3) = false := by simp [e3]
  have d4 : (op == 4) = false := by simp [e4]
  have d7 : (op == 7) = false := by simp [e7]
  have d5 : (op == 5) = false := by simp [e5]
  have d6 : (op == 6) = false := by simp [e6]
  clear hb e2 e3 e4 e5 e6 e7
  go_enter Try.func31, Try.ntmps31
  go_upto_region 1 with fail
  rw [← HW.out]
  go_wp2
  go_ret
  exact ⟨rfl, HB.out⟩
end Go.Proofs.Yticgammbjcdobaa
