import Derived.Test.YtaffgoacbiedlaaYH
import Derived.Test.YtaffgoacbiedlaaY3
import Derived.Test.YtaffgoacbiedlaaT5
namespace Go.Proofs.Ytaffgoacbiedlaa
open Go.RowKit
set_option linter.unusedVariables false
set_option linter.unusedSimpArgs false

set_option maxRecDepth 100000 in
set_option maxHeartbeats 8000000 in
theorem back_A (L : List Value) (c : Cl) (cut : Int) (more : Nat) (w : World) (h : Cc w L c) (o : Cl) (ho : o = foR c) (op1 y1 : Int) (hop : o.op = op1) (hyy : o.by_ = y1) (b0 b1 b2 bL : Nat) (T : List Nat) (hly : ly o = b0 :: b1 :: b2 :: T) (hb0 : (b0 : Int) = op1) (hb12 : (b1 : Int) + 256 * (b2 : Int) = y1) (hbb : b0 < 256 ∧ b1 < 256 ∧ b2 < 256) (hbl : T.length + 3 = bL) (hbl2 : bL ≤ 100000) (hw : o.hi < 18446744073709551616 ∧ o.lo < 18446744073709551616) (k : Nat) (hk : cut % (bL : Int) = (k : Int)) (hkl : k < bL) (hn6 : o.op ≠ 6) (hn8 : o.op ≠ 8) (hmo : more < 256) :
    Calls Try.prog 4 #[.agg L.toArray, .int .i64 cut, .int .u8 (more : Int)] w fun e w' => e = .returned (.bool true) ∧ Below w.heap.size w w' := by
  obtain ⟨Z, hZl, hZo, hZz, hz⟩ := zero41
  have hZ0 : (Z.toArray = #[]) = False := by simp; intro h; rw [h] at hZl; simp at hZl
  have HF : Hid (fm o = true) := by unfold Hid; rw [ho]; exact fm_foR c
  have HGF := hid (fm_gifts HF.out)
  have HSM := hid (smB_self o)
  have HLY := hid hly
  have X1 := Bx.new w L 41
  have HLD1 := hid (ld41 X1.range h.len)
  have HC1 : Hid (Cc (w.alloc (Obj.cells L.toArray 41)) L c) := h.later (below1 _ _)
  have HHO := hid ho
  have HZO := hid hZo
  have HW := hid hw
  have HBLN : Hid (T.length + 3 = bL ∧ bL ≤ 100000) := ⟨hbl, hbl2⟩
  have HZZ := hid hZz
  have HK := hid hk
  have HKL := hid hkl
  have HN6 := hid hn6
  have HN8 := hid hn8
  have HMO := hid hmo
  clear hk hkl hn6 hn8 hmo
  have HB := hid (And.intro hop hyy)
  clear X1 h ho hly hZo hZz hop hyy
  have e1 : IntKind.i64.wrap (256 * (b2 : Int)) = 256 * (b2 : Int) := by rw [IntKind.wrap_i64]; omega
  have e2 : IntKind.i64.wrap ((b1 : Int) + 256 * (b2 : Int)) = y1 := by rw [IntKind.wrap_i64]; omega
  have d3 : decide ((bL : Int) < 3) = false := by simp; omega
  have d3' : decide (bL < 3) = false := by simp; omega
  have g0 : (0 : Int) < (bL : Int) := by omega
  have g1 : (1 : Int) < (bL : Int) := by omega
  have g2' : (2 : Int) < (bL : Int) := by omega
  have ne0 : ((b0 : Int) != op1) = false := by simp [hb0]
  have eb0 : IntKind.i64.wrap (b0 : Int) = (b0 : Int) := by rw [IntKind.wrap_i64]; omega
  have eb1 : IntKind.i64.wrap (b1 : Int) = (b1 : Int) := by rw [IntKind.wrap_i64]; omega
  have eb2 : IntKind.i64.wrap (b2 : Int) = (b2 : Int) := by rw [IntKind.wrap_i64]; omega
  have HEW : Hid (IntKind.i64.wrap op1 = op1) := by unfold Hid; rw [← hb0]; exact eb0
  have g0n : 0 < bL := by omega
  have g1n : 1 < bL := by omega
  have g2n : 2 < bL := by omega
  have HB0 := hid (And.intro hb0 hb12)
  clear hb0 hb12
  have HPS : Hid (psC (ly o) = some o) := by
    unfold Hid
    have hw : o.hi < 18446744073709551616 ∧ o.lo < 18446744073709551616 := HW.out
    exact ps_lay HF.out hw.1 hw.2
  have mm0 := hid True.intro
  go_enter Try.func4, Try.ntmps4
  go_upto_region 4 with (first | ((with_reducible refine ld_arm HLD3.out ?_ ?_); (· rfl)) | ((with_reducible refine ld_arm HLD1.out ?_ ?_); (· rfl)) | (clear mm0; go_at_call 14; refine (formed_any L c _ HC1.out).mono ?_; rintro e w2 ⟨M, rfl, hc2, hb2⟩; rw [← HHO.out] at hc2; have hml := hc2.len; obtain ⟨w3, hst3, hx3, hb3⟩ := store_new w2 (Z := Z) (t := 41) (hml.trans hZl.symm) hc2.one; have HX3 := hid hx3; have HLD3 := hid (ld41 hx3.range hml); have HC3 := hid (hc2.later hb3); have HB3 := hid (below_call (below_call (below1 w _) hb2) hb3); clear hc2 hb2 hb3 hx3; have mm1 := hid True.intro) | (clear mm1; go_at_call 15; refine (bytes_ok M o _ HC3.out HF.out).mono ?_; rintro e w4 ⟨a4, n4, c4, rfl, hown4, hb4⟩; have HN4 := hid hown4.len; have HO4 := hid hown4; have HX4 := hid (HX3.out.later hb4); have HC4 := hid (HC3.out.later hb4); have HB4 := hid (below_call HB3.out hb4); clear hown4 hb4; have mm2 := hid True.intro) | (clear mm2; go_at_call 16; refine (parse_some a4 n4 c4 (ly o) _ HO4.out.read (by have := HN4.out; rw [HLY.out] at this; have := HGF.out; have := HBLN.out; simp at *; omega) HPS.out).mono ?_; rintro e w5 ⟨Lp, rfl, hc5, hb5⟩; have hll := hc5.len; obtain ⟨w6, hst6, hx6, hb6⟩ := store_new w5 (Z := Z) (t := 41) (hll.trans hZl.symm) hc5.one; have HXP6 := hid hx6; have HX6 := hid ((HX4.out.later hb5).later hb6); have HC6 := hid (And.intro (hc5.cc.later hb6) ((HC4.out.later hb5).later hb6)); have HO6 := hid ((HO4.out.later hb5).later hb6); have HB6 := hid (below_call (below_call HB4.out hb5) hb6); clear hc5 hb5 hb6 hx6; have mm3 := hid True.intro))
  have hn4 : bL = n4 := by
    have := HN4.out
    rw [HLY.out] at this
    simp at this
    have := HBLN.out
    omega
  subst hn4
  obtain ⟨bb, bo, rfl, _⟩ := HO6.out.read.plain (by have := HBLN.out; omega)
  have k0 : w6.cell? ⟨bb, bo, none⟩ = some (.int .u8 (b0 : Int)) := by have := HO6.out.read.cells _ rfl 0 (.int .u8 (b0 : Int)) (by rw [HLY.out]; rfl); simpa [Addr.add] using this
  have k1 : w6.cell? ⟨bb, bo + 1, none⟩ = some (.int .u8 (b1 : Int)) := by have := HO6.out.read.cells _ rfl 1 (.int .u8 (b1 : Int)) (by rw [HLY.out]; rfl); simpa [Addr.add] using this
  have k2 : w6.cell? ⟨bb, bo + 2, none⟩ = some (.int .u8 (b2 : Int)) := by have := HO6.out.read.cells _ rfl 2 (.int .u8 (b2 : Int)) (by rw [HLY.out]; rfl); simpa [Addr.add] using this
  have HSL : Hid (∀ U V : World, Below U.heap.size U V → (fun U : World => Bx U w5.heap.size Lp ∧ Bx U w2.heap.size M ∧ U.cell? ⟨bb, bo, none⟩ = some (.int .u8 (b0 : Int)) ∧ U.cell? ⟨bb, bo + 1, none⟩ = some (.int .u8 (b1 : Int)) ∧ U.cell? ⟨bb, bo + 2, none⟩ = some (.int .u8 (b2 : Int))) U → (fun U : World => Bx U w5.heap.size Lp ∧ Bx U w2.heap.size M ∧ U.cell? ⟨bb, bo, none⟩ = some (.int .u8 (b0 : Int)) ∧ U.cell? ⟨bb, bo + 1, none⟩ = some (.int .u8 (b1 : Int)) ∧ U.cell? ⟨bb, bo + 2, none⟩ = some (.int .u8 (b2 : Int))) V) := fun U V hb hs => ⟨hs.1.later hb, hs.2.1.later hb, cell_later hb hs.2.2.1, cell_later hb hs.2.2.2.1, cell_later hb hs.2.2.2.2⟩
  have HSA : Hid ((fun U : World => Bx U w5.heap.size Lp ∧ Bx U w2.heap.size M ∧ U.cell? ⟨bb, bo, none⟩ = some (.int .u8 (b0 : Int)) ∧ U.cell? ⟨bb, bo + 1, none⟩ = some (.int .u8 (b1 : Int)) ∧ U.cell? ⟨bb, bo + 2, none⟩ = some (.int .u8 (b2 : Int))) w6.drew) := HSL.out _ _ (Below.refl _ _).drew ⟨HXP6.out, HX6.out, k0, k1, k2⟩
  have HM0 : Hid (M[0]? = some (.int .i64 op1) ∧ M[1]? = some (.int .i64 y1)) := by
    obtain ⟨d, g, e, _⟩ := HC6.out.2.ex
    unfold Hid
    rw [e, ← HB.out.1, ← HB.out.2]
    exact ⟨rfl, rfl⟩
  have HMO1 := hid HC6.out.2.one
  have HLL : Hid (Lp.length = 13 ∧ M.length = 13) := ⟨hll, hml⟩
  have HC6 := hid (And.intro (HC6.out.1.later (Below.refl _ w6).drew) (HC6.out.2.later (Below.refl _ w6).drew))
  have HO6 := hid (HO6.out.later (Below.refl _ w6).drew)
  have HB6 := hid HB6.out.drew
  clear k0 k1 k2
  refine wp_region_held_drew (S := (fun U : World => Bx U w5.heap.size Lp ∧ Bx U w2.heap.size M ∧ U.cell? ⟨bb, bo, none⟩ = some (.int .u8 (b0 : Int)) ∧ U.cell? ⟨bb, bo + 1, none⟩ = some (.int .u8 (b1 : Int)) ∧ U.cell? ⟨bb, bo + 2, none⟩ = some (.int .u8 (b2 : Int)))) (by kernel_rfl) (HSA.out) (fun hHeld => ?_)
  refine wpAnyH_norm (l2 := #[false, false, false, false, false, false, false, false, false, false, false, false, false, false, false, false, false, false, false, false, false, false, false, false, false, false, false, false, false, false, false, false, false, false, false, false, false, false, false, false, false, false, false, false, false]) (f2 := 45) (by kernel_rfl) (by kernel_rfl) ?_
  refine wpAnyH_ready (rs := [0]) (by kernel_rfl) (by simp) ?_
  refine AllReadyH.cons rfl (fun K hK => ?_) AllReadyH.nil
  go_simp
  go_wp2_with (first | (go_at_call 12; refine (known_any _).mono ?_; rintro e w7 ⟨rfl, hb7⟩; have HB7 := hid (below_call HB6.out hb7); have HS7 := hid (HSL.out _ _ hb7 HSA.out); have HC7 := hid (And.intro (HC6.out.1.later hb7) (HC6.out.2.later hb7)); have HO7 := hid (HO6.out.later hb7); clear hb7))
  refine hK.out _ _ (HS7.out) (fun hHeld => ?_)
  clear hK K
  simp only [List.getElem_toArray, List.getElem_cons_succ, List.getElem_cons_zero, Act.put, List.setIfInBounds_toArray, List.set_cons_zero, List.set_cons_succ]
  refine wpAnyH_norm (l2 := #[true, false, false, false, false, false, false, false, false, false, false, false, false, false, false, false, false, false, false, false, false, false, false, false, false, false, false, false, false, false, false, false, false, false, false, false, false, false, false, false, false, false, false, false, false]) (f2 := 44) (by kernel_rfl) (by kernel_rfl) ?_
  refine wpAnyH_take (i := 1) (oi := _) (v := ?_) rfl (by kernel_rfl) (by kernel_rfl) (by kernel_rfl) (fun _ _ _ h => h) (Or.inl ⟨by rfl, ?_⟩) (by assumption) ?_
  rotate_left
  · (intro w hSw; (try dsimp only at hSw); go_simp; try with_reducible rfl)
  simp only [List.getElem_toArray, List.getElem_cons_succ, List.getElem_cons_zero, Act.put, List.setIfInBounds_toArray, List.set_cons_zero, List.set_cons_succ]
  refine wpAnyH_norm (l2 := #[true, true, false, false, false, false, false, false, false, false, false, false, false, false, false, false, false, false, false, false, false, false, false, false, false, false, false, false, false, false, false, false, false, false, false, false, false, false, false, false, false, false, false, false, false]) (f2 := 43) (by kernel_rfl) (by kernel_rfl) ?_
  refine wpAnyH_take (i := 2) (oi := _) (v := ?_) rfl (by kernel_rfl) (by kernel_rfl) (by kernel_rfl) (fun _ _ _ h => h) (Or.inl ⟨by rfl, ?_⟩) (by assumption) ?_
  rotate_left
  · (intro w hSw; (try dsimp only at hSw); go_simp; try with_reducible rfl)
  simp only [List.getElem_toArray, List.getElem_cons_succ, List.getElem_cons_zero, Act.put, List.setIfInBounds_toArray, List.set_cons_zero, List.set_cons_succ]
  refine wpAnyH_norm (l2 := #[true, true, true, false, false, false, false, false, false, false, false, false, false, false, false, false, false, false, false, false, false, false, false, false, false, false, false, false, false, false, false, false, false, false, false, false, false, false, false, false, false, false, false, false, false]) (f2 := 42) (by kernel_rfl) (by kernel_rfl) ?_
  refine wpAnyH_take (i := 3) (oi := _) (v := ?_) rfl (by kernel_rfl) (by kernel_rfl) (by kernel_rfl) (fun _ _ _ h => h) (Or.inl ⟨by rfl, ?_⟩) (by assumption) ?_
  rotate_left
  · (intro w hSw; (try dsimp only at hSw); go_simp; try with_reducible rfl)
  simp only [List.getElem_toArray, List.getElem_cons_succ, List.getElem_cons_zero, Act.put, List.setIfInBounds_toArray, List.set_cons_zero, List.set_cons_succ]
  refine wpAnyH_norm (l2 := #[true, true, true, true, false, false, false, false, false, false, false, false, false, false, false, false, false, false, false, false, false, false, false, false, false, false, false, false, false, false, false, false, false, false, false, false, false, false, false, false, false, false, false, false, false]) (f2 := 41) (by kernel_rfl) (by kernel_rfl) ?_
  refine wpAnyH_take (i := 4) (oi := _) (v := ?_) rfl (by kernel_rfl) (by kernel_rfl) (by kernel_rfl) (fun _ _ _ h => h) (Or.inl ⟨by rfl, ?_⟩) (by assumption) ?_
  rotate_left
  · (intro w hSw; (try dsimp only at hSw); go_simp; try with_reducible rfl)
  simp only [List.getElem_toArray, List.getElem_cons_succ, List.getElem_cons_zero, Act.put, List.setIfInBounds_toArray, List.set_cons_zero, List.set_cons_succ]
  refine wpAnyH_norm (l2 := #[true, true, true, true, true, false, false, false, false, false, false, false, false, false, false, false, false, false, false, false, false, false, false, false, false, false, false, false, false, false, false, false, false, false, false, false, false, false, false, false, false, false, false, false, false]) (f2 := 40) (by kernel_rfl) (by kernel_rfl) ?_
  refine wpAnyH_take (i := 5) (oi := _) (v := ?_) rfl (by kernel_rfl) (by kernel_rfl) (by kernel_rfl) (fun _ _ _ h => h) (Or.inl ⟨by rfl, ?_⟩) (by assumption) ?_
  rotate_left
  · (intro w hSw; (try dsimp only at hSw); go_simp; try with_reducible rfl)
  simp only [List.getElem_toArray, List.getElem_cons_succ, List.getElem_cons_zero, Act.put, List.setIfInBounds_toArray, List.set_cons_zero, List.set_cons_succ]
  refine wpAnyH_norm (l2 := #[true, true, true, true, true, true, false, false, false, false, false, false, false, false, false, false, false, false, false, false, false, false, false, false, false, false, false, false, false, false, false, false, false, false, false, false, false, false, false, false, false, false, false, false, false]) (f2 := 39) (by kernel_rfl) (by kernel_rfl) ?_
  refine wpAnyH_take (i := 6) (oi := _) (v := ?_) rfl (by kernel_rfl) (by kernel_rfl) (by kernel_rfl) (fun _ _ _ h => h) (Or.inl ⟨by rfl, ?_⟩) (by assumption) ?_
  rotate_left
  · (intro w hSw; (try dsimp only at hSw); go_simp; try with_reducible rfl)
  simp only [List.getElem_toArray, List.getElem_cons_succ, List.getElem_cons_zero, Act.put, List.setIfInBounds_toArray, List.set_cons_zero, List.set_cons_succ]
  refine wpAnyH_norm (l2 := #[true, true, true, true, true, true, true, false, false, false, false, false, false, false, false, false, false, false, false, false, false, false, false, false, false, false, false, false, false, false, false, false, false, false, false, false, false, false, false, false, false, false, false, false, false]) (f2 := 38) (by kernel_rfl) (by kernel_rfl) ?_
  refine wpAnyH_take (i := 7) (oi := _) (v := ?_) rfl (by kernel_rfl) (by kernel_rfl) (by kernel_rfl) (fun _ _ _ h => h) (Or.inl ⟨by rfl, ?_⟩) (by assumption) ?_
  rotate_left
  · (intro w hSw; (try dsimp only at hSw); go_simp; try with_reducible rfl)
  simp only [List.getElem_toArray, List.getElem_cons_succ, List.getElem_cons_zero, Act.put, List.setIfInBounds_toArray, List.set_cons_zero, List.set_cons_succ]
  refine wpAnyH_norm (l2 := #[true, true, true, true, true, true, true, true, false, false, false, false, false, false, false, false, false, false, false, false, false, false, false, false, false, false, false, false, false, false, false, false, false, false, false, false, false, false, false, false, false, false, false, false, false]) (f2 := 37) (by kernel_rfl) (by kernel_rfl) ?_
  refine wpAnyH_take (i := 8) (oi := _) (v := ?_) rfl (by kernel_rfl) (by kernel_rfl) (by kernel_rfl) (fun _ _ _ h => h) (Or.inl ⟨by rfl, ?_⟩) (by assumption) ?_
  rotate_left
  · (intro w hSw; (try dsimp only at hSw); go_simp; try with_reducible rfl)
  simp only [List.getElem_toArray, List.getElem_cons_succ, List.getElem_cons_zero, Act.put, List.setIfInBounds_toArray, List.set_cons_zero, List.set_cons_succ]
  refine wpAnyH_norm (l2 := #[true, true, true, true, true, true, true, true, true, false, false, false, false, false, false, false, false, false, false, false, false, false, false, false, false, false, false, false, false, false, false, false, false, false, false, false, false, false, false, false, false, false, false, false, false]) (f2 := 36) (by kernel_rfl) (by kernel_rfl) ?_
  refine wpAnyH_take (i := 9) (oi := _) (v := ?_) rfl (by kernel_rfl) (by kernel_rfl) (by kernel_rfl) (fun _ _ _ h => h) (Or.inl ⟨by rfl, ?_⟩) (by assumption) ?_
  rotate_left
  · (intro w hSw; (try dsimp only at hSw); go_simp; try with_reducible rfl)
  simp only [List.getElem_toArray, List.getElem_cons_succ, List.getElem_cons_zero, Act.put, List.setIfInBounds_toArray, List.set_cons_zero, List.set_cons_succ]
  refine wpAnyH_norm (l2 := #[true, true, true, true, true, true, true, true, true, true, false, false, false, false, false, false, false, false, false, false, false, false, false, false, false, false, false, false, false, false, false, false, false, false, false, false, false, false, false, false, false, false, false, false, false]) (f2 := 35) (by kernel_rfl) (by kernel_rfl) ?_
  refine wpAnyH_take (i := 10) (oi := _) (v := ?_) rfl (by kernel_rfl) (by kernel_rfl) (by kernel_rfl) (fun _ _ _ h => h) (Or.inl ⟨by rfl, ?_⟩) (by assumption) ?_
  rotate_left
  · (intro w hSw; (try dsimp only at hSw); go_simp; try with_reducible rfl)
  simp only [List.getElem_toArray, List.getElem_cons_succ, List.getElem_cons_zero, Act.put, List.setIfInBounds_toArray, List.set_cons_zero, List.set_cons_succ]
  refine wpAnyH_norm (l2 := #[true, true, true, true, true, true, true, true, true, true, true, false, false, false, false, false, false, false, false, false, false, false, false, false, false, false, false, false, false, false, false, false, false, false, false, false, false, false, false, false, false, false, false, false, false]) (f2 := 34) (by kernel_rfl) (by kernel_rfl) ?_
  refine wpAnyH_take (i := 11) (oi := _) (v := .agg Lp.toArray) rfl (by kernel_rfl) (by kernel_rfl) (by kernel_rfl) (fun _ _ _ h => h) (Or.inl ⟨by rfl, ?_⟩) (by assumption) ?_
  · (intro w hSw; (try dsimp only at hSw); exact ex_load rfl rfl (ld41 hSw.1.range HLL.out.1))
  simp only [List.getElem_toArray, List.getElem_cons_succ, List.getElem_cons_zero, Act.put, List.setIfInBounds_toArray, List.set_cons_zero, List.set_cons_succ]
  refine wpAnyH_norm (l2 := #[true, true, true, true, true, true, true, true, true, true, true, true, false, false, false, false, false, false, false, false, false, false, false, false, false, false, false, false, false, false, false, false, false, false, false, false, false, false, false, false, false, false, false, false, false]) (f2 := 33) (by kernel_rfl) (by kernel_rfl) ?_
  refine wpAnyH_take (i := 12) (oi := _) (v := .agg M.toArray) rfl (by kernel_rfl) (by kernel_rfl) (by kernel_rfl) (fun _ _ _ h => h) (Or.inl ⟨by rfl, ?_⟩) (by assumption) ?_
  · (intro w hSw; (try dsimp only at hSw); exact ex_load rfl rfl (ld41 hSw.2.1.range HLL.out.2))
  simp only [List.getElem_toArray, List.getElem_cons_succ, List.getElem_cons_zero, Act.put, List.setIfInBounds_toArray, List.set_cons_zero, List.set_cons_succ]
  refine wpAnyH_norm (l2 := #[true, true, true, true, true, true, true, true, true, true, true, true, true, false, false, false, false, false, false, false, false, false, false, false, false, false, false, false, false, false, false, false, false, false, false, false, false, false, false, false, false, false, false, false, false]) (f2 := 32) (by kernel_rfl) (by kernel_rfl) ?_
  refine wpAnyH_ready (rs := [13]) (by kernel_rfl) (by simp) ?_
  refine AllReadyH.cons rfl (fun K hK => ?_) AllReadyH.nil
  go_simp
  go_wp2_with (first | (go_at_call 17; refine (same_any Lp M o o _ HC7.out.1 HC7.out.2 (by have := HGF.out; omega)).mono ?_; rintro e w8 ⟨rfl, hb8⟩; rw [HSM.out]; have HB8 := hid (below_call HB7.out hb8); have HS8 := hid (HSL.out _ _ hb8 HS7.out); have HC8 := hid (HC7.out.2.later hb8); have HO8 := hid (HO7.out.later hb8); clear hb8))
  refine hK.out _ _ (HS8.out) (fun hHeld => ?_)
  clear hK K
  simp only [List.getElem_toArray, List.getElem_cons_succ, List.getElem_cons_zero, Act.put, List.setIfInBounds_toArray, List.set_cons_zero, List.set_cons_succ]
  refine wpAnyH_norm (l2 := #[true, true, true, true, true, true, true, true, true, true, true, true, true, true, false, false, false, false, false, false, false, false, false, false, false, false, false, false, false, false, false, false, false, false, false, false, false, false, false, false, false, false, false, false, false]) (f2 := 31) (by kernel_rfl) (by kernel_rfl) ?_
  refine wpAnyH_take (i := 14) (oi := _) (v := ?_) rfl (by kernel_rfl) (by kernel_rfl) (by kernel_rfl) (fun _ _ _ h => h) (Or.inl ⟨by rfl, ?_⟩) (by assumption) ?_
  rotate_left
  · (intro w hSw; (try dsimp only at hSw); go_simp; try with_reducible rfl)
  simp only [List.getElem_toArray, List.getElem_cons_succ, List.getElem_cons_zero, Act.put, List.setIfInBounds_toArray, List.set_cons_zero, List.set_cons_succ]
  refine wpAnyH_norm (l2 := #[true, true, true, true, true, true, true, true, true, true, true, true, true, true, true, false, false, false, false, false, false, false, false, false, false, false, false, false, false, false, false, false, false, false, false, false, false, false, false, false, false, false, false, false, false]) (f2 := 30) (by kernel_rfl) (by kernel_rfl) ?_
  refine wpAnyH_take (i := 15) (oi := _) (v := ?_) rfl (by kernel_rfl) (by kernel_rfl) (by kernel_rfl) (fun _ _ _ h => h) (Or.inl ⟨by rfl, ?_⟩) (by assumption) ?_
  rotate_left
  · (intro w hSw; (try dsimp only at hSw); go_simp; try with_reducible rfl)
  simp only [List.getElem_toArray, List.getElem_cons_succ, List.getElem_cons_zero, Act.put, List.setIfInBounds_toArray, List.set_cons_zero, List.set_cons_succ]
  refine wpAnyH_norm (l2 := #[true, true, true, true, true, true, true, true, true, true, true, true, true, true, true, true, false, false, false, false, false, false, false, false, false, false, false, false, false, false, false, false, false, false, false, false, false, false, false, false, false, false, false, false, false]) (f2 := 29) (by kernel_rfl) (by kernel_rfl) ?_
  refine wpAnyH_take (i := 16) (oi := _) (v := ?_) rfl (by kernel_rfl) (by kernel_rfl) (by kernel_rfl) (fun _ _ _ h => h) (Or.inl ⟨by rfl, ?_⟩) (by assumption) ?_
  rotate_left
  · (intro w hSw; (try dsimp only at hSw); go_simp; try with_reducible rfl)
  simp only [List.getElem_toArray, List.getElem_cons_succ, List.getElem_cons_zero, Act.put, List.setIfInBounds_toArray, List.set_cons_zero, List.set_cons_succ]
  refine wpAnyH_norm (l2 := #[true, true, true, true, true, true, true, true, true, true, true, true, true, true, true, true, true, false, false, false, false, false, false, false, false, false, false, false, false, false, false, false, false, false, false, false, false, false, false, false, false, false, false, false, false]) (f2 := 28) (by kernel_rfl) (by kernel_rfl) ?_
  refine wpAnyH_take (i := 17) (oi := _) (v := ?_) rfl (by kernel_rfl) (by kernel_rfl) (by kernel_rfl) (fun _ _ _ h => h) (Or.inl ⟨by rfl, ?_⟩) (by assumption) ?_
  rotate_left
  · (intro w hSw; (try dsimp only at hSw); go_simp; try with_reducible rfl)
  simp only [List.getElem_toArray, List.getElem_cons_succ, List.getElem_cons_zero, Act.put, List.setIfInBounds_toArray, List.set_cons_zero, List.set_cons_succ]
  refine wpAnyH_norm (l2 := #[true, true, true, true, true, true, true, true, true, true, true, true, true, true, true, true, true, true, false, false, false, false, false, false, false, false, false, false, false, false, false, false, false, false, false, false, false, false, false, false, false, false, false, false, false]) (f2 := 27) (by kernel_rfl) (by kernel_rfl) ?_
  refine wpAnyH_take (i := 18) (oi := _) (v := ?_) rfl (by kernel_rfl) (by kernel_rfl) (by kernel_rfl) (fun _ _ _ h => h) (Or.inl ⟨by rfl, ?_⟩) (by assumption) ?_
  rotate_left
  · (intro w hSw; (try dsimp only at hSw); go_simp; try with_reducible rfl)
  simp only [List.getElem_toArray, List.getElem_cons_succ, List.getElem_cons_zero, Act.put, List.setIfInBounds_toArray, List.set_cons_zero, List.set_cons_succ]
  refine wpAnyH_norm (l2 := #[true, true, true, true, true, true, true, true, true, true, true, true, true, true, true, true, true, true, true, false, false, false, false, false, false, false, false, false, false, false, false, false, false, false, false, false, false, false, false, false, false, false, false, false, false]) (f2 := 26) (by kernel_rfl) (by kernel_rfl) ?_
  refine wpAnyH_take (i := 19) (oi := _) (v := ?_) rfl (by kernel_rfl) (by kernel_rfl) (by kernel_rfl) (fun _ _ _ h => h) (Or.inl ⟨by rfl, ?_⟩) (by assumption) ?_
  rotate_left
  · (intro w hSw; (try dsimp only at hSw); go_simp; try with_reducible rfl)
  simp only [List.getElem_toArray, List.getElem_cons_succ, List.getElem_cons_zero, Act.put, List.setIfInBounds_toArray, List.set_cons_zero, List.set_cons_succ]
  refine wpAnyH_norm (l2 := #[true, true, true, true, true, true, true, true, true, true, true, true, true, true, true, true, true, true, true, true, false, false, false, false, false, false, false, false, false, false, false, false, false, false, false, false, false, false, false, false, false, false, false, false, false]) (f2 := 25) (by kernel_rfl) (by kernel_rfl) ?_
  refine wpAnyH_take (i := 20) (oi := _) (v := ?_) rfl (by kernel_rfl) (by kernel_rfl) (by kernel_rfl) (fun _ _ _ h => h) (Or.inl ⟨by rfl, ?_⟩) (by assumption) ?_
  rotate_left
  · (intro w hSw; (try dsimp only at hSw); go_simp; try with_reducible rfl)
  simp only [List.getElem_toArray, List.getElem_cons_succ, List.getElem_cons_zero, Act.put, List.setIfInBounds_toArray, List.set_cons_zero, List.set_cons_succ]
  refine wpAnyH_norm (l2 := #[true, true, true, true, true, true, true, true, true, true, true, true, true, true, true, true, true, true, true, true, true, false, false, false, false, false, false, false, false, false, false, false, false, false, false, false, false, false, false, false, false, false, false, false, false]) (f2 := 24) (by kernel_rfl) (by kernel_rfl) ?_
  refine wpAnyH_take (i := 21) (oi := _) (v := ?_) rfl (by kernel_rfl) (by kernel_rfl) (by kernel_rfl) (fun _ _ _ h => h) (Or.inl ⟨by rfl, ?_⟩) (by assumption) ?_
  rotate_left
  · (intro w hSw; (try dsimp only at hSw); go_simp; try with_reducible rfl)
  simp only [List.getElem_toArray, List.getElem_cons_succ, List.getElem_cons_zero, Act.put, List.setIfInBounds_toArray, List.set_cons_zero, List.set_cons_succ]
  refine wpAnyH_norm (l2 := #[true, true, true, true, true, true, true, true, true, true, true, true, true, true, true, true, true, true, true, true, true, true, false, false, false, false, false, false, false, false, false, false, false, false, false, false, false, false, false, false, false, false, false, false, false]) (f2 := 23) (by kernel_rfl) (by kernel_rfl) ?_
  refine wpAnyH_take (i := 22) (oi := _) (v := ?_) rfl (by kernel_rfl) (by kernel_rfl) (by kernel_rfl) (fun _ _ _ h => h) (Or.inl ⟨by rfl, ?_⟩) (by assumption) ?_
  rotate_left
  · (intro w hSw; (try dsimp only at hSw); go_simp; try with_reducible rfl)
  simp only [List.getElem_toArray, List.getElem_cons_succ, List.getElem_cons_zero, Act.put, List.setIfInBounds_toArray, List.set_cons_zero, List.set_cons_succ]
  refine wpAnyH_norm (l2 := #[true, true, true, true, true, true, true, true, true, true, true, true, true, true, true, true, true, true, true, true, true, true, true, false, false, false, false, false, false, false, false, false, false, false, false, false, false, false, false, false, false, false, false, false, false]) (f2 := 22) (by kernel_rfl) (by kernel_rfl) ?_
  refine wpAnyH_take (i := 23) (oi := _) (v := ?_) rfl (by kernel_rfl) (by kernel_rfl) (by kernel_rfl) (fun _ _ _ h => h) (Or.inl ⟨by rfl, ?_⟩) (by assumption) ?_
  rotate_left
  · (intro w hSw; (try dsimp only at hSw); go_simp; try with_reducible rfl)
  simp only [List.getElem_toArray, List.getElem_cons_succ, List.getElem_cons_zero, Act.put, List.setIfInBounds_toArray, List.set_cons_zero, List.set_cons_succ]
  refine wpAnyH_norm (l2 := #[true, true, true, true, true, true, true, true, true, true, true, true, true, true, true, true, true, true, true, true, true, true, true, true, false, false, false, false, false, false, false, false, false, false, false, false, false, false, false, false, false, false, false, false, false]) (f2 := 21) (by kernel_rfl) (by kernel_rfl) ?_
  refine wpAnyH_take (i := 24) (oi := _) (v := .int .u8 (b0 : Int)) rfl (by kernel_rfl) (by kernel_rfl) (by kernel_rfl) (fun _ _ _ h => h) (Or.inl ⟨by rfl, ?_⟩) (by assumption) ?_
  · (intro w hSw; (try dsimp only at hSw); obtain ⟨s1, s2, s3, s4, s5⟩ := hSw; go_simp; try with_reducible rfl)
  simp only [List.getElem_toArray, List.getElem_cons_succ, List.getElem_cons_zero, Act.put, List.setIfInBounds_toArray, List.set_cons_zero, List.set_cons_succ]
  refine wpAnyH_norm (l2 := #[true, true, true, true, true, true, true, true, true, true, true, true, true, true, true, true, true, true, true, true, true, true, true, true, true, false, false, false, false, false, false, false, false, false, false, false, false, false, false, false, false, false, false, false, false]) (f2 := 20) (by kernel_rfl) (by kernel_rfl) ?_
  refine wpAnyH_take (i := 25) (oi := _) (v := ?_) rfl (by kernel_rfl) (by kernel_rfl) (by kernel_rfl) (fun _ _ _ h => h) (Or.inl ⟨by rfl, ?_⟩) (by assumption) ?_
  rotate_left
  · (intro w hSw; (try dsimp only at hSw); go_simp; try with_reducible rfl)
  simp only [List.getElem_toArray, List.getElem_cons_succ, List.getElem_cons_zero, Act.put, List.setIfInBounds_toArray, List.set_cons_zero, List.set_cons_succ]
  refine wpAnyH_norm (l2 := #[true, true, true, true, true, true, true, true, true, true, true, true, true, true, true, true, true, true, true, true, true, true, true, true, true, true, false, false, false, false, false, false, false, false, false, false, false, false, false, false, false, false, false, false, false]) (f2 := 19) (by kernel_rfl) (by kernel_rfl) ?_
  refine wpAnyH_take (i := 26) (oi := _) (v := ?_) rfl (by kernel_rfl) (by kernel_rfl) (by kernel_rfl) (fun _ _ _ h => h) (Or.inl ⟨by rfl, ?_⟩) (by assumption) ?_
  rotate_left
  · (intro w hSw; (try dsimp only at hSw); go_simp; try with_reducible rfl)
  simp only [List.getElem_toArray, List.getElem_cons_succ, List.getElem_cons_zero, Act.put, List.setIfInBounds_toArray, List.set_cons_zero, List.set_cons_succ]
  refine wpAnyH_norm (l2 := #[true, true, true, true, true, true, true, true, true, true, true, true, true, true, true, true, true, true, true, true, true, true, true, true, true, true, true, false, false, false, false, false, false, false, false, false, false, false, false, false, false, false, false, false, false]) (f2 := 18) (by kernel_rfl) (by kernel_rfl) ?_
  refine wpAnyH_take (i := 27) (oi := _) (v := .int .i64 op1) rfl (by kernel_rfl) (by kernel_rfl) (by kernel_rfl) (fun _ _ _ h => h) (Or.inl ⟨by rfl, ?_⟩) (by assumption) ?_
  · (intro w hSw; (try dsimp only at hSw); obtain ⟨s1, s2, s3, s4, s5⟩ := hSw; have c0 := s2.cell 0 HM0.out.1; go_simp; try with_reducible rfl)
  simp only [List.getElem_toArray, List.getElem_cons_succ, List.getElem_cons_zero, Act.put, List.setIfInBounds_toArray, List.set_cons_zero, List.set_cons_succ]
  refine wpAnyH_norm (l2 := #[true, true, true, true, true, true, true, true, true, true, true, true, true, true, true, true, true, true, true, true, true, true, true, true, true, true, true, true, false, false, false, false, false, false, false, false, false, false, false, false, false, false, false, false, false]) (f2 := 17) (by kernel_rfl) (by kernel_rfl) ?_
  refine wpAnyH_take (i := 28) (oi := _) (v := .bool false) rfl (by kernel_rfl) (by kernel_rfl) (by kernel_rfl) (fun _ _ _ h => h) (Or.inl ⟨by rfl, ?_⟩) (by assumption) ?_
  · (intro w hSw; (try dsimp only at hSw); have hq := HB0.out.1; go_simp; try simp [hq, HEW.out])
  simp only [List.getElem_toArray, List.getElem_cons_succ, List.getElem_cons_zero, Act.put, List.setIfInBounds_toArray, List.set_cons_zero, List.set_cons_succ]
  refine wpAnyH_norm (l2 := #[true, true, true, true, true, true, true, true, true, true, true, true, true, true, true, true, true, true, true, true, true, true, true, true, true, true, true, true, true, false, false, false, false, false, false, false, false, false, false, false, false, false, false, false, false]) (f2 := 16) (by kernel_rfl) (by kernel_rfl) ?_
  refine wpAnyH_take (i := 29) (oi := _) (v := ?_) rfl (by kernel_rfl) (by kernel_rfl) (by kernel_rfl) (fun _ _ _ h => h) (Or.inl ⟨by rfl, ?_⟩) (by assumption) ?_
  rotate_left
  · (intro w hSw; (try dsimp only at hSw); go_simp; try with_reducible rfl)
  simp only [List.getElem_toArray, List.getElem_cons_succ, List.getElem_cons_zero, Act.put, List.setIfInBounds_toArray, List.set_cons_zero, List.set_cons_succ]
  refine wpAnyH_norm (l2 := #[true, true, true, true, true, true, true, true, true, true, true, true, true, true, true, true, true, true, true, true, true, true, true, true, true, true, true, true, true, true, false, false, false, false, false, false, false, false, false, false, false, false, false, false, false]) (f2 := 15) (by kernel_rfl) (by kernel_rfl) ?_
  refine wpAnyH_take (i := 30) (oi := _) (v := ?_) rfl (by kernel_rfl) (by kernel_rfl) (by kernel_rfl) (fun _ _ _ h => h) (Or.inl ⟨by rfl, ?_⟩) (by assumption) ?_
  rotate_left
  · (intro w hSw; (try dsimp only at hSw); go_simp; try with_reducible rfl)
  simp only [List.getElem_toArray, List.getElem_cons_succ, List.getElem_cons_zero, Act.put, List.setIfInBounds_toArray, List.set_cons_zero, List.set_cons_succ]
  refine wpAnyH_norm (l2 := #[true, true, true, true, true, true, true, true, true, true, true, true, true, true, true, true, true, true, true, true, true, true, true, true, true, true, true, true, true, true, true, false, false, false, false, false, false, false, false, false, false, false, false, false, false]) (f2 := 14) (by kernel_rfl) (by kernel_rfl) ?_
  refine wpAnyH_take (i := 31) (oi := _) (v := ?_) rfl (by kernel_rfl) (by kernel_rfl) (by kernel_rfl) (fun _ _ _ h => h) (Or.inl ⟨by rfl, ?_⟩) (by assumption) ?_
  rotate_left
  · (intro w hSw; (try dsimp only at hSw); go_simp; try with_reducible rfl)
  simp only [List.getElem_toArray, List.getElem_cons_succ, List.getElem_cons_zero, Act.put, List.setIfInBounds_toArray, List.set_cons_zero, List.set_cons_succ]
  refine wpAnyH_norm (l2 := #[true, true, true, true, true, true, true, true, true, true, true, true, true, true, true, true, true, true, true, true, true, true, true, true, true, true, true, true, true, true, true, true, false, false, false, false, false, false, false, false, false, false, false, false, false]) (f2 := 13) (by kernel_rfl) (by kernel_rfl) ?_
  refine wpAnyH_take (i := 32) (oi := _) (v := ?_) rfl (by kernel_rfl) (by kernel_rfl) (by kernel_rfl) (fun _ _ _ h => h) (Or.inl ⟨by rfl, ?_⟩) (by assumption) ?_
  rotate_left
  · (intro w hSw; (try dsimp only at hSw); go_simp; try with_reducible rfl)
  simp only [List.getElem_toArray, List.getElem_cons_succ, List.getElem_cons_zero, Act.put, List.setIfInBounds_toArray, List.set_cons_zero, List.set_cons_succ]
  refine wpAnyH_norm (l2 := #[true, true, true, true, true, true, true, true, true, true, true, true, true, true, true, true, true, true, true, true, true, true, true, true, true, true, true, true, true, true, true, true, true, false, false, false, false, false, false, false, false, false, false, false, false]) (f2 := 12) (by kernel_rfl) (by kernel_rfl) ?_
  refine wpAnyH_take (i := 33) (oi := _) (v := .int .u8 (b1 : Int)) rfl (by kernel_rfl) (by kernel_rfl) (by kernel_rfl) (fun _ _ _ h => h) (Or.inl ⟨by rfl, ?_⟩) (by assumption) ?_
  · (intro w hSw; (try dsimp only at hSw); obtain ⟨s1, s2, s3, s4, s5⟩ := hSw; go_simp; try with_reducible rfl)
  simp only [List.getElem_toArray, List.getElem_cons_succ, List.getElem_cons_zero, Act.put, List.setIfInBounds_toArray, List.set_cons_zero, List.set_cons_succ]
  refine wpAnyH_norm (l2 := #[true, true, true, true, true, true, true, true, true, true, true, true, true, true, true, true, true, true, true, true, true, true, true, true, true, true, true, true, true, true, true, true, true, true, false, false, false, false, false, false, false, false, false, false, false]) (f2 := 11) (by kernel_rfl) (by kernel_rfl) ?_
  refine wpAnyH_take (i := 34) (oi := _) (v := ?_) rfl (by kernel_rfl) (by kernel_rfl) (by kernel_rfl) (fun _ _ _ h => h) (Or.inl ⟨by rfl, ?_⟩) (by assumption) ?_
  rotate_left
  · (intro w hSw; (try dsimp only at hSw); go_simp; try with_reducible rfl)
  simp only [List.getElem_toArray, List.getElem_cons_succ, List.getElem_cons_zero, Act.put, List.setIfInBounds_toArray, List.set_cons_zero, List.set_cons_succ]
  refine wpAnyH_norm (l2 := #[true, true, true, true, true, true, true, true, true, true, true, true, true, true, true, true, true, true, true, true, true, true, true, true, true, true, true, true, true, true, true, true, true, true, true, false, false, false, false, false, false, false, false, false, false]) (f2 := 10) (by kernel_rfl) (by kernel_rfl) ?_
  refine wpAnyH_take (i := 35) (oi := _) (v := ?_) rfl (by kernel_rfl) (by kernel_rfl) (by kernel_rfl) (fun _ _ _ h => h) (Or.inl ⟨by rfl, ?_⟩) (by assumption) ?_
  rotate_left
  · (intro w hSw; (try dsimp only at hSw); go_simp; try with_reducible rfl)
  simp only [List.getElem_toArray, List.getElem_cons_succ, List.getElem_cons_zero, Act.put, List.setIfInBounds_toArray, List.set_cons_zero, List.set_cons_succ]
  refine wpAnyH_norm (l2 := #[true, true, true, true, true, true, true, true, true, true, true, true, true, true, true, true, true, true, true, true, true, true, true, true, true, true, true, true, true, true, true, true, true, true, true, true, false, false, false, false, false, false, false, false, false]) (f2 := 9) (by kernel_rfl) (by kernel_rfl) ?_
  refine wpAnyH_take (i := 36) (oi := _) (v := ?_) rfl (by kernel_rfl) (by kernel_rfl) (by kernel_rfl) (fun _ _ _ h => h) (Or.inl ⟨by rfl, ?_⟩) (by assumption) ?_
  rotate_left
  · (intro w hSw; (try dsimp only at hSw); go_simp; try with_reducible rfl)
  simp only [List.getElem_toArray, List.getElem_cons_succ, List.getElem_cons_zero, Act.put, List.setIfInBounds_toArray, List.set_cons_zero, List.set_cons_succ]
  refine wpAnyH_norm (l2 := #[true, true, true, true, true, true, true, true, true, true, true, true, true, true, true, true, true, true, true, true, true, true, true, true, true, true, true, true, true, true, true, true, true, true, true, true, true, false, false, false, false, false, false, false, false]) (f2 := 8) (by kernel_rfl) (by kernel_rfl) ?_
  refine wpAnyH_take (i := 37) (oi := _) (v := .int .u8 (b2 : Int)) rfl (by kernel_rfl) (by kernel_rfl) (by kernel_rfl) (fun _ _ _ h => h) (Or.inl ⟨by rfl, ?_⟩) (by assumption) ?_
  · (intro w hSw; (try dsimp only at hSw); obtain ⟨s1, s2, s3, s4, s5⟩ := hSw; go_simp; try with_reducible rfl)
  simp only [List.getElem_toArray, List.getElem_cons_succ, List.getElem_cons_zero, Act.put, List.setIfInBounds_toArray, List.set_cons_zero, List.set_cons_succ]
  refine wpAnyH_norm (l2 := #[true, true, true, true, true, true, true, true, true, true, true, true, true, true, true, true, true, true, true, true, true, true, true, true, true, true, true, true, true, true, true, true, true, true, true, true, true, true, false, false, false, false, false, false, false]) (f2 := 7) (by kernel_rfl) (by kernel_rfl) ?_
  refine wpAnyH_take (i := 38) (oi := _) (v := ?_) rfl (by kernel_rfl) (by kernel_rfl) (by kernel_rfl) (fun _ _ _ h => h) (Or.inl ⟨by rfl, ?_⟩) (by assumption) ?_
  rotate_left
  · (intro w hSw; (try dsimp only at hSw); go_simp; try with_reducible rfl)
  simp only [List.getElem_toArray, List.getElem_cons_succ, List.getElem_cons_zero, Act.put, List.setIfInBounds_toArray, List.set_cons_zero, List.set_cons_succ]
  refine wpAnyH_norm (l2 := #[true, true, true, true, true, true, true, true, true, true, true, true, true, true, true, true, true, true, true, true, true, true, true, true, true, true, true, true, true, true, true, true, true, true, true, true, true, true, true, false, false, false, false, false, false]) (f2 := 6) (by kernel_rfl) (by kernel_rfl) ?_
  refine wpAnyH_take (i := 39) (oi := _) (v := ?_) rfl (by kernel_rfl) (by kernel_rfl) (by kernel_rfl) (fun _ _ _ h => h) (Or.inl ⟨by rfl, ?_⟩) (by assumption) ?_
  rotate_left
  · (intro w hSw; (try dsimp only at hSw); go_simp; try with_reducible rfl)
  simp only [List.getElem_toArray, List.getElem_cons_succ, List.getElem_cons_zero, Act.put, List.setIfInBounds_toArray, List.set_cons_zero, List.set_cons_succ]
  refine wpAnyH_norm (l2 := #[true, true, true, true, true, true, true, true, true, true, true, true, true, true, true, true, true, true, true, true, true, true, true, true, true, true, true, true, true, true, true, true, true, true, true, true, true, true, true, true, false, false, false, false, false]) (f2 := 5) (by kernel_rfl) (by kernel_rfl) ?_
  refine wpAnyH_take (i := 40) (oi := _) (v := ?_) rfl (by kernel_rfl) (by kernel_rfl) (by kernel_rfl) (fun _ _ _ h => h) (Or.inl ⟨by rfl, ?_⟩) (by assumption) ?_
  rotate_left
  · (intro w hSw; (try dsimp only at hSw); go_simp; try with_reducible rfl)
  simp only [List.getElem_toArray, List.getElem_cons_succ, List.getElem_cons_zero, Act.put, List.setIfInBounds_toArray, List.set_cons_zero, List.set_cons_succ]
  refine wpAnyH_norm (l2 := #[true, true, true, true, true, true, true, true, true, true, true, true, true, true, true, true, true, true, true, true, true, true, true, true, true, true, true, true, true, true, true, true, true, true, true, true, true, true, true, true, true, false, false, false, false]) (f2 := 4) (by kernel_rfl) (by kernel_rfl) ?_
  refine wpAnyH_take (i := 41) (oi := _) (v := ?_) rfl (by kernel_rfl) (by kernel_rfl) (by kernel_rfl) (fun _ _ _ h => h) (Or.inl ⟨by rfl, ?_⟩) (by assumption) ?_
  rotate_left
  · (intro w hSw; (try dsimp only at hSw); go_simp; try with_reducible rfl)
  simp only [List.getElem_toArray, List.getElem_cons_succ, List.getElem_cons_zero, Act.put, List.setIfInBounds_toArray, List.set_cons_zero, List.set_cons_succ]
  refine wpAnyH_norm (l2 := #[true, true, true, true, true, true, true, true, true, true, true, true, true, true, true, true, true, true, true, true, true, true, true, true, true, true, true, true, true, true, true, true, true, true, true, true, true, true, true, true, true, true, false, false, false]) (f2 := 3) (by kernel_rfl) (by kernel_rfl) ?_
  refine wpAnyH_take (i := 42) (oi := _) (v := .int .i64 y1) rfl (by kernel_rfl) (by kernel_rfl) (by kernel_rfl) (fun _ _ _ h => h) (Or.inl ⟨by rfl, ?_⟩) (by assumption) ?_
  · (intro w hSw; (try dsimp only at hSw); obtain ⟨s1, s2, s3, s4, s5⟩ := hSw; have c1 := s2.cell 1 HM0.out.2; go_simp; try with_reducible rfl)
  simp only [List.getElem_toArray, List.getElem_cons_succ, List.getElem_cons_zero, Act.put, List.setIfInBounds_toArray, List.set_cons_zero, List.set_cons_succ]
  refine wpAnyH_norm (l2 := #[true, true, true, true, true, true, true, true, true, true, true, true, true, true, true, true, true, true, true, true, true, true, true, true, true, true, true, true, true, true, true, true, true, true, true, true, true, true, true, true, true, true, true, false, false]) (f2 := 2) (by kernel_rfl) (by kernel_rfl) ?_
  refine wpAnyH_take (i := 43) (oi := _) (v := ?_) rfl (by kernel_rfl) (by kernel_rfl) (by kernel_rfl) (fun _ _ _ h => h) (Or.inl ⟨by rfl, ?_⟩) (by assumption) ?_
  rotate_left
  · (intro w hSw; (try dsimp only at hSw); go_simp; try with_reducible rfl)
  simp only [List.getElem_toArray, List.getElem_cons_succ, List.getElem_cons_zero, Act.put, List.setIfInBounds_toArray, List.set_cons_zero, List.set_cons_succ]
  refine wpAnyH_norm (l2 := #[true, true, true, true, true, true, true, true, true, true, true, true, true, true, true, true, true, true, true, true, true, true, true, true, true, true, true, true, true, true, true, true, true, true, true, true, true, true, true, true, true, true, true, true, false]) (f2 := 1) (by kernel_rfl) (by kernel_rfl) ?_
  refine wpAnyH_take (i := 44) (oi := _) (v := ?_) rfl (by kernel_rfl) (by kernel_rfl) (by kernel_rfl) (fun _ _ _ h => h) (Or.inl ⟨by rfl, ?_⟩) (by assumption) ?_
  rotate_left
  · (intro w hSw; (try dsimp only at hSw); go_simp; try with_reducible rfl)
  simp only [List.getElem_toArray, List.getElem_cons_succ, List.getElem_cons_zero, Act.put, List.setIfInBounds_toArray, List.set_cons_zero, List.set_cons_succ]
  refine wpAnyH_norm (l2 := #[true, true, true, true, true, true, true, true, true, true, true, true, true, true, true, true, true, true, true, true, true, true, true, true, true, true, true, true, true, true, true, true, true, true, true, true, true, true, true, true, true, true, true, true, true]) (f2 := 0) (by kernel_rfl) (by kernel_rfl) ?_
  refine wpAnyH_done (by kernel_rfl) ?_ _
  have hX8 : Bx w8 w2.heap.size M := HS8.out.2.1
  have HX8 := hid hX8
  clear hX8
  have mm4 := hid True.intro
  go_upto_region 7 with (first | (clear mm4; go_at_call 9; refine (into_is cut (bL : Int) _ (by omega) (by omega) HK.out).mono ?_; rintro e w9 ⟨rfl, hw9⟩; obtain rfl := hw9.symm; have mm5 := hid True.intro))
  have hsl := slice_hi (some ⟨bb, bo, none⟩) bL c4 k (by have := HO8.out.read.cap_; have := HKL.out; omega)
  have HTK := hid (HO8.out.read.take k (by have := HKL.out; omega) (HO8.out.read.none_len k (by have := HKL.out; omega)))
  have HG : Hid (psC ((ly o).take k) = none) := psc_not (o := o) (fun y hy => HO8.out.small y (List.mem_of_mem_take hy)) HF.out HN6.out (by rw [List.length_take]; have := HKL.out; have := HN4.out; omega) (fun i h1 h2 => by rw [List.length_take] at h1; rw [List.getElem?_take, if_pos (by omega)])
  have HZL := hid (cC_one (clz 0 0) Sl.nil Sl.nil)
  go_upto_region 8 with (first | (clear mm5; go_at_call 16; refine (parse_none (some ⟨bb, bo, none⟩) k c4 _ _ HTK.out (by have := HKL.out; omega) HG.out).mono ?_; rintro e w10 ⟨rfl, hb10⟩; rw [← HZZ.out]; obtain ⟨w11, hst11, hx11, hb11⟩ := store_new w10 (Z := Z) (t := 41) rfl HZO.out; have HC11 := hid ((HC8.out.later hb10).later hb11); have HX11 := hid ((HX8.out.later hb10).later hb11); have HO11 := hid ((HO8.out.later hb10).later hb11); have HB11 := hid (below_call (below_call HB8.out hb10) hb11); clear hb10 hb11 hx11; have mm6 := hid True.intro))
  obtain ⟨a12, c12, w12, hrun12, hown12, hgr12⟩ := append_any (Own.empty w11) (HO11.out.read.alloc (Obj.cells #[] 5)) (by simp) (by have := HBLN.out; omega)
  rw [Nat.zero_add, List.nil_append] at hown12
  rw [Nat.zero_add] at hrun12
  have T12 : Below w11.heap.size w11 w12 := But.below (below1 w11 _) hgr12.but (fun j hj => (Own.empty w11).blk j hj)
  obtain ⟨a13, c13, w13, hrun13, hown13, hgr13⟩ := append_byte (b := more) hown12 T12.size (by have := HBLN.out; omega) HMO.out
  have T13 : Below w11.heap.size w11 w13 := But.below T12 hgr13.but (fun j hj => hown12.blk j hj)
  have HRUN12 := hid hrun12
  have HRUN13 := hid hrun13
  have HO13 := hid hown13
  have HC13 := hid (HC11.out.later T13)
  have HX13 := hid (HX11.out.later T13)
  have HO11 := hid (HO11.out.later T13)
  have HB13 := hid (below_call HB11.out T13)
  have HH : Hid (psC (ly o ++ [more]) = none) := psc_not (o := o) (fun y hy => hown13.small y hy) HF.out HN6.out (by rw [List.length_append]; simp) (fun i h1 h2 => by rw [List.getElem?_append_left h2])
  have n8b : (op1 != 8) = true := by have := HN8.out; rw [HB.out.1] at this; simpa using this
  have n6b : (op1 == 6) = false := by have := HN6.out; rw [HB.out.1] at this; simpa using this
  clear hrun12 hrun13 hown12 hown13 hgr12 hgr13 T12 T13
  go_upto_region 12 with (first | (clear mm6; at_builtin; refine wpList_append_known rfl _ _ 28 rfl _ _ rfl rfl _ w12 HRUN12.out ?_; have mm7 := hid True.intro) | (clear mm7; at_builtin; refine wpList_append_known rfl _ _ 28 rfl _ _ rfl rfl _ w13 HRUN13.out ?_; have mm8 := hid True.intro) | (clear mm8; go_at_call 16; refine (parse_none a13 _ c13 _ _ HO13.out.read (by have := HBLN.out; omega) HH.out).mono ?_; rintro e w14 ⟨rfl, hb14⟩; rw [← HZZ.out]; obtain ⟨w15, hst15, hx15, hb15⟩ := store_new w14 (Z := Z) (t := 41) rfl HZO.out; have HC15 := hid ((HC13.out.later hb14).later hb15); have HX15 := hid ((HX13.out.later hb14).later hb15); have HO15 := hid ((HO11.out.later hb14).later hb15); have HB15 := hid (below_call (below_call HB13.out hb14) hb15); have z0 := HX15.out.cell 0 HM0.out.1; clear hb14 hb15 hx15; have mm9 := hid True.intro))
  go_quiet (fail)
  obtain ⟨W, hWe⟩ : ∃ W : World, W = w15.drewN nq := ⟨_, rfl⟩
  rw [← hWe]
  have BW : Below w15.heap.size w15 W := by rw [hWe]; exact ⟨rfl, rfl, rfl, Nat.le_refl _, fun _ _ => rfl⟩
  clear hWe
  have HXW := hid (HX15.out.later BW)
  have HOW := hid (HO15.out.later BW)
  have HBW := hid (below_call HB15.out BW)
  have HCW := hid (HC15.out.later BW)
  clear BW z0
  obtain ⟨w16, hst16, hx16, hb16⟩ := store_new W (Z := Z) (t := 41) (HLL.out.2.trans hZl.symm) HMO1.out
  have HLDW := hid (ld41 HXW.out.range HLL.out.2)
  have HX16 := hid (HXW.out.later hb16)
  have z16 := HX16.out.cell 0 HM0.out.1
  have f16 : w16.frozen? ⟨W.heap.size, 11, none⟩ = false := by have := (hx16.there 11 (by have := HLL.out.2; omega)).2; simpa using this
  have t16 := (hx16.there 11 (by have := HLL.out.2; omega)).1
  obtain ⟨v16, t16⟩ := Option.isSome_iff_exists.1 t16
  rw [Nat.zero_add] at t16
  have HLD17 := hid (ld41 (Bx.putq hx16 (j := 11) (by have := HLL.out.2; omega) (.int .i64 1)).range (by rw [List.length_set]; exact HLL.out.2))
  have T17 : Below W.heap.size W (w16.setCell ⟨W.heap.size, 11, none⟩ (.int .i64 1)) := hb16.setCell (Nat.le_refl _) _
  have HB17 := hid (below_call HBW.out T17)
  have HO17 := hid (HOW.out.later T17)
  have HC17 := hid ((HCW.out.index 1).later T17)
  have HSP : Hid (fm { o with index := 1 } = false) := spoil_index HF.out HN8.out
  clear hx16 hb16 T17
  have mn0 := hid True.intro
  go_upto_region 19 with (first | ((with_reducible refine ld_arm HLD17.out ?_ ?_); (· rfl)) | ((with_reducible refine ld_arm HLDW.out ?_ ?_); (· rfl)) | (clear mn0; go_at_call 15; refine (bytes_bad (M.set 11 (.int .i64 1)) { o with index := 1 } _ HC17.out HSP.out).mono ?_; rintro e w18 ⟨rfl, hb18⟩; have HB18 := hid (below_call HB17.out hb18); have HO18 := hid (HO17.out.later hb18); clear hb18; have mn1 := hid True.intro))
  obtain ⟨x, hx, hxb⟩ : ∃ x : Nat, 11 + more % 240 = x ∧ (10 < x ∧ x < 256) := ⟨_, rfl, by omega⟩
  have em : IntKind.i64.wrap (more : Int) = (more : Int) := by have := HMO.out; rw [IntKind.wrap_i64]; omega
  have er : ((more : Int).tmod 240) = ((more % 240 : Nat) : Int) := by rw [Int.tmod_eq_emod_of_nonneg (by omega)]; omega
  obtain ⟨r, hr⟩ : ∃ r : Nat, more % 240 = r := ⟨_, rfl⟩
  rw [hr] at er hx
  have ea : IntKind.i64.wrap (11 + (r : Int)) = (x : Int) := by rw [IntKind.wrap_i64]; omega
  have ec : IntKind.u8.wrap (x : Int) = (x : Int) := by rw [IntKind.wrap_u8]; omega
  have HXX := hid (And.intro hx hxb)
  clear hr hx hxb
  obtain ⟨a19, n19, c19, hsl19, hrw19, hn19⟩ : ∃ a n c, (∀ U : World, (Instr.sliceAt 28 (.slice (some ⟨bb, bo, none⟩) bL c4) (some (.int .i64 1)) none none).run Try.prog U = .ok (.slice a n c) U) ∧ Hid (∀ U : World, Row U (some ⟨bb, bo, none⟩) bL c4 (ly o) → Row U a n c ((ly o).drop 1)) ∧ Hid (n = bL - 1) := ⟨_, _, _, fun U => slice_lY U _ bL c4 1 (by omega) HO18.out.read.cap_, fun U h => h.dropY 1 (by omega), rfl⟩
  obtain ⟨a20, c20, w20, hrun20, hown20, hgr20⟩ := append_any (Own.one1 w18 x HXX.out.2.2) (hrw19.out _ (HO18.out.read.alloc (Obj.cells #[.int .u8 (x : Int)] 5))) (by simp) (by have := HBLN.out; have := hn19.out; omega)
  have T20 : Below w18.heap.size w18 w20 := But.below (below1 w18 _) hgr20.but (fun j hj => (Own.one1 w18 x HXX.out.2.2).blk j hj)
  have HB20 := hid (below_call HB18.out T20)
  have HRUN20 := hid hrun20
  have HO20 := hid hown20
  have HJ : Hid (psC ([x] ++ (ly o).drop 1) = none) := head_bad HXX.out.2.1 HXX.out.2.2 (fun y hy => HO18.out.small y (List.mem_of_mem_drop hy))
  have HZF : Hid (Z[0]? = some (.int .i64 0)) := by unfold Hid; rw [HZZ.out]; rfl
  clear hrun20 hown20 hgr20 T20
  go_wp2_with (first | (clear mn1; at_builtin; refine wpList_append_known rfl _ _ 28 rfl _ _ rfl rfl _ w20 HRUN20.out ?_; have mn2 := hid True.intro) | (clear mn2; go_at_call 16; refine (parse_none a20 _ c20 _ _ HO20.out.read (by have := HBLN.out; have := hn19.out; omega) HJ.out).mono ?_; rintro e w21 ⟨rfl, hb21⟩; rw [← HZZ.out]; obtain ⟨w22, hst22, hx22, hb22⟩ := store_new w21 (Z := Z) (t := 41) rfl HZO.out; have z22 := hx22.cell 0 HZF.out; have HB22 := hid (below_call (below_call HB20.out hb21) hb22); clear hb21 hb22 hx22; have mn3 := hid True.intro))
  go_ret
  exact ⟨rfl, HB22.out⟩
end Go.Proofs.Ytaffgoacbiedlaa
namespace Go.Proofs.Ytaffgoacbiedlaa
open Go.RowKit
set_option linter.unusedVariables false
set_option linter.unusedSimpArgs false

set_option maxRecDepth 100000 in
set_option maxHeartbeats 8000000 in
theorem back_B (L : List Value) (c : Cl) (cut : Int) (more : Nat) (w : World) (h : Cc w L c) (o : Cl) (ho : o = foR c) (y1 : Int) (hop : o.op = 8) (hyy : o.by_ = y1) (b0 b1 b2 bL : Nat) (T : List Nat) (hly : ly o = b0 :: b1 :: b2 :: T) (hb0 : (b0 : Int) = 8) (hb12 : (b1 : Int) + 256 * (b2 : Int) = y1) (hbb : b0 < 256 ∧ b1 < 256 ∧ b2 < 256) (hbl : T.length + 3 = bL) (hbl2 : bL ≤ 100000) (hw : o.hi < 18446744073709551616 ∧ o.lo < 18446744073709551616) (k : Nat) (hk : cut % (bL : Int) = (k : Int)) (hkl : k < bL) (hn6 : o.op = 8) (hmo : more < 256) :
    Calls Try.prog 4 #[.agg L.toArray, .int .i64 cut, .int .u8 (more : Int)] w fun e w' => e = .returned (.bool true) ∧ Below w.heap.size w w' := by
  obtain ⟨Z, hZl, hZo, hZz, hz⟩ := zero41
  have hZ0 : (Z.toArray = #[]) = False := by simp; intro h; rw [h] at hZl; simp at hZl
  have HF : Hid (fm o = true) := by unfold Hid; rw [ho]; exact fm_foR c
  have HGF := hid (fm_gifts HF.out)
  have HSM := hid (smB_self o)
  have HLY := hid hly
  have X1 := Bx.new w L 41
  have HLD1 := hid (ld41 X1.range h.len)
  have HC1 : Hid (Cc (w.alloc (Obj.cells L.toArray 41)) L c) := h.later (below1 _ _)
  have HHO := hid ho
  have HZO := hid hZo
  have HW := hid hw
  have HBLN : Hid (T.length + 3 = bL ∧ bL ≤ 100000) := ⟨hbl, hbl2⟩
  have HZZ := hid hZz
  have HK := hid hk
  have HKL := hid hkl
  have HN6 := hid hn6
  have HMO := hid hmo
  clear hk hkl hn6 hmo
  have HB := hid (And.intro hop hyy)
  clear X1 h ho hly hZo hZz hop hyy
  have e1 : IntKind.i64.wrap (256 * (b2 : Int)) = 256 * (b2 : Int) := by rw [IntKind.wrap_i64]; omega
  have e2 : IntKind.i64.wrap ((b1 : Int) + 256 * (b2 : Int)) = y1 := by rw [IntKind.wrap_i64]; omega
  have d3 : decide ((bL : Int) < 3) = false := by simp; omega
  have d3' : decide (bL < 3) = false := by simp; omega
  have g0 : (0 : Int) < (bL : Int) := by omega
  have g1 : (1 : Int) < (bL : Int) := by omega
  have g2' : (2 : Int) < (bL : Int) := by omega
  have ne0 : ((b0 : Int) != 8) = false := by simp [hb0]
  have eb0 : IntKind.i64.wrap (b0 : Int) = (b0 : Int) := by rw [IntKind.wrap_i64]; omega
  have eb1 : IntKind.i64.wrap (b1 : Int) = (b1 : Int) := by rw [IntKind.wrap_i64]; omega
  have eb2 : IntKind.i64.wrap (b2 : Int) = (b2 : Int) := by rw [IntKind.wrap_i64]; omega
  have HEW : Hid (IntKind.i64.wrap 8 = 8) := by unfold Hid; rw [← hb0]; exact eb0
  have g0n : 0 < bL := by omega
  have g1n : 1 < bL := by omega
  have g2n : 2 < bL := by omega
  have HB0 := hid (And.intro hb0 hb12)
  clear hb0 hb12
  have HPS : Hid (psC (ly o) = some o) := by
    unfold Hid
    have hw : o.hi < 18446744073709551616 ∧ o.lo < 18446744073709551616 := HW.out
    exact ps_lay HF.out hw.1 hw.2
  have mm0 := hid True.intro
  go_enter Try.func4, Try.ntmps4
  go_upto_region 4 with (first | ((with_reducible refine ld_arm HLD3.out ?_ ?_); (· rfl)) | ((with_reducible refine ld_arm HLD1.out ?_ ?_); (· rfl)) | (clear mm0; go_at_call 14; refine (formed_any L c _ HC1.out).mono ?_; rintro e w2 ⟨M, rfl, hc2, hb2⟩; rw [← HHO.out] at hc2; have hml := hc2.len; obtain ⟨w3, hst3, hx3, hb3⟩ := store_new w2 (Z := Z) (t := 41) (hml.trans hZl.symm) hc2.one; have HX3 := hid hx3; have HLD3 := hid (ld41 hx3.range hml); have HC3 := hid (hc2.later hb3); have HB3 := hid (below_call (below_call (below1 w _) hb2) hb3); clear hc2 hb2 hb3 hx3; have mm1 := hid True.intro) | (clear mm1; go_at_call 15; refine (bytes_ok M o _ HC3.out HF.out).mono ?_; rintro e w4 ⟨a4, n4, c4, rfl, hown4, hb4⟩; have HN4 := hid hown4.len; have HO4 := hid hown4; have HX4 := hid (HX3.out.later hb4); have HC4 := hid (HC3.out.later hb4); have HB4 := hid (below_call HB3.out hb4); clear hown4 hb4; have mm2 := hid True.intro) | (clear mm2; go_at_call 16; refine (parse_some a4 n4 c4 (ly o) _ HO4.out.read (by have := HN4.out; rw [HLY.out] at this; have := HGF.out; have := HBLN.out; simp at *; omega) HPS.out).mono ?_; rintro e w5 ⟨Lp, rfl, hc5, hb5⟩; have hll := hc5.len; obtain ⟨w6, hst6, hx6, hb6⟩ := store_new w5 (Z := Z) (t := 41) (hll.trans hZl.symm) hc5.one; have HXP6 := hid hx6; have HX6 := hid ((HX4.out.later hb5).later hb6); have HC6 := hid (And.intro (hc5.cc.later hb6) ((HC4.out.later hb5).later hb6)); have HO6 := hid ((HO4.out.later hb5).later hb6); have HB6 := hid (below_call (below_call HB4.out hb5) hb6); clear hc5 hb5 hb6 hx6; have mm3 := hid True.intro))
  have hn4 : bL = n4 := by
    have := HN4.out
    rw [HLY.out] at this
    simp at this
    have := HBLN.out
    omega
  subst hn4
  obtain ⟨bb, bo, rfl, _⟩ := HO6.out.read.plain (by have := HBLN.out; omega)
  have k0 : w6.cell? ⟨bb, bo, none⟩ = some (.int .u8 (b0 : Int)) := by have := HO6.out.read.cells _ rfl 0 (.int .u8 (b0 : Int)) (by rw [HLY.out]; rfl); simpa [Addr.add] using this
  have k1 : w6.cell? ⟨bb, bo + 1, none⟩ = some (.int .u8 (b1 : Int)) := by have := HO6.out.read.cells _ rfl 1 (.int .u8 (b1 : Int)) (by rw [HLY.out]; rfl); simpa [Addr.add] using this
  have k2 : w6.cell? ⟨bb, bo + 2, none⟩ = some (.int .u8 (b2 : Int)) := by have := HO6.out.read.cells _ rfl 2 (.int .u8 (b2 : Int)) (by rw [HLY.out]; rfl); simpa [Addr.add] using this
  have HSL : Hid (∀ U V : World, Below U.heap.size U V → (fun U : World => Bx U w5.heap.size Lp ∧ Bx U w2.heap.size M ∧ U.cell? ⟨bb, bo, none⟩ = some (.int .u8 (b0 : Int)) ∧ U.cell? ⟨bb, bo + 1, none⟩ = some (.int .u8 (b1 : Int)) ∧ U.cell? ⟨bb, bo + 2, none⟩ = some (.int .u8 (b2 : Int))) U → (fun U : World => Bx U w5.heap.size Lp ∧ Bx U w2.heap.size M ∧ U.cell? ⟨bb, bo, none⟩ = some (.int .u8 (b0 : Int)) ∧ U.cell? ⟨bb, bo + 1, none⟩ = some (.int .u8 (b1 : Int)) ∧ U.cell? ⟨bb, bo + 2, none⟩ = some (.int .u8 (b2 : Int))) V) := fun U V hb hs => ⟨hs.1.later hb, hs.2.1.later hb, cell_later hb hs.2.2.1, cell_later hb hs.2.2.2.1, cell_later hb hs.2.2.2.2⟩
  have HSA : Hid ((fun U : World => Bx U w5.heap.size Lp ∧ Bx U w2.heap.size M ∧ U.cell? ⟨bb, bo, none⟩ = some (.int .u8 (b0 : Int)) ∧ U.cell? ⟨bb, bo + 1, none⟩ = some (.int .u8 (b1 : Int)) ∧ U.cell? ⟨bb, bo + 2, none⟩ = some (.int .u8 (b2 : Int))) w6.drew) := HSL.out _ _ (Below.refl _ _).drew ⟨HXP6.out, HX6.out, k0, k1, k2⟩
  have HM0 : Hid (M[0]? = some (.int .i64 8) ∧ M[1]? = some (.int .i64 y1)) := by
    obtain ⟨d, g, e, _⟩ := HC6.out.2.ex
    unfold Hid
    rw [e, ← HB.out.1, ← HB.out.2]
    exact ⟨rfl, rfl⟩
  have HMO1 := hid HC6.out.2.one
  have HLL : Hid (Lp.length = 13 ∧ M.length = 13) := ⟨hll, hml⟩
  have HC6 := hid (And.intro (HC6.out.1.later (Below.refl _ w6).drew) (HC6.out.2.later (Below.refl _ w6).drew))
  have HO6 := hid (HO6.out.later (Below.refl _ w6).drew)
  have HB6 := hid HB6.out.drew
  clear k0 k1 k2
  refine wp_region_held_drew (S := (fun U : World => Bx U w5.heap.size Lp ∧ Bx U w2.heap.size M ∧ U.cell? ⟨bb, bo, none⟩ = some (.int .u8 (b0 : Int)) ∧ U.cell? ⟨bb, bo + 1, none⟩ = some (.int .u8 (b1 : Int)) ∧ U.cell? ⟨bb, bo + 2, none⟩ = some (.int .u8 (b2 : Int)))) (by kernel_rfl) (HSA.out) (fun hHeld => ?_)
  refine wpAnyH_norm (l2 := #[false, false, false, false, false, false, false, false, false, false, false, false, false, false, false, false, false, false, false, false, false, false, false, false, false, false, false, false, false, false, false, false, false, false, false, false, false, false, false, false, false, false, false, false, false]) (f2 := 45) (by kernel_rfl) (by kernel_rfl) ?_
  refine wpAnyH_ready (rs := [0]) (by kernel_rfl) (by simp) ?_
  refine AllReadyH.cons rfl (fun K hK => ?_) AllReadyH.nil
  go_simp
  go_wp2_with (first | (go_at_call 12; refine (known_any _).mono ?_; rintro e w7 ⟨rfl, hb7⟩; have HB7 := hid (below_call HB6.out hb7); have HS7 := hid (HSL.out _ _ hb7 HSA.out); have HC7 := hid (And.intro (HC6.out.1.later hb7) (HC6.out.2.later hb7)); have HO7 := hid (HO6.out.later hb7); clear hb7))
  refine hK.out _ _ (HS7.out) (fun hHeld => ?_)
  clear hK K
  simp only [List.getElem_toArray, List.getElem_cons_succ, List.getElem_cons_zero, Act.put, List.setIfInBounds_toArray, List.set_cons_zero, List.set_cons_succ]
  refine wpAnyH_norm (l2 := #[true, false, false, false, false, false, false, false, false, false, false, false, false, false, false, false, false, false, false, false, false, false, false, false, false, false, false, false, false, false, false, false, false, false, false, false, false, false, false, false, false, false, false, false, false]) (f2 := 44) (by kernel_rfl) (by kernel_rfl) ?_
  refine wpAnyH_take (i := 1) (oi := _) (v := ?_) rfl (by kernel_rfl) (by kernel_rfl) (by kernel_rfl) (fun _ _ _ h => h) (Or.inl ⟨by rfl, ?_⟩) (by assumption) ?_
  rotate_left
  · (intro w hSw; (try dsimp only at hSw); go_simp; try with_reducible rfl)
  simp only [List.getElem_toArray, List.getElem_cons_succ, List.getElem_cons_zero, Act.put, List.setIfInBounds_toArray, List.set_cons_zero, List.set_cons_succ]
  refine wpAnyH_norm (l2 := #[true, true, false, false, false, false, false, false, false, false, false, false, false, false, false, false, false, false, false, false, false, false, false, false, false, false, false, false, false, false, false, false, false, false, false, false, false, false, false, false, false, false, false, false, false]) (f2 := 43) (by kernel_rfl) (by kernel_rfl) ?_
  refine wpAnyH_take (i := 2) (oi := _) (v := ?_) rfl (by kernel_rfl) (by kernel_rfl) (by kernel_rfl) (fun _ _ _ h => h) (Or.inl ⟨by rfl, ?_⟩) (by assumption) ?_
  rotate_left
  · (intro w hSw; (try dsimp only at hSw); go_simp; try with_reducible rfl)
  simp only [List.getElem_toArray, List.getElem_cons_succ, List.getElem_cons_zero, Act.put, List.setIfInBounds_toArray, List.set_cons_zero, List.set_cons_succ]
  refine wpAnyH_norm (l2 := #[true, true, true, false, false, false, false, false, false, false, false, false, false, false, false, false, false, false, false, false, false, false, false, false, false, false, false, false, false, false, false, false, false, false, false, false, false, false, false, false, false, false, false, false, false]) (f2 := 42) (by kernel_rfl) (by kernel_rfl) ?_
  refine wpAnyH_take (i := 3) (oi := _) (v := ?_) rfl (by kernel_rfl) (by kernel_rfl) (by kernel_rfl) (fun _ _ _ h => h) (Or.inl ⟨by rfl, ?_⟩) (by assumption) ?_
  rotate_left
  · (intro w hSw; (try dsimp only at hSw); go_simp; try with_reducible rfl)
  simp only [List.getElem_toArray, List.getElem_cons_succ, List.getElem_cons_zero, Act.put, List.setIfInBounds_toArray, List.set_cons_zero, List.set_cons_succ]
  refine wpAnyH_norm (l2 := #[true, true, true, true, false, false, false, false, false, false, false, false, false, false, false, false, false, false, false, false, false, false, false, false, false, false, false, false, false, false, false, false, false, false, false, false, false, false, false, false, false, false, false, false, false]) (f2 := 41) (by kernel_rfl) (by kernel_rfl) ?_
  refine wpAnyH_take (i := 4) (oi := _) (v := ?_) rfl (by kernel_rfl) (by kernel_rfl) (by kernel_rfl) (fun _ _ _ h => h) (Or.inl ⟨by rfl, ?_⟩) (by assumption) ?_
  rotate_left
  · (intro w hSw; (try dsimp only at hSw); go_simp; try with_reducible rfl)
  simp only [List.getElem_toArray, List.getElem_cons_succ, List.getElem_cons_zero, Act.put, List.setIfInBounds_toArray, List.set_cons_zero, List.set_cons_succ]
  refine wpAnyH_norm (l2 := #[true, true, true, true, true, false, false, false, false, false, false, false, false, false, false, false, false, false, false, false, false, false, false, false, false, false, false, false, false, false, false, false, false, false, false, false, false, false, false, false, false, false, false, false, false]) (f2 := 40) (by kernel_rfl) (by kernel_rfl) ?_
  refine wpAnyH_take (i := 5) (oi := _) (v := ?_) rfl (by kernel_rfl) (by kernel_rfl) (by kernel_rfl) (fun _ _ _ h => h) (Or.inl ⟨by rfl, ?_⟩) (by assumption) ?_
  rotate_left
  · (intro w hSw; (try dsimp only at hSw); go_simp; try with_reducible rfl)
  simp only [List.getElem_toArray, List.getElem_cons_succ, List.getElem_cons_zero, Act.put, List.setIfInBounds_toArray, List.set_cons_zero, List.set_cons_succ]
  refine wpAnyH_norm (l2 := #[true, true, true, true, true, true, false, false, false, false, false, false, false, false, false, false, false, false, false, false, false, false, false, false, false, false, false, false, false, false, false, false, false, false, false, false, false, false, false, false, false, false, false, false, false]) (f2 := 39) (by kernel_rfl) (by kernel_rfl) ?_
  refine wpAnyH_take (i := 6) (oi := _) (v := ?_) rfl (by kernel_rfl) (by kernel_rfl) (by kernel_rfl) (fun _ _ _ h => h) (Or.inl ⟨by rfl, ?_⟩) (by assumption) ?_
  rotate_left
  · (intro w hSw; (try dsimp only at hSw); go_simp; try with_reducible rfl)
  simp only [List.getElem_toArray, List.getElem_cons_succ, List.getElem_cons_zero, Act.put, List.setIfInBounds_toArray, List.set_cons_zero, List.set_cons_succ]
  refine wpAnyH_norm (l2 := #[true, true, true, true, true, true, true, false, false, false, false, false, false, false, false, false, false, false, false, false, false, false, false, false, false, false, false, false, false, false, false, false, false, false, false, false, false, false, false, false, false, false, false, false, false]) (f2 := 38) (by kernel_rfl) (by kernel_rfl) ?_
  refine wpAnyH_take (i := 7) (oi := _) (v := ?_) rfl (by kernel_rfl) (by kernel_rfl) (by kernel_rfl) (fun _ _ _ h => h) (Or.inl ⟨by rfl, ?_⟩) (by assumption) ?_
  rotate_left
  · (intro w hSw; (try dsimp only at hSw); go_simp; try with_reducible rfl)
  simp only [List.getElem_toArray, List.getElem_cons_succ, List.getElem_cons_zero, Act.put, List.setIfInBounds_toArray, List.set_cons_zero, List.set_cons_succ]
  refine wpAnyH_norm (l2 := #[true, true, true, true, true, true, true, true, false, false, false, false, false, false, false, false, false, false, false, false, false, false, false, false, false, false, false, false, false, false, false, false, false, false, false, false, false, false, false, false, false, false, false, false, false]) (f2 := 37) (by kernel_rfl) (by kernel_rfl) ?_
  refine wpAnyH_take (i := 8) (oi := _) (v := ?_) rfl (by kernel_rfl) (by kernel_rfl) (by kernel_rfl) (fun _ _ _ h => h) (Or.inl ⟨by rfl, ?_⟩) (by assumption) ?_
  rotate_left
  · (intro w hSw; (try dsimp only at hSw); go_simp; try with_reducible rfl)
  simp only [List.getElem_toArray, List.getElem_cons_succ, List.getElem_cons_zero, Act.put, List.setIfInBounds_toArray, List.set_cons_zero, List.set_cons_succ]
  refine wpAnyH_norm (l2 := #[true, true, true, true, true, true, true, true, true, false, false, false, false, false, false, false, false, false, false, false, false, false, false, false, false, false, false, false, false, false, false, false, false, false, false, false, false, false, false, false, false, false, false, false, false]) (f2 := 36) (by kernel_rfl) (by kernel_rfl) ?_
  refine wpAnyH_take (i := 9) (oi := _) (v := ?_) rfl (by kernel_rfl) (by kernel_rfl) (by kernel_rfl) (fun _ _ _ h => h) (Or.inl ⟨by rfl, ?_⟩) (by assumption) ?_
  rotate_left
  · (intro w hSw; (try dsimp only at hSw); go_simp; try with_reducible rfl)
  simp only [List.getElem_toArray, List.getElem_cons_succ, List.getElem_cons_zero, Act.put, List.setIfInBounds_toArray, List.set_cons_zero, List.set_cons_succ]
  refine wpAnyH_norm (l2 := #[true, true, true, true, true, true, true, true, true, true, false, false, false, false, false, false, false, false, false, false, false, false, false, false, false, false, false, false, false, false, false, false, false, false, false, false, false, false, false, false, false, false, false, false, false]) (f2 := 35) (by kernel_rfl) (by kernel_rfl) ?_
  refine wpAnyH_take (i := 10) (oi := _) (v := ?_) rfl (by kernel_rfl) (by kernel_rfl) (by kernel_rfl) (fun _ _ _ h => h) (Or.inl ⟨by rfl, ?_⟩) (by assumption) ?_
  rotate_left
  · (intro w hSw; (try dsimp only at hSw); go_simp; try with_reducible rfl)
  simp only [List.getElem_toArray, List.getElem_cons_succ, List.getElem_cons_zero, Act.put, List.setIfInBounds_toArray, List.set_cons_zero, List.set_cons_succ]
  refine wpAnyH_norm (l2 := #[true, true, true, true, true, true, true, true, true, true, true, false, false, false, false, false, false, false, false, false, false, false, false, false, false, false, false, false, false, false, false, false, false, false, false, false, false, false, false, false, false, false, false, false, false]) (f2 := 34) (by kernel_rfl) (by kernel_rfl) ?_
  refine wpAnyH_take (i := 11) (oi := _) (v := .agg Lp.toArray) rfl (by kernel_rfl) (by kernel_rfl) (by kernel_rfl) (fun _ _ _ h => h) (Or.inl ⟨by rfl, ?_⟩) (by assumption) ?_
  · (intro w hSw; (try dsimp only at hSw); exact ex_load rfl rfl (ld41 hSw.1.range HLL.out.1))
  simp only [List.getElem_toArray, List.getElem_cons_succ, List.getElem_cons_zero, Act.put, List.setIfInBounds_toArray, List.set_cons_zero, List.set_cons_succ]
  refine wpAnyH_norm (l2 := #[true, true, true, true, true, true, true, true, true, true, true, true, false, false, false, false, false, false, false, false, false, false, false, false, false, false, false, false, false, false, false, false, false, false, false, false, false, false, false, false, false, false, false, false, false]) (f2 := 33) (by kernel_rfl) (by kernel_rfl) ?_
  refine wpAnyH_take (i := 12) (oi := _) (v := .agg M.toArray) rfl (by kernel_rfl) (by kernel_rfl) (by kernel_rfl) (fun _ _ _ h => h) (Or.inl ⟨by rfl, ?_⟩) (by assumption) ?_
  · (intro w hSw; (try dsimp only at hSw); exact ex_load rfl rfl (ld41 hSw.2.1.range HLL.out.2))
  simp only [List.getElem_toArray, List.getElem_cons_succ, List.getElem_cons_zero, Act.put, List.setIfInBounds_toArray, List.set_cons_zero, List.set_cons_succ]
  refine wpAnyH_norm (l2 := #[true, true, true, true, true, true, true, true, true, true, true, true, true, false, false, false, false, false, false, false, false, false, false, false, false, false, false, false, false, false, false, false, false, false, false, false, false, false, false, false, false, false, false, false, false]) (f2 := 32) (by kernel_rfl) (by kernel_rfl) ?_
  refine wpAnyH_ready (rs := [13]) (by kernel_rfl) (by simp) ?_
  refine AllReadyH.cons rfl (fun K hK => ?_) AllReadyH.nil
  go_simp
  go_wp2_with (first | (go_at_call 17; refine (same_any Lp M o o _ HC7.out.1 HC7.out.2 (by have := HGF.out; omega)).mono ?_; rintro e w8 ⟨rfl, hb8⟩; rw [HSM.out]; have HB8 := hid (below_call HB7.out hb8); have HS8 := hid (HSL.out _ _ hb8 HS7.out); have HC8 := hid (HC7.out.2.later hb8); have HO8 := hid (HO7.out.later hb8); clear hb8))
  refine hK.out _ _ (HS8.out) (fun hHeld => ?_)
  clear hK K
  simp only [List.getElem_toArray, List.getElem_cons_succ, List.getElem_cons_zero, Act.put, List.setIfInBounds_toArray, List.set_cons_zero, List.set_cons_succ]
  refine wpAnyH_norm (l2 := #[true, true, true, true, true, true, true, true, true, true, true, true, true, true, false, false, false, false, false, false, false, false, false, false, false, false, false, false, false, false, false, false, false, false, false, false, false, false, false, false, false, false, false, false, false]) (f2 := 31) (by kernel_rfl) (by kernel_rfl) ?_
  refine wpAnyH_take (i := 14) (oi := _) (v := ?_) rfl (by kernel_rfl) (by kernel_rfl) (by kernel_rfl) (fun _ _ _ h => h) (Or.inl ⟨by rfl, ?_⟩) (by assumption) ?_
  rotate_left
  · (intro w hSw; (try dsimp only at hSw); go_simp; try with_reducible rfl)
  simp only [List.getElem_toArray, List.getElem_cons_succ, List.getElem_cons_zero, Act.put, List.setIfInBounds_toArray, List.set_cons_zero, List.set_cons_succ]
  refine wpAnyH_norm (l2 := #[true, true, true, true, true, true, true, true, true, true, true, true, true, true, true, false, false, false, false, false, false, false, false, false, false, false, false, false, false, false, false, false, false, false, false, false, false, false, false, false, false, false, false, false, false]) (f2 := 30) (by kernel_rfl) (by kernel_rfl) ?_
  refine wpAnyH_take (i := 15) (oi := _) (v := ?_) rfl (by kernel_rfl) (by kernel_rfl) (by kernel_rfl) (fun _ _ _ h => h) (Or.inl ⟨by rfl, ?_⟩) (by assumption) ?_
  rotate_left
  · (intro w hSw; (try dsimp only at hSw); go_simp; try with_reducible rfl)
  simp only [List.getElem_toArray, List.getElem_cons_succ, List.getElem_cons_zero, Act.put, List.setIfInBounds_toArray, List.set_cons_zero, List.set_cons_succ]
  refine wpAnyH_norm (l2 := #[true, true, true, true, true, true, true, true, true, true, true, true, true, true, true, true, false, false, false, false, false, false, false, false, false, false, false, false, false, false, false, false, false, false, false, false, false, false, false, false, false, false, false, false, false]) (f2 := 29) (by kernel_rfl) (by kernel_rfl) ?_
  refine wpAnyH_take (i := 16) (oi := _) (v := ?_) rfl (by kernel_rfl) (by kernel_rfl) (by kernel_rfl) (fun _ _ _ h => h) (Or.inl ⟨by rfl, ?_⟩) (by assumption) ?_
  rotate_left
  · (intro w hSw; (try dsimp only at hSw); go_simp; try with_reducible rfl)
  simp only [List.getElem_toArray, List.getElem_cons_succ, List.getElem_cons_zero, Act.put, List.setIfInBounds_toArray, List.set_cons_zero, List.set_cons_succ]
  refine wpAnyH_norm (l2 := #[true, true, true, true, true, true, true, true, true, true, true, true, true, true, true, true, true, false, false, false, false, false, false, false, false, false, false, false, false, false, false, false, false, false, false, false, false, false, false, false, false, false, false, false, false]) (f2 := 28) (by kernel_rfl) (by kernel_rfl) ?_
  refine wpAnyH_take (i := 17) (oi := _) (v := ?_) rfl (by kernel_rfl) (by kernel_rfl) (by kernel_rfl) (fun _ _ _ h => h) (Or.inl ⟨by rfl, ?_⟩) (by assumption) ?_
  rotate_left
  · (intro w hSw; (try dsimp only at hSw); go_simp; try with_reducible rfl)
  simp only [List.getElem_toArray, List.getElem_cons_succ, List.getElem_cons_zero, Act.put, List.setIfInBounds_toArray, List.set_cons_zero, List.set_cons_succ]
  refine wpAnyH_norm (l2 := #[true, true, true, true, true, true, true, true, true, true, true, true, true, true, true, true, true, true, false, false, false, false, false, false, false, false, false, false, false, false, false, false, false, false, false, false, false, false, false, false, false, false, false, false, false]) (f2 := 27) (by kernel_rfl) (by kernel_rfl) ?_
  refine wpAnyH_take (i := 18) (oi := _) (v := ?_) rfl (by kernel_rfl) (by kernel_rfl) (by kernel_rfl) (fun _ _ _ h => h) (Or.inl ⟨by rfl, ?_⟩) (by assumption) ?_
  rotate_left
  · (intro w hSw; (try dsimp only at hSw); go_simp; try with_reducible rfl)
  simp only [List.getElem_toArray, List.getElem_cons_succ, List.getElem_cons_zero, Act.put, List.setIfInBounds_toArray, List.set_cons_zero, List.set_cons_succ]
  refine wpAnyH_norm (l2 := #[true, true, true, true, true, true, true, true, true, true, true, true, true, true, true, true, true, true, true, false, false, false, false, false, false, false, false, false, false, false, false, false, false, false, false, false, false, false, false, false, false, false, false, false, false]) (f2 := 26) (by kernel_rfl) (by kernel_rfl) ?_
  refine wpAnyH_take (i := 19) (oi := _) (v := ?_) rfl (by kernel_rfl) (by kernel_rfl) (by kernel_rfl) (fun _ _ _ h => h) (Or.inl ⟨by rfl, ?_⟩) (by assumption) ?_
  rotate_left
  · (intro w hSw; (try dsimp only at hSw); go_simp; try with_reducible rfl)
  simp only [List.getElem_toArray, List.getElem_cons_succ, List.getElem_cons_zero, Act.put, List.setIfInBounds_toArray, List.set_cons_zero, List.set_cons_succ]
  refine wpAnyH_norm (l2 := #[true, true, true, true, true, true, true, true, true, true, true, true, true, true, true, true, true, true, true, true, false, false, false, false, false, false, false, false, false, false, false, false, false, false, false, false, false, false, false, false, false, false, false, false, false]) (f2 := 25) (by kernel_rfl) (by kernel_rfl) ?_
  refine wpAnyH_take (i := 20) (oi := _) (v := ?_) rfl (by kernel_rfl) (by kernel_rfl) (by kernel_rfl) (fun _ _ _ h => h) (Or.inl ⟨by rfl, ?_⟩) (by assumption) ?_
  rotate_left
  · (intro w hSw; (try dsimp only at hSw); go_simp; try with_reducible rfl)
  simp only [List.getElem_toArray, List.getElem_cons_succ, List.getElem_cons_zero, Act.put, List.setIfInBounds_toArray, List.set_cons_zero, List.set_cons_succ]
  refine wpAnyH_norm (l2 := #[true, true, true, true, true, true, true, true, true, true, true, true, true, true, true, true, true, true, true, true, true, false, false, false, false, false, false, false, false, false, false, false, false, false, false, false, false, false, false, false, false, false, false, false, false]) (f2 := 24) (by kernel_rfl) (by kernel_rfl) ?_
  refine wpAnyH_take (i := 21) (oi := _) (v := ?_) rfl (by kernel_rfl) (by kernel_rfl) (by kernel_rfl) (fun _ _ _ h => h) (Or.inl ⟨by rfl, ?_⟩) (by assumption) ?_
  rotate_left
  · (intro w hSw; (try dsimp only at hSw); go_simp; try with_reducible rfl)
  simp only [List.getElem_toArray, List.getElem_cons_succ, List.getElem_cons_zero, Act.put, List.setIfInBounds_toArray, List.set_cons_zero, List.set_cons_succ]
  refine wpAnyH_norm (l2 := #[true, true, true, true, true, true, true, true, true, true, true, true, true, true, true, true, true, true, true, true, true, true, false, false, false, false, false, false, false, false, false, false, false, false, false, false, false, false, false, false, false, false, false, false, false]) (f2 := 23) (by kernel_rfl) (by kernel_rfl) ?_
  refine wpAnyH_take (i := 22) (oi := _) (v := ?_) rfl (by kernel_rfl) (by kernel_rfl) (by kernel_rfl) (fun _ _ _ h => h) (Or.inl ⟨by rfl, ?_⟩) (by assumption) ?_
  rotate_left
  · (intro w hSw; (try dsimp only at hSw); go_simp; try with_reducible rfl)
  simp only [List.getElem_toArray, List.getElem_cons_succ, List.getElem_cons_zero, Act.put, List.setIfInBounds_toArray, List.set_cons_zero, List.set_cons_succ]
  refine wpAnyH_norm (l2 := #[true, true, true, true, true, true, true, true, true, true, true, true, true, true, true, true, true, true, true, true, true, true, true, false, false, false, false, false, false, false, false, false, false, false, false, false, false, false, false, false, false, false, false, false, false]) (f2 := 22) (by kernel_rfl) (by kernel_rfl) ?_
  refine wpAnyH_take (i := 23) (oi := _) (v := ?_) rfl (by kernel_rfl) (by kernel_rfl) (by kernel_rfl) (fun _ _ _ h => h) (Or.inl ⟨by rfl, ?_⟩) (by assumption) ?_
  rotate_left
  · (intro w hSw; (try dsimp only at hSw); go_simp; try with_reducible rfl)
  simp only [List.getElem_toArray, List.getElem_cons_succ, List.getElem_cons_zero, Act.put, List.setIfInBounds_toArray, List.set_cons_zero, List.set_cons_succ]
  refine wpAnyH_norm (l2 := #[true, true, true, true, true, true, true, true, true, true, true, true, true, true, true, true, true, true, true, true, true, true, true, true, false, false, false, false, false, false, false, false, false, false, false, false, false, false, false, false, false, false, false, false, false]) (f2 := 21) (by kernel_rfl) (by kernel_rfl) ?_
  refine wpAnyH_take (i := 24) (oi := _) (v := .int .u8 (b0 : Int)) rfl (by kernel_rfl) (by kernel_rfl) (by kernel_rfl) (fun _ _ _ h => h) (Or.inl ⟨by rfl, ?_⟩) (by assumption) ?_
  · (intro w hSw; (try dsimp only at hSw); obtain ⟨s1, s2, s3, s4, s5⟩ := hSw; go_simp; try with_reducible rfl)
  simp only [List.getElem_toArray, List.getElem_cons_succ, List.getElem_cons_zero, Act.put, List.setIfInBounds_toArray, List.set_cons_zero, List.set_cons_succ]
  refine wpAnyH_norm (l2 := #[true, true, true, true, true, true, true, true, true, true, true, true, true, true, true, true, true, true, true, true, true, true, true, true, true, false, false, false, false, false, false, false, false, false, false, false, false, false, false, false, false, false, false, false, false]) (f2 := 20) (by kernel_rfl) (by kernel_rfl) ?_
  refine wpAnyH_take (i := 25) (oi := _) (v := ?_) rfl (by kernel_rfl) (by kernel_rfl) (by kernel_rfl) (fun _ _ _ h => h) (Or.inl ⟨by rfl, ?_⟩) (by assumption) ?_
  rotate_left
  · (intro w hSw; (try dsimp only at hSw); go_simp; try with_reducible rfl)
  simp only [List.getElem_toArray, List.getElem_cons_succ, List.getElem_cons_zero, Act.put, List.setIfInBounds_toArray, List.set_cons_zero, List.set_cons_succ]
  refine wpAnyH_norm (l2 := #[true, true, true, true, true, true, true, true, true, true, true, true, true, true, true, true, true, true, true, true, true, true, true, true, true, true, false, false, false, false, false, false, false, false, false, false, false, false, false, false, false, false, false, false, false]) (f2 := 19) (by kernel_rfl) (by kernel_rfl) ?_
  refine wpAnyH_take (i := 26) (oi := _) (v := ?_) rfl (by kernel_rfl) (by kernel_rfl) (by kernel_rfl) (fun _ _ _ h => h) (Or.inl ⟨by rfl, ?_⟩) (by assumption) ?_
  rotate_left
  · (intro w hSw; (try dsimp only at hSw); go_simp; try with_reducible rfl)
  simp only [List.getElem_toArray, List.getElem_cons_succ, List.getElem_cons_zero, Act.put, List.setIfInBounds_toArray, List.set_cons_zero, List.set_cons_succ]
  refine wpAnyH_norm (l2 := #[true, true, true, true, true, true, true, true, true, true, true, true, true, true, true, true, true, true, true, true, true, true, true, true, true, true, true, false, false, false, false, false, false, false, false, false, false, false, false, false, false, false, false, false, false]) (f2 := 18) (by kernel_rfl) (by kernel_rfl) ?_
  refine wpAnyH_take (i := 27) (oi := _) (v := .int .i64 8) rfl (by kernel_rfl) (by kernel_rfl) (by kernel_rfl) (fun _ _ _ h => h) (Or.inl ⟨by rfl, ?_⟩) (by assumption) ?_
  · (intro w hSw; (try dsimp only at hSw); obtain ⟨s1, s2, s3, s4, s5⟩ := hSw; have c0 := s2.cell 0 HM0.out.1; go_simp; try with_reducible rfl)
  simp only [List.getElem_toArray, List.getElem_cons_succ, List.getElem_cons_zero, Act.put, List.setIfInBounds_toArray, List.set_cons_zero, List.set_cons_succ]
  refine wpAnyH_norm (l2 := #[true, true, true, true, true, true, true, true, true, true, true, true, true, true, true, true, true, true, true, true, true, true, true, true, true, true, true, true, false, false, false, false, false, false, false, false, false, false, false, false, false, false, false, false, false]) (f2 := 17) (by kernel_rfl) (by kernel_rfl) ?_
  refine wpAnyH_take (i := 28) (oi := _) (v := .bool false) rfl (by kernel_rfl) (by kernel_rfl) (by kernel_rfl) (fun _ _ _ h => h) (Or.inl ⟨by rfl, ?_⟩) (by assumption) ?_
  · (intro w hSw; (try dsimp only at hSw); have hq := HB0.out.1; go_simp; try simp [hq, HEW.out])
  simp only [List.getElem_toArray, List.getElem_cons_succ, List.getElem_cons_zero, Act.put, List.setIfInBounds_toArray, List.set_cons_zero, List.set_cons_succ]
  refine wpAnyH_norm (l2 := #[true, true, true, true, true, true, true, true, true, true, true, true, true, true, true, true, true, true, true, true, true, true, true, true, true, true, true, true, true, false, false, false, false, false, false, false, false, false, false, false, false, false, false, false, false]) (f2 := 16) (by kernel_rfl) (by kernel_rfl) ?_
  refine wpAnyH_take (i := 29) (oi := _) (v := ?_) rfl (by kernel_rfl) (by kernel_rfl) (by kernel_rfl) (fun _ _ _ h => h) (Or.inl ⟨by rfl, ?_⟩) (by assumption) ?_
  rotate_left
  · (intro w hSw; (try dsimp only at hSw); go_simp; try with_reducible rfl)
  simp only [List.getElem_toArray, List.getElem_cons_succ, List.getElem_cons_zero, Act.put, List.setIfInBounds_toArray, List.set_cons_zero, List.set_cons_succ]
  refine wpAnyH_norm (l2 := #[true, true, true, true, true, true, true, true, true, true, true, true, true, true, true, true, true, true, true, true, true, true, true, true, true, true, true, true, true, true, false, false, false, false, false, false, false, false, false, false, false, false, false, false, false]) (f2 := 15) (by kernel_rfl) (by kernel_rfl) ?_
  refine wpAnyH_take (i := 30) (oi := _) (v := ?_) rfl (by kernel_rfl) (by kernel_rfl) (by kernel_rfl) (fun _ _ _ h => h) (Or.inl ⟨by rfl, ?_⟩) (by assumption) ?_
  rotate_left
  · (intro w hSw; (try dsimp only at hSw); go_simp; try with_reducible rfl)
  simp only [List.getElem_toArray, List.getElem_cons_succ, List.getElem_cons_zero, Act.put, List.setIfInBounds_toArray, List.set_cons_zero, List.set_cons_succ]
  refine wpAnyH_norm (l2 := #[true, true, true, true, true, true, true, true, true, true, true, true, true, true, true, true, true, true, true, true, true, true, true, true, true, true, true, true, true, true, true, false, false, false, false, false, false, false, false, false, false, false, false, false, false]) (f2 := 14) (by kernel_rfl) (by kernel_rfl) ?_
  refine wpAnyH_take (i := 31) (oi := _) (v := ?_) rfl (by kernel_rfl) (by kernel_rfl) (by kernel_rfl) (fun _ _ _ h => h) (Or.inl ⟨by rfl, ?_⟩) (by assumption) ?_
  rotate_left
  · (intro w hSw; (try dsimp only at hSw); go_simp; try with_reducible rfl)
  simp only [List.getElem_toArray, List.getElem_cons_succ, List.getElem_cons_zero, Act.put, List.setIfInBounds_toArray, List.set_cons_zero, List.set_cons_succ]
  refine wpAnyH_norm (l2 := #[true, true, true, true, true, true, true, true, true, true, true, true, true, true, true, true, true, true, true, true, true, true, true, true, true, true, true, true, true, true, true, true, false, false, false, false, false, false, false, false, false, false, false, false, false]) (f2 := 13) (by kernel_rfl) (by kernel_rfl) ?_
  refine wpAnyH_take (i := 32) (oi := _) (v := ?_) rfl (by kernel_rfl) (by kernel_rfl) (by kernel_rfl) (fun _ _ _ h => h) (Or.inl ⟨by rfl, ?_⟩) (by assumption) ?_
  rotate_left
  · (intro w hSw; (try dsimp only at hSw); go_simp; try with_reducible rfl)
  simp only [List.getElem_toArray, List.getElem_cons_succ, List.getElem_cons_zero, Act.put, List.setIfInBounds_toArray, List.set_cons_zero, List.set_cons_succ]
  refine wpAnyH_norm (l2 := #[true, true, true, true, true, true, true, true, true, true, true, true, true, true, true, true, true, true, true, true, true, true, true, true, true, true, true, true, true, true, true, true, true, false, false, false, false, false, false, false, false, false, false, false, false]) (f2 := 12) (by kernel_rfl) (by kernel_rfl) ?_
  refine wpAnyH_take (i := 33) (oi := _) (v := .int .u8 (b1 : Int)) rfl (by kernel_rfl) (by kernel_rfl) (by kernel_rfl) (fun _ _ _ h => h) (Or.inl ⟨by rfl, ?_⟩) (by assumption) ?_
  · (intro w hSw; (try dsimp only at hSw); obtain ⟨s1, s2, s3, s4, s5⟩ := hSw; go_simp; try with_reducible rfl)
  simp only [List.getElem_toArray, List.getElem_cons_succ, List.getElem_cons_zero, Act.put, List.setIfInBounds_toArray, List.set_cons_zero, List.set_cons_succ]
  refine wpAnyH_norm (l2 := #[true, true, true, true, true, true, true, true, true, true, true, true, true, true, true, true, true, true, true, true, true, true, true, true, true, true, true, true, true, true, true, true, true, true, false, false, false, false, false, false, false, false, false, false, false]) (f2 := 11) (by kernel_rfl) (by kernel_rfl) ?_
  refine wpAnyH_take (i := 34) (oi := _) (v := ?_) rfl (by kernel_rfl) (by kernel_rfl) (by kernel_rfl) (fun _ _ _ h => h) (Or.inl ⟨by rfl, ?_⟩) (by assumption) ?_
  rotate_left
  · (intro w hSw; (try dsimp only at hSw); go_simp; try with_reducible rfl)
  simp only [List.getElem_toArray, List.getElem_cons_succ, List.getElem_cons_zero, Act.put, List.setIfInBounds_toArray, List.set_cons_zero, List.set_cons_succ]
  refine wpAnyH_norm (l2 := #[true, true, true, true, true, true, true, true, true, true, true, true, true, true, true, true, true, true, true, true, true, true, true, true, true, true, true, true, true, true, true, true, true, true, true, false, false, false, false, false, false, false, false, false, false]) (f2 := 10) (by kernel_rfl) (by kernel_rfl) ?_
  refine wpAnyH_take (i := 35) (oi := _) (v := ?_) rfl (by kernel_rfl) (by kernel_rfl) (by kernel_rfl) (fun _ _ _ h => h) (Or.inl ⟨by rfl, ?_⟩) (by assumption) ?_
  rotate_left
  · (intro w hSw; (try dsimp only at hSw); go_simp; try with_reducible rfl)
  simp only [List.getElem_toArray, List.getElem_cons_succ, List.getElem_cons_zero, Act.put, List.setIfInBounds_toArray, List.set_cons_zero, List.set_cons_succ]
  refine wpAnyH_norm (l2 := #[true, true, true, true, true, true, true, true, true, true, true, true, true, true, true, true, true, true, true, true, true, true, true, true, true, true, true, true, true, true, true, true, true, true, true, true, false, false, false, false, false, false, false, false, false]) (f2 := 9) (by kernel_rfl) (by kernel_rfl) ?_
  refine wpAnyH_take (i := 36) (oi := _) (v := ?_) rfl (by kernel_rfl) (by kernel_rfl) (by kernel_rfl) (fun _ _ _ h => h) (Or.inl ⟨by rfl, ?_⟩) (by assumption) ?_
  rotate_left
  · (intro w hSw; (try dsimp only at hSw); go_simp; try with_reducible rfl)
  simp only [List.getElem_toArray, List.getElem_cons_succ, List.getElem_cons_zero, Act.put, List.setIfInBounds_toArray, List.set_cons_zero, List.set_cons_succ]
  refine wpAnyH_norm (l2 := #[true, true, true, true, true, true, true, true, true, true, true, true, true, true, true, true, true, true, true, true, true, true, true, true, true, true, true, true, true, true, true, true, true, true, true, true, true, false, false, false, false, false, false, false, false]) (f2 := 8) (by kernel_rfl) (by kernel_rfl) ?_
  refine wpAnyH_take (i := 37) (oi := _) (v := .int .u8 (b2 : Int)) rfl (by kernel_rfl) (by kernel_rfl) (by kernel_rfl) (fun _ _ _ h => h) (Or.inl ⟨by rfl, ?_⟩) (by assumption) ?_
  · (intro w hSw; (try dsimp only at hSw); obtain ⟨s1, s2, s3, s4, s5⟩ := hSw; go_simp; try with_reducible rfl)
  simp only [List.getElem_toArray, List.getElem_cons_succ, List.getElem_cons_zero, Act.put, List.setIfInBounds_toArray, List.set_cons_zero, List.set_cons_succ]
  refine wpAnyH_norm (l2 := #[true, true, true, true, true, true, true, true, true, true, true, true, true, true, true, true, true, true, true, true, true, true, true, true, true, true, true, true, true, true, true, true, true, true, true, true, true, true, false, false, false, false, false, false, false]) (f2 := 7) (by kernel_rfl) (by kernel_rfl) ?_
  refine wpAnyH_take (i := 38) (oi := _) (v := ?_) rfl (by kernel_rfl) (by kernel_rfl) (by kernel_rfl) (fun _ _ _ h => h) (Or.inl ⟨by rfl, ?_⟩) (by assumption) ?_
  rotate_left
  · (intro w hSw; (try dsimp only at hSw); go_simp; try with_reducible rfl)
  simp only [List.getElem_toArray, List.getElem_cons_succ, List.getElem_cons_zero, Act.put, List.setIfInBounds_toArray, List.set_cons_zero, List.set_cons_succ]
  refine wpAnyH_norm (l2 := #[true, true, true, true, true, true, true, true, true, true, true, true, true, true, true, true, true, true, true, true, true, true, true, true, true, true, true, true, true, true, true, true, true, true, true, true, true, true, true, false, false, false, false, false, false]) (f2 := 6) (by kernel_rfl) (by kernel_rfl) ?_
  refine wpAnyH_take (i := 39) (oi := _) (v := ?_) rfl (by kernel_rfl) (by kernel_rfl) (by kernel_rfl) (fun _ _ _ h => h) (Or.inl ⟨by rfl, ?_⟩) (by assumption) ?_
  rotate_left
  · (intro w hSw; (try dsimp only at hSw); go_simp; try with_reducible rfl)
  simp only [List.getElem_toArray, List.getElem_cons_succ, List.getElem_cons_zero, Act.put, List.setIfInBounds_toArray, List.set_cons_zero, List.set_cons_succ]
  refine wpAnyH_norm (l2 := #[true, true, true, true, true, true, true, true, true, true, true, true, true, true, true, true, true, true, true, true, true, true, true, true, true, true, true, true, true, true, true, true, true, true, true, true, true, true, true, true, false, false, false, false, false]) (f2 := 5) (by kernel_rfl) (by kernel_rfl) ?_
  refine wpAnyH_take (i := 40) (oi := _) (v := ?_) rfl (by kernel_rfl) (by kernel_rfl) (by kernel_rfl) (fun _ _ _ h => h) (Or.inl ⟨by rfl, ?_⟩) (by assumption) ?_
  rotate_left
  · (intro w hSw; (try dsimp only at hSw); go_simp; try with_reducible rfl)
  simp only [List.getElem_toArray, List.getElem_cons_succ, List.getElem_cons_zero, Act.put, List.setIfInBounds_toArray, List.set_cons_zero, List.set_cons_succ]
  refine wpAnyH_norm (l2 := #[true, true, true, true, true, true, true, true, true, true, true, true, true, true, true, true, true, true, true, true, true, true, true, true, true, true, true, true, true, true, true, true, true, true, true, true, true, true, true, true, true, false, false, false, false]) (f2 := 4) (by kernel_rfl) (by kernel_rfl) ?_
  refine wpAnyH_take (i := 41) (oi := _) (v := ?_) rfl (by kernel_rfl) (by kernel_rfl) (by kernel_rfl) (fun _ _ _ h => h) (Or.inl ⟨by rfl, ?_⟩) (by assumption) ?_
  rotate_left
  · (intro w hSw; (try dsimp only at hSw); go_simp; try with_reducible rfl)
  simp only [List.getElem_toArray, List.getElem_cons_succ, List.getElem_cons_zero, Act.put, List.setIfInBounds_toArray, List.set_cons_zero, List.set_cons_succ]
  refine wpAnyH_norm (l2 := #[true, true, true, true, true, true, true, true, true, true, true, true, true, true, true, true, true, true, true, true, true, true, true, true, true, true, true, true, true, true, true, true, true, true, true, true, true, true, true, true, true, true, false, false, false]) (f2 := 3) (by kernel_rfl) (by kernel_rfl) ?_
  refine wpAnyH_take (i := 42) (oi := _) (v := .int .i64 y1) rfl (by kernel_rfl) (by kernel_rfl) (by kernel_rfl) (fun _ _ _ h => h) (Or.inl ⟨by rfl, ?_⟩) (by assumption) ?_
  · (intro w hSw; (try dsimp only at hSw); obtain ⟨s1, s2, s3, s4, s5⟩ := hSw; have c1 := s2.cell 1 HM0.out.2; go_simp; try with_reducible rfl)
  simp only [List.getElem_toArray, List.getElem_cons_succ, List.getElem_cons_zero, Act.put, List.setIfInBounds_toArray, List.set_cons_zero, List.set_cons_succ]
  refine wpAnyH_norm (l2 := #[true, true, true, true, true, true, true, true, true, true, true, true, true, true, true, true, true, true, true, true, true, true, true, true, true, true, true, true, true, true, true, true, true, true, true, true, true, true, true, true, true, true, true, false, false]) (f2 := 2) (by kernel_rfl) (by kernel_rfl) ?_
  refine wpAnyH_take (i := 43) (oi := _) (v := ?_) rfl (by kernel_rfl) (by kernel_rfl) (by kernel_rfl) (fun _ _ _ h => h) (Or.inl ⟨by rfl, ?_⟩) (by assumption) ?_
  rotate_left
  · (intro w hSw; (try dsimp only at hSw); go_simp; try with_reducible rfl)
  simp only [List.getElem_toArray, List.getElem_cons_succ, List.getElem_cons_zero, Act.put, List.setIfInBounds_toArray, List.set_cons_zero, List.set_cons_succ]
  refine wpAnyH_norm (l2 := #[true, true, true, true, true, true, true, true, true, true, true, true, true, true, true, true, true, true, true, true, true, true, true, true, true, true, true, true, true, true, true, true, true, true, true, true, true, true, true, true, true, true, true, true, false]) (f2 := 1) (by kernel_rfl) (by kernel_rfl) ?_
  refine wpAnyH_take (i := 44) (oi := _) (v := ?_) rfl (by kernel_rfl) (by kernel_rfl) (by kernel_rfl) (fun _ _ _ h => h) (Or.inl ⟨by rfl, ?_⟩) (by assumption) ?_
  rotate_left
  · (intro w hSw; (try dsimp only at hSw); go_simp; try with_reducible rfl)
  simp only [List.getElem_toArray, List.getElem_cons_succ, List.getElem_cons_zero, Act.put, List.setIfInBounds_toArray, List.set_cons_zero, List.set_cons_succ]
  refine wpAnyH_norm (l2 := #[true, true, true, true, true, true, true, true, true, true, true, true, true, true, true, true, true, true, true, true, true, true, true, true, true, true, true, true, true, true, true, true, true, true, true, true, true, true, true, true, true, true, true, true, true]) (f2 := 0) (by kernel_rfl) (by kernel_rfl) ?_
  refine wpAnyH_done (by kernel_rfl) ?_ _
  have hX8 : Bx w8 w2.heap.size M := HS8.out.2.1
  have HX8 := hid hX8
  clear hX8
  have mm4 := hid True.intro
  go_upto_region 7 with (first | (clear mm4; go_at_call 9; refine (into_is cut (bL : Int) _ (by omega) (by omega) HK.out).mono ?_; rintro e w9 ⟨rfl, hw9⟩; obtain rfl := hw9.symm; have mm5 := hid True.intro))
  have hsl := slice_hi (some ⟨bb, bo, none⟩) bL c4 k (by have := HO8.out.read.cap_; have := HKL.out; omega)
  have HTK := hid (HO8.out.read.take k (by have := HKL.out; omega) (HO8.out.read.none_len k (by have := HKL.out; omega)))
  have HG : Hid (psC ((ly o).take k) = none) := psc_not (o := o) (fun y hy => HO8.out.small y (List.mem_of_mem_take hy)) HF.out (by rw [HN6.out]; decide) (by rw [List.length_take]; have := HKL.out; have := HN4.out; omega) (fun i h1 h2 => by rw [List.length_take] at h1; rw [List.getElem?_take, if_pos (by omega)])
  have HZL := hid (cC_one (clz 0 0) Sl.nil Sl.nil)
  go_upto_region 8 with (first | (clear mm5; go_at_call 16; refine (parse_none (some ⟨bb, bo, none⟩) k c4 _ _ HTK.out (by have := HKL.out; omega) HG.out).mono ?_; rintro e w10 ⟨rfl, hb10⟩; rw [← HZZ.out]; obtain ⟨w11, hst11, hx11, hb11⟩ := store_new w10 (Z := Z) (t := 41) rfl HZO.out; have HC11 := hid ((HC8.out.later hb10).later hb11); have HX11 := hid ((HX8.out.later hb10).later hb11); have HO11 := hid ((HO8.out.later hb10).later hb11); have HB11 := hid (below_call (below_call HB8.out hb10) hb11); clear hb10 hb11 hx11; have mm6 := hid True.intro))
  obtain ⟨a12, c12, w12, hrun12, hown12, hgr12⟩ := append_any (Own.empty w11) (HO11.out.read.alloc (Obj.cells #[] 5)) (by simp) (by have := HBLN.out; omega)
  rw [Nat.zero_add, List.nil_append] at hown12
  rw [Nat.zero_add] at hrun12
  have T12 : Below w11.heap.size w11 w12 := But.below (below1 w11 _) hgr12.but (fun j hj => (Own.empty w11).blk j hj)
  obtain ⟨a13, c13, w13, hrun13, hown13, hgr13⟩ := append_byte (b := more) hown12 T12.size (by have := HBLN.out; omega) HMO.out
  have T13 : Below w11.heap.size w11 w13 := But.below T12 hgr13.but (fun j hj => hown12.blk j hj)
  have HRUN12 := hid hrun12
  have HRUN13 := hid hrun13
  have HO13 := hid hown13
  have HC13 := hid (HC11.out.later T13)
  have HX13 := hid (HX11.out.later T13)
  have HO11 := hid (HO11.out.later T13)
  have HB13 := hid (below_call HB11.out T13)
  have HH : Hid (psC (ly o ++ [more]) = none) := psc_not (o := o) (fun y hy => hown13.small y hy) HF.out (by rw [HN6.out]; decide) (by rw [List.length_append]; simp) (fun i h1 h2 => by rw [List.getElem?_append_left h2])
  clear hrun12 hrun13 hown12 hown13 hgr12 hgr13 T12 T13
  go_upto_region 12 with (first | (clear mm6; at_builtin; refine wpList_append_known rfl _ _ 28 rfl _ _ rfl rfl _ w12 HRUN12.out ?_; have mm7 := hid True.intro) | (clear mm7; at_builtin; refine wpList_append_known rfl _ _ 28 rfl _ _ rfl rfl _ w13 HRUN13.out ?_; have mm8 := hid True.intro) | (clear mm8; go_at_call 16; refine (parse_none a13 _ c13 _ _ HO13.out.read (by have := HBLN.out; omega) HH.out).mono ?_; rintro e w14 ⟨rfl, hb14⟩; rw [← HZZ.out]; obtain ⟨w15, hst15, hx15, hb15⟩ := store_new w14 (Z := Z) (t := 41) rfl HZO.out; have HC15 := hid ((HC13.out.later hb14).later hb15); have HX15 := hid ((HX13.out.later hb14).later hb15); have HO15 := hid ((HO11.out.later hb14).later hb15); have HB15 := hid (below_call (below_call HB13.out hb14) hb15); have z0 := HX15.out.cell 0 HM0.out.1; clear hb14 hb15 hx15; have mm9 := hid True.intro))
  go_quiet (fail)
  obtain ⟨W, hWe⟩ : ∃ W : World, W = w15.drewN nq := ⟨_, rfl⟩
  rw [← hWe]
  have BW : Below w15.heap.size w15 W := by rw [hWe]; exact ⟨rfl, rfl, rfl, Nat.le_refl _, fun _ _ => rfl⟩
  clear hWe
  have HXW := hid (HX15.out.later BW)
  have HOW := hid (HO15.out.later BW)
  have HBW := hid (below_call HB15.out BW)
  have HCW := hid (HC15.out.later BW)
  clear BW z0
  obtain ⟨w16, hst16, hx16, hb16⟩ := store_new W (Z := Z) (t := 41) (HLL.out.2.trans hZl.symm) HMO1.out
  have HLDW := hid (ld41 HXW.out.range HLL.out.2)
  have HX16 := hid (HXW.out.later hb16)
  have z16 := HX16.out.cell 0 HM0.out.1
  have f16 : w16.frozen? ⟨W.heap.size, 7, none⟩ = false := by have := (hx16.there 7 (by have := HLL.out.2; omega)).2; simpa using this
  have t16 := (hx16.there 7 (by have := HLL.out.2; omega)).1
  obtain ⟨v16, t16⟩ := Option.isSome_iff_exists.1 t16
  rw [Nat.zero_add] at t16
  have HLD17 := hid (ld41 (Bx.putq hx16 (j := 7) (by have := HLL.out.2; omega) (.int .i64 1)).range (by rw [List.length_set]; exact HLL.out.2))
  have T17 : Below W.heap.size W (w16.setCell ⟨W.heap.size, 7, none⟩ (.int .i64 1)) := hb16.setCell (Nat.le_refl _) _
  have HB17 := hid (below_call HBW.out T17)
  have HO17 := hid (HOW.out.later T17)
  have HC17 := hid ((HCW.out.rights 1).later T17)
  have HSP : Hid (fm { o with rights := 1 } = false) := spoil_rights HN6.out
  clear hx16 hb16 T17
  have mn0 := hid True.intro
  go_upto_region 19 with (first | ((with_reducible refine ld_arm HLD17.out ?_ ?_); (· rfl)) | ((with_reducible refine ld_arm HLDW.out ?_ ?_); (· rfl)) | (clear mn0; go_at_call 15; refine (bytes_bad (M.set 7 (.int .i64 1)) { o with rights := 1 } _ HC17.out HSP.out).mono ?_; rintro e w18 ⟨rfl, hb18⟩; have HB18 := hid (below_call HB17.out hb18); have HO18 := hid (HO17.out.later hb18); clear hb18; have mn1 := hid True.intro))
  obtain ⟨x, hx, hxb⟩ : ∃ x : Nat, 11 + more % 240 = x ∧ (10 < x ∧ x < 256) := ⟨_, rfl, by omega⟩
  have em : IntKind.i64.wrap (more : Int) = (more : Int) := by have := HMO.out; rw [IntKind.wrap_i64]; omega
  have er : ((more : Int).tmod 240) = ((more % 240 : Nat) : Int) := by rw [Int.tmod_eq_emod_of_nonneg (by omega)]; omega
  obtain ⟨r, hr⟩ : ∃ r : Nat, more % 240 = r := ⟨_, rfl⟩
  rw [hr] at er hx
  have ea : IntKind.i64.wrap (11 + (r : Int)) = (x : Int) := by rw [IntKind.wrap_i64]; omega
  have ec : IntKind.u8.wrap (x : Int) = (x : Int) := by rw [IntKind.wrap_u8]; omega
  have HXX := hid (And.intro hx hxb)
  clear hr hx hxb
  obtain ⟨a19, n19, c19, hsl19, hrw19, hn19⟩ : ∃ a n c, (∀ U : World, (Instr.sliceAt 28 (.slice (some ⟨bb, bo, none⟩) bL c4) (some (.int .i64 1)) none none).run Try.prog U = .ok (.slice a n c) U) ∧ Hid (∀ U : World, Row U (some ⟨bb, bo, none⟩) bL c4 (ly o) → Row U a n c ((ly o).drop 1)) ∧ Hid (n = bL - 1) := ⟨_, _, _, fun U => slice_lY U _ bL c4 1 (by omega) HO18.out.read.cap_, fun U h => h.dropY 1 (by omega), rfl⟩
  obtain ⟨a20, c20, w20, hrun20, hown20, hgr20⟩ := append_any (Own.one1 w18 x HXX.out.2.2) (hrw19.out _ (HO18.out.read.alloc (Obj.cells #[.int .u8 (x : Int)] 5))) (by simp) (by have := HBLN.out; have := hn19.out; omega)
  have T20 : Below w18.heap.size w18 w20 := But.below (below1 w18 _) hgr20.but (fun j hj => (Own.one1 w18 x HXX.out.2.2).blk j hj)
  have HB20 := hid (below_call HB18.out T20)
  have HRUN20 := hid hrun20
  have HO20 := hid hown20
  have HJ : Hid (psC ([x] ++ (ly o).drop 1) = none) := head_bad HXX.out.2.1 HXX.out.2.2 (fun y hy => HO18.out.small y (List.mem_of_mem_drop hy))
  have HZF : Hid (Z[0]? = some (.int .i64 0)) := by unfold Hid; rw [HZZ.out]; rfl
  clear hrun20 hown20 hgr20 T20
  go_wp2_with (first | (clear mn1; at_builtin; refine wpList_append_known rfl _ _ 28 rfl _ _ rfl rfl _ w20 HRUN20.out ?_; have mn2 := hid True.intro) | (clear mn2; go_at_call 16; refine (parse_none a20 _ c20 _ _ HO20.out.read (by have := HBLN.out; have := hn19.out; omega) HJ.out).mono ?_; rintro e w21 ⟨rfl, hb21⟩; rw [← HZZ.out]; obtain ⟨w22, hst22, hx22, hb22⟩ := store_new w21 (Z := Z) (t := 41) rfl HZO.out; have z22 := hx22.cell 0 HZF.out; have HB22 := hid (below_call (below_call HB20.out hb21) hb22); clear hb21 hb22 hx22; have mn3 := hid True.intro))
  go_ret
  exact ⟨rfl, HB22.out⟩
end Go.Proofs.Ytaffgoacbiedlaa
