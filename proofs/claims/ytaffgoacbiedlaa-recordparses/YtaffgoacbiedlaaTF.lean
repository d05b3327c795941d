import Derived.Test.YtaffgoacbiedlaaT5
namespace Go.Proofs.Ytaffgoacbiedlaa
open Go.RowKit
set_option linter.unusedVariables false
set_option linter.unusedSimpArgs false

set_option maxRecDepth 100000 in
set_option maxHeartbeats 8000000 in
theorem rbytes4 (by_ : Nat) (size : Int) (obj hi lo : Nat) (given : Bool) (rights : Nat) (off n : Int) (data : List Nat) (index : Nat) (gifts : List Int) (L : List Value) (w : World) (h : Cc w L ⟨4, (by_ : Int), size, (obj : Int), hi, lo, given, (rights : Int), off, n, data, (index : Int), gifts⟩) (hf : fm ⟨4, (by_ : Int), size, (obj : Int), hi, lo, given, (rights : Int), off, n, data, (index : Int), gifts⟩ = true) :
    Calls Try.prog 20 #[.agg L.toArray] w fun e w' => ∃ a n' c', e = .returned (.tuple #[.slice a n' c', .int .i64 0]) ∧ Own w' w.heap.size a n' c' (ly ⟨4, (by_ : Int), size, (obj : Int), hi, lo, given, (rights : Int), off, n, data, (index : Int), gifts⟩) ∧ Below w.heap.size w w' := by
  obtain ⟨⟨da, dn, dc⟩, ⟨ga, gn, gc⟩, hL, hi1⟩ := h.ex
  have HCL : Hid (∀ W : World, Bx W w.heap.size L → W.cell? ⟨w.heap.size, 0, none⟩ = some (.int .i64 4) ∧ W.cell? ⟨w.heap.size, 1, none⟩ = some (.int .i64 (by_ : Int)) ∧ W.cell? ⟨w.heap.size, 3, none⟩ = some (.int .i64 (obj : Int)) ∧ W.cell? ⟨w.heap.size, 4, none⟩ = some (.int .u64 (hi : Int)) ∧ W.cell? ⟨w.heap.size, 5, none⟩ = some (.int .u64 (lo : Int))) := fun W hW => by
    rw [hL] at hW
    exact ⟨hW.cell 0 rfl, hW.cell 1 rfl, hW.cell 3 rfl, hW.cell 4 rfl, hW.cell 5 rfl⟩
  have hin : inB ⟨4, (by_ : Int), size, (obj : Int), hi, lo, given, (rights : Int), off, n, data, (index : Int), gifts⟩ = true := by
    have := hf
    simp only [fm, Bool.and_eq_true] at this
    exact this.1.1.2
  have hgn : gifts.length ≤ 17592186044416 := by
    have := hin
    simp only [inB, Bool.and_eq_true, gfB, decide_eq_true_eq] at this
    omega
  have HDL : Hid (data.length ≤ 1025) := by
    have := hin
    simp only [inB, Bool.and_eq_true, decide_eq_true_eq] at this
    exact this.1.2
  have HIN := hid hin
  have HOW := hid (And.intro hi1.hi hi1.lo)
  have HDR := hid hi1.data
  have HGR := hid hi1.gifts
  have X1 := Bx.new w L 41
  have HX : Hid (Bx (w.alloc (Obj.cells L.toArray 41)).drew w.heap.size L) := X1.later (Below.refl _ _).drew
  have HLL := hid h.len
  have HC : Hid (Cc (w.alloc (Obj.cells L.toArray 41)).drew L ⟨4, (by_ : Int), size, (obj : Int), hi, lo, given, (rights : Int), off, n, data, (index : Int), gifts⟩) := h.later ((below1 _ _).drew)
  have HB : Hid (Below w.heap.size w (w.alloc (Obj.cells L.toArray 41)).drew) := (below1 _ _).drew
  have HGN := hid hgn
  have F12 : ∀ C : Cl, fm C = true → (wi C.op 1 10 && inB C) = true ∧ smB C (kp C) = true := fun C hC => by
    have := fm_ref C
    rw [hC, Bool.and_eq_true] at this
    exact this
  obtain ⟨C, hC⟩ : ∃ C, C = (⟨4, (by_ : Int), size, (obj : Int), hi, lo, given, (rights : Int), off, n, data, (index : Int), gifts⟩ : Cl) := ⟨_, rfl⟩
  have F1 := (F12 C (by rw [hC]; exact hf)).1
  have F2 := (F12 C (by rw [hC]; exact hf)).2
  have HCC := hid hC
  rw [← hC] at HC
  clear X1 h hgn hf F12 hL hi1 hin hC
  generalize hB : ly ⟨4, (by_ : Int), size, (obj : Int), hi, lo, given, (rights : Int), off, n, data, (index : Int), gifts⟩ = B0
  have HB0 := hid hB
  clear hB
  go_enter Try.func20, Try.ntmps20
  go_upto_region 1 with fail
  refine wp_region_held_drew (S := (fun U : World => Bx U w.heap.size L)) (by kernel_rfl) (HX.out) (fun hHeld => ?_)
  refine wpAnyH_norm (l2 := #[false, false, false, false, false, false, false, false, false, false]) (f2 := 10) (by kernel_rfl) (by kernel_rfl) ?_
  refine wpAnyH_take (i := 0) (oi := _) (v := .agg L.toArray) rfl (by kernel_rfl) (by kernel_rfl) (by kernel_rfl) (fun _ _ _ h => h) (Or.inl ⟨by rfl, ?_⟩) (by assumption) ?_
  · (intro w hSw; (try dsimp only at hSw); exact ex_load rfl rfl (ld41 hSw.range HLL.out))
  simp only [List.getElem_toArray, List.getElem_cons_succ, List.getElem_cons_zero, Act.put, List.setIfInBounds_toArray, List.set_cons_zero, List.set_cons_succ]
  refine wpAnyH_norm (l2 := #[true, false, false, false, false, false, false, false, false, false]) (f2 := 9) (by kernel_rfl) (by kernel_rfl) ?_
  refine wpAnyH_ready (rs := [1]) (by kernel_rfl) (by simp) ?_
  refine AllReadyH.cons rfl (fun K hK => ?_) AllReadyH.nil
  go_simp
  go_wp2_with (first | (go_at_call 34; refine (right_any L C _ HC.out (by rw [HCC.out]; exact HGN.out)).mono ?_; rintro e w2 ⟨rfl, hb2⟩; rw [F1]; have HX2 := hid (HX.out.later hb2); have HC2 := hid (HC.out.later hb2); have HB2 := hid (below_call HB.out hb2); clear hb2))
  refine hK.out _ _ (HX2.out) (fun hHeld => ?_)
  clear hK K
  simp only [List.getElem_toArray, List.getElem_cons_succ, List.getElem_cons_zero, Act.put, List.setIfInBounds_toArray, List.set_cons_zero, List.set_cons_succ]
  refine wpAnyH_norm (l2 := #[true, true, false, false, false, false, false, false, false, false]) (f2 := 8) (by kernel_rfl) (by kernel_rfl) ?_
  refine wpAnyH_take (i := 2) (oi := _) (v := ?_) rfl (by kernel_rfl) (by kernel_rfl) (by kernel_rfl) (fun _ _ _ h => h) (Or.inl ⟨by rfl, ?_⟩) (by assumption) ?_
  rotate_left
  · (intro w hSw; (try dsimp only at hSw); go_simp; try with_reducible rfl)
  simp only [List.getElem_toArray, List.getElem_cons_succ, List.getElem_cons_zero, Act.put, List.setIfInBounds_toArray, List.set_cons_zero, List.set_cons_succ]
  refine wpAnyH_norm (l2 := #[true, true, true, false, false, false, false, false, false, false]) (f2 := 7) (by kernel_rfl) (by kernel_rfl) ?_
  refine wpAnyH_take (i := 3) (oi := _) (v := ?_) rfl (by kernel_rfl) (by kernel_rfl) (by kernel_rfl) (fun _ _ _ h => h) (Or.inl ⟨by rfl, ?_⟩) (by assumption) ?_
  rotate_left
  · (intro w hSw; (try dsimp only at hSw); go_simp; try with_reducible rfl)
  simp only [List.getElem_toArray, List.getElem_cons_succ, List.getElem_cons_zero, Act.put, List.setIfInBounds_toArray, List.set_cons_zero, List.set_cons_succ]
  refine wpAnyH_norm (l2 := #[true, true, true, true, false, false, false, false, false, false]) (f2 := 6) (by kernel_rfl) (by kernel_rfl) ?_
  refine wpAnyH_take (i := 4) (oi := _) (v := .agg L.toArray) rfl (by kernel_rfl) (by kernel_rfl) (by kernel_rfl) (fun _ _ _ h => h) (Or.inl ⟨by rfl, ?_⟩) (by assumption) ?_
  · (intro w hSw; (try dsimp only at hSw); exact ex_load rfl rfl (ld41 hSw.range HLL.out))
  simp only [List.getElem_toArray, List.getElem_cons_succ, List.getElem_cons_zero, Act.put, List.setIfInBounds_toArray, List.set_cons_zero, List.set_cons_succ]
  refine wpAnyH_norm (l2 := #[true, true, true, true, true, false, false, false, false, false]) (f2 := 5) (by kernel_rfl) (by kernel_rfl) ?_
  refine wpAnyH_take (i := 5) (oi := _) (v := .agg L.toArray) rfl (by kernel_rfl) (by kernel_rfl) (by kernel_rfl) (fun _ _ _ h => h) (Or.inl ⟨by rfl, ?_⟩) (by assumption) ?_
  · (intro w hSw; (try dsimp only at hSw); exact ex_load rfl rfl (ld41 hSw.range HLL.out))
  simp only [List.getElem_toArray, List.getElem_cons_succ, List.getElem_cons_zero, Act.put, List.setIfInBounds_toArray, List.set_cons_zero, List.set_cons_succ]
  refine wpAnyH_norm (l2 := #[true, true, true, true, true, true, false, false, false, false]) (f2 := 4) (by kernel_rfl) (by kernel_rfl) ?_
  refine wpAnyH_ready (rs := [6]) (by kernel_rfl) (by simp) ?_
  refine AllReadyH.cons rfl (fun K hK => ?_) AllReadyH.nil
  go_simp
  go_wp2_with (first | (go_at_call 35; refine (kept_c L C _ HC2.out).mono ?_; rintro e w3 ⟨L3, rfl, hk3, hb3⟩; have HK3 := hid (hk3.later hb3); have HC3 := hid (HC2.out.later hb3); have HX3 := hid (HX2.out.later hb3); have HB3 := hid (below_call HB2.out hb3); clear hb3 hk3))
  refine hK.out _ _ (HX3.out) (fun hHeld => ?_)
  clear hK K
  simp only [List.getElem_toArray, List.getElem_cons_succ, List.getElem_cons_zero, Act.put, List.setIfInBounds_toArray, List.set_cons_zero, List.set_cons_succ]
  refine wpAnyH_norm (l2 := #[true, true, true, true, true, true, true, false, false, false]) (f2 := 3) (by kernel_rfl) (by kernel_rfl) ?_
  refine wpAnyH_ready (rs := [7]) (by kernel_rfl) (by simp) ?_
  refine AllReadyH.cons rfl (fun K hK => ?_) AllReadyH.nil
  go_simp
  go_wp2_with (first | (go_at_call 17; refine (same_any L L3 C (kp C) _ HC3.out HK3.out (by rw [HCC.out]; exact HGN.out)).mono ?_; rintro e w4 ⟨rfl, hb4⟩; rw [F2]; have HX4 := hid (HX3.out.later hb4); have HB4 := hid (below_call HB3.out hb4); have HC4 := hid (HC3.out.later hb4); clear hb4))
  refine hK.out _ _ (HX4.out) (fun hHeld => ?_)
  clear hK K
  simp only [List.getElem_toArray, List.getElem_cons_succ, List.getElem_cons_zero, Act.put, List.setIfInBounds_toArray, List.set_cons_zero, List.set_cons_succ]
  refine wpAnyH_norm (l2 := #[true, true, true, true, true, true, true, true, false, false]) (f2 := 2) (by kernel_rfl) (by kernel_rfl) ?_
  refine wpAnyH_take (i := 8) (oi := _) (v := ?_) rfl (by kernel_rfl) (by kernel_rfl) (by kernel_rfl) (fun _ _ _ h => h) (Or.inl ⟨by rfl, ?_⟩) (by assumption) ?_
  rotate_left
  · (intro w hSw; (try dsimp only at hSw); go_simp; try with_reducible rfl)
  simp only [List.getElem_toArray, List.getElem_cons_succ, List.getElem_cons_zero, Act.put, List.setIfInBounds_toArray, List.set_cons_zero, List.set_cons_succ]
  refine wpAnyH_norm (l2 := #[true, true, true, true, true, true, true, true, true, false]) (f2 := 1) (by kernel_rfl) (by kernel_rfl) ?_
  refine wpAnyH_take (i := 9) (oi := _) (v := ?_) rfl (by kernel_rfl) (by kernel_rfl) (by kernel_rfl) (fun _ _ _ h => h) (Or.inl ⟨by rfl, ?_⟩) (by assumption) ?_
  rotate_left
  · (intro w hSw; (try dsimp only at hSw); go_simp; try with_reducible rfl)
  simp only [List.getElem_toArray, List.getElem_cons_succ, List.getElem_cons_zero, Act.put, List.setIfInBounds_toArray, List.set_cons_zero, List.set_cons_succ]
  refine wpAnyH_norm (l2 := #[true, true, true, true, true, true, true, true, true, true]) (f2 := 0) (by kernel_rfl) (by kernel_rfl) ?_
  refine wpAnyH_done (by kernel_rfl) ?_ _
  have S0 := HCL.out _ HX4.out
  have HBS0 : Hid (Bs w w4.drew L none 0 0 []) := Bs.zero w L (HX4.out.later (Below.refl _ _).drew) HB4.out.drew (by show _ < w4.heap.size; exact HX4.out.lt (by rw [HLL.out]; omega))
  have S0 := HCL.out _ HBS0.out.box
  clear F1 F2 HC HC2 HC3 HC4 HX HX2 HX3 HB HB2 HB3 HK3
  clear hHeld
  go_upto_region 3 with fail
  go_region_held3 (fun W => W.cell? ⟨w.heap.size, 0, none⟩ = some (.int .i64 4) ∧ W.cell? ⟨w.heap.size, 1, none⟩ = some (.int .i64 (by_ : Int)) ∧ W.cell? ⟨w.heap.size, 3, none⟩ = some (.int .i64 (obj : Int)) ∧ W.cell? ⟨w.heap.size, 4, none⟩ = some (.int .u64 (hi : Int)) ∧ W.cell? ⟨w.heap.size, 5, none⟩ = some (.int .u64 (lo : Int))) (first | exact S2 | exact S1 | exact S0) (first | (go_at_call 36; refine (bput2 HBS1.out (by omega) _).mono ?_; rintro e w6 ⟨a6, c6, rfl, hbs6⟩; have HBS := hid hbs6; have S2 := HCL.out _ hbs6.box; clear hbs6) | (go_at_call 36; refine (bput1 HBS0.out (by omega) _).mono ?_; rintro e w5 ⟨a5, c5, rfl, hbs5⟩; have HBS1 := hid hbs5; have S1 := HCL.out _ hbs5.box; clear hbs5))
  obtain ⟨q0, q1, q3, q4, q5⟩ := HCL.out _ HBS.out.box
  clear S0 S1 S2 HBS0 HBS1 HX4 HB4
  (try clear hHeld)
  go_wp2_with (first | (go_at_call 37; refine (bcap HBS.out (by omega) obj hi lo HOW.out.1 HOW.out.2).mono ?_; rintro e wn ⟨an, cn, rfl, hbs⟩; clear HBS; have HBS := hid hbs; clear hbs))
  have E : Hid (([] ++ beL 4 1 ++ beL (by_ : Int) 2 ++ (leL obj 8 ++ leL lo 8 ++ leL hi 8) : List Nat) = ly ⟨4, (by_ : Int), size, (obj : Int), hi, lo, given, (rights : Int), off, n, data, (index : Int), gifts⟩) := by unfold Hid; rw [beL_nat]; simp [ly, partsL, layA, layP, beL, leL]
  exact bodyPost_ret (v := .tuple #[.slice an (0 + 1 + 2 + 24) cn, .int .i64 0]) (by simp [results, Try.results20, go_sem]) rfl ⟨_, _, _, rfl, by rw [← HB0.out]; exact (by rw [← E.out]; exact HBS.out.own.mono (by omega)), HBS.out.below⟩
set_option maxRecDepth 100000 in
set_option maxHeartbeats 8000000 in
theorem rbytes7 (by_ : Nat) (size : Int) (obj hi lo : Nat) (given : Bool) (rights : Nat) (off n : Int) (data : List Nat) (index : Nat) (gifts : List Int) (L : List Value) (w : World) (h : Cc w L ⟨7, (by_ : Int), size, (obj : Int), hi, lo, given, (rights : Int), off, n, data, (index : Int), gifts⟩) (hf : fm ⟨7, (by_ : Int), size, (obj : Int), hi, lo, given, (rights : Int), off, n, data, (index : Int), gifts⟩ = true) :
    Calls Try.prog 20 #[.agg L.toArray] w fun e w' => ∃ a n' c', e = .returned (.tuple #[.slice a n' c', .int .i64 0]) ∧ Own w' w.heap.size a n' c' (ly ⟨7, (by_ : Int), size, (obj : Int), hi, lo, given, (rights : Int), off, n, data, (index : Int), gifts⟩) ∧ Below w.heap.size w w' := by
  obtain ⟨⟨da, dn, dc⟩, ⟨ga, gn, gc⟩, hL, hi1⟩ := h.ex
  have HCL : Hid (∀ W : World, Bx W w.heap.size L → W.cell? ⟨w.heap.size, 0, none⟩ = some (.int .i64 7) ∧ W.cell? ⟨w.heap.size, 1, none⟩ = some (.int .i64 (by_ : Int)) ∧ W.cell? ⟨w.heap.size, 3, none⟩ = some (.int .i64 (obj : Int)) ∧ W.cell? ⟨w.heap.size, 4, none⟩ = some (.int .u64 (hi : Int)) ∧ W.cell? ⟨w.heap.size, 5, none⟩ = some (.int .u64 (lo : Int))) := fun W hW => by
    rw [hL] at hW
    exact ⟨hW.cell 0 rfl, hW.cell 1 rfl, hW.cell 3 rfl, hW.cell 4 rfl, hW.cell 5 rfl⟩
  have hin : inB ⟨7, (by_ : Int), size, (obj : Int), hi, lo, given, (rights : Int), off, n, data, (index : Int), gifts⟩ = true := by
    have := hf
    simp only [fm, Bool.and_eq_true] at this
    exact this.1.1.2
  have hgn : gifts.length ≤ 17592186044416 := by
    have := hin
    simp only [inB, Bool.and_eq_true, gfB, decide_eq_true_eq] at this
    omega
  have HDL : Hid (data.length ≤ 1025) := by
    have := hin
    simp only [inB, Bool.and_eq_true, decide_eq_true_eq] at this
    exact this.1.2
  have HIN := hid hin
  have HOW := hid (And.intro hi1.hi hi1.lo)
  have HDR := hid hi1.data
  have HGR := hid hi1.gifts
  have X1 := Bx.new w L 41
  have HX : Hid (Bx (w.alloc (Obj.cells L.toArray 41)).drew w.heap.size L) := X1.later (Below.refl _ _).drew
  have HLL := hid h.len
  have HC : Hid (Cc (w.alloc (Obj.cells L.toArray 41)).drew L ⟨7, (by_ : Int), size, (obj : Int), hi, lo, given, (rights : Int), off, n, data, (index : Int), gifts⟩) := h.later ((below1 _ _).drew)
  have HB : Hid (Below w.heap.size w (w.alloc (Obj.cells L.toArray 41)).drew) := (below1 _ _).drew
  have HGN := hid hgn
  have F12 : ∀ C : Cl, fm C = true → (wi C.op 1 10 && inB C) = true ∧ smB C (kp C) = true := fun C hC => by
    have := fm_ref C
    rw [hC, Bool.and_eq_true] at this
    exact this
  obtain ⟨C, hC⟩ : ∃ C, C = (⟨7, (by_ : Int), size, (obj : Int), hi, lo, given, (rights : Int), off, n, data, (index : Int), gifts⟩ : Cl) := ⟨_, rfl⟩
  have F1 := (F12 C (by rw [hC]; exact hf)).1
  have F2 := (F12 C (by rw [hC]; exact hf)).2
  have HCC := hid hC
  rw [← hC] at HC
  clear X1 h hgn hf F12 hL hi1 hin hC
  generalize hB : ly ⟨7, (by_ : Int), size, (obj : Int), hi, lo, given, (rights : Int), off, n, data, (index : Int), gifts⟩ = B0
  have HB0 := hid hB
  clear hB
  go_enter Try.func20, Try.ntmps20
  go_upto_region 1 with fail
  refine wp_region_held_drew (S := (fun U : World => Bx U w.heap.size L)) (by kernel_rfl) (HX.out) (fun hHeld => ?_)
  refine wpAnyH_norm (l2 := #[false, false, false, false, false, false, false, false, false, false]) (f2 := 10) (by kernel_rfl) (by kernel_rfl) ?_
  refine wpAnyH_take (i := 0) (oi := _) (v := .agg L.toArray) rfl (by kernel_rfl) (by kernel_rfl) (by kernel_rfl) (fun _ _ _ h => h) (Or.inl ⟨by rfl, ?_⟩) (by assumption) ?_
  · (intro w hSw; (try dsimp only at hSw); exact ex_load rfl rfl (ld41 hSw.range HLL.out))
  simp only [List.getElem_toArray, List.getElem_cons_succ, List.getElem_cons_zero, Act.put, List.setIfInBounds_toArray, List.set_cons_zero, List.set_cons_succ]
  refine wpAnyH_norm (l2 := #[true, false, false, false, false, false, false, false, false, false]) (f2 := 9) (by kernel_rfl) (by kernel_rfl) ?_
  refine wpAnyH_ready (rs := [1]) (by kernel_rfl) (by simp) ?_
  refine AllReadyH.cons rfl (fun K hK => ?_) AllReadyH.nil
  go_simp
  go_wp2_with (first | (go_at_call 34; refine (right_any L C _ HC.out (by rw [HCC.out]; exact HGN.out)).mono ?_; rintro e w2 ⟨rfl, hb2⟩; rw [F1]; have HX2 := hid (HX.out.later hb2); have HC2 := hid (HC.out.later hb2); have HB2 := hid (below_call HB.out hb2); clear hb2))
  refine hK.out _ _ (HX2.out) (fun hHeld => ?_)
  clear hK K
  simp only [List.getElem_toArray, List.getElem_cons_succ, List.getElem_cons_zero, Act.put, List.setIfInBounds_toArray, List.set_cons_zero, List.set_cons_succ]
  refine wpAnyH_norm (l2 := #[true, true, false, false, false, false, false, false, false, false]) (f2 := 8) (by kernel_rfl) (by kernel_rfl) ?_
  refine wpAnyH_take (i := 2) (oi := _) (v := ?_) rfl (by kernel_rfl) (by kernel_rfl) (by kernel_rfl) (fun _ _ _ h => h) (Or.inl ⟨by rfl, ?_⟩) (by assumption) ?_
  rotate_left
  · (intro w hSw; (try dsimp only at hSw); go_simp; try with_reducible rfl)
  simp only [List.getElem_toArray, List.getElem_cons_succ, List.getElem_cons_zero, Act.put, List.setIfInBounds_toArray, List.set_cons_zero, List.set_cons_succ]
  refine wpAnyH_norm (l2 := #[true, true, true, false, false, false, false, false, false, false]) (f2 := 7) (by kernel_rfl) (by kernel_rfl) ?_
  refine wpAnyH_take (i := 3) (oi := _) (v := ?_) rfl (by kernel_rfl) (by kernel_rfl) (by kernel_rfl) (fun _ _ _ h => h) (Or.inl ⟨by rfl, ?_⟩) (by assumption) ?_
  rotate_left
  · (intro w hSw; (try dsimp only at hSw); go_simp; try with_reducible rfl)
  simp only [List.getElem_toArray, List.getElem_cons_succ, List.getElem_cons_zero, Act.put, List.setIfInBounds_toArray, List.set_cons_zero, List.set_cons_succ]
  refine wpAnyH_norm (l2 := #[true, true, true, true, false, false, false, false, false, false]) (f2 := 6) (by kernel_rfl) (by kernel_rfl) ?_
  refine wpAnyH_take (i := 4) (oi := _) (v := .agg L.toArray) rfl (by kernel_rfl) (by kernel_rfl) (by kernel_rfl) (fun _ _ _ h => h) (Or.inl ⟨by rfl, ?_⟩) (by assumption) ?_
  · (intro w hSw; (try dsimp only at hSw); exact ex_load rfl rfl (ld41 hSw.range HLL.out))
  simp only [List.getElem_toArray, List.getElem_cons_succ, List.getElem_cons_zero, Act.put, List.setIfInBounds_toArray, List.set_cons_zero, List.set_cons_succ]
  refine wpAnyH_norm (l2 := #[true, true, true, true, true, false, false, false, false, false]) (f2 := 5) (by kernel_rfl) (by kernel_rfl) ?_
  refine wpAnyH_take (i := 5) (oi := _) (v := .agg L.toArray) rfl (by kernel_rfl) (by kernel_rfl) (by kernel_rfl) (fun _ _ _ h => h) (Or.inl ⟨by rfl, ?_⟩) (by assumption) ?_
  · (intro w hSw; (try dsimp only at hSw); exact ex_load rfl rfl (ld41 hSw.range HLL.out))
  simp only [List.getElem_toArray, List.getElem_cons_succ, List.getElem_cons_zero, Act.put, List.setIfInBounds_toArray, List.set_cons_zero, List.set_cons_succ]
  refine wpAnyH_norm (l2 := #[true, true, true, true, true, true, false, false, false, false]) (f2 := 4) (by kernel_rfl) (by kernel_rfl) ?_
  refine wpAnyH_ready (rs := [6]) (by kernel_rfl) (by simp) ?_
  refine AllReadyH.cons rfl (fun K hK => ?_) AllReadyH.nil
  go_simp
  go_wp2_with (first | (go_at_call 35; refine (kept_c L C _ HC2.out).mono ?_; rintro e w3 ⟨L3, rfl, hk3, hb3⟩; have HK3 := hid (hk3.later hb3); have HC3 := hid (HC2.out.later hb3); have HX3 := hid (HX2.out.later hb3); have HB3 := hid (below_call HB2.out hb3); clear hb3 hk3))
  refine hK.out _ _ (HX3.out) (fun hHeld => ?_)
  clear hK K
  simp only [List.getElem_toArray, List.getElem_cons_succ, List.getElem_cons_zero, Act.put, List.setIfInBounds_toArray, List.set_cons_zero, List.set_cons_succ]
  refine wpAnyH_norm (l2 := #[true, true, true, true, true, true, true, false, false, false]) (f2 := 3) (by kernel_rfl) (by kernel_rfl) ?_
  refine wpAnyH_ready (rs := [7]) (by kernel_rfl) (by simp) ?_
  refine AllReadyH.cons rfl (fun K hK => ?_) AllReadyH.nil
  go_simp
  go_wp2_with (first | (go_at_call 17; refine (same_any L L3 C (kp C) _ HC3.out HK3.out (by rw [HCC.out]; exact HGN.out)).mono ?_; rintro e w4 ⟨rfl, hb4⟩; rw [F2]; have HX4 := hid (HX3.out.later hb4); have HB4 := hid (below_call HB3.out hb4); have HC4 := hid (HC3.out.later hb4); clear hb4))
  refine hK.out _ _ (HX4.out) (fun hHeld => ?_)
  clear hK K
  simp only [List.getElem_toArray, List.getElem_cons_succ, List.getElem_cons_zero, Act.put, List.setIfInBounds_toArray, List.set_cons_zero, List.set_cons_succ]
  refine wpAnyH_norm (l2 := #[true, true, true, true, true, true, true, true, false, false]) (f2 := 2) (by kernel_rfl) (by kernel_rfl) ?_
  refine wpAnyH_take (i := 8) (oi := _) (v := ?_) rfl (by kernel_rfl) (by kernel_rfl) (by kernel_rfl) (fun _ _ _ h => h) (Or.inl ⟨by rfl, ?_⟩) (by assumption) ?_
  rotate_left
  · (intro w hSw; (try dsimp only at hSw); go_simp; try with_reducible rfl)
  simp only [List.getElem_toArray, List.getElem_cons_succ, List.getElem_cons_zero, Act.put, List.setIfInBounds_toArray, List.set_cons_zero, List.set_cons_succ]
  refine wpAnyH_norm (l2 := #[true, true, true, true, true, true, true, true, true, false]) (f2 := 1) (by kernel_rfl) (by kernel_rfl) ?_
  refine wpAnyH_take (i := 9) (oi := _) (v := ?_) rfl (by kernel_rfl) (by kernel_rfl) (by kernel_rfl) (fun _ _ _ h => h) (Or.inl ⟨by rfl, ?_⟩) (by assumption) ?_
  rotate_left
  · (intro w hSw; (try dsimp only at hSw); go_simp; try with_reducible rfl)
  simp only [List.getElem_toArray, List.getElem_cons_succ, List.getElem_cons_zero, Act.put, List.setIfInBounds_toArray, List.set_cons_zero, List.set_cons_succ]
  refine wpAnyH_norm (l2 := #[true, true, true, true, true, true, true, true, true, true]) (f2 := 0) (by kernel_rfl) (by kernel_rfl) ?_
  refine wpAnyH_done (by kernel_rfl) ?_ _
  have S0 := HCL.out _ HX4.out
  have HBS0 : Hid (Bs w w4.drew L none 0 0 []) := Bs.zero w L (HX4.out.later (Below.refl _ _).drew) HB4.out.drew (by show _ < w4.heap.size; exact HX4.out.lt (by rw [HLL.out]; omega))
  have S0 := HCL.out _ HBS0.out.box
  clear F1 F2 HC HC2 HC3 HC4 HX HX2 HX3 HB HB2 HB3 HK3
  clear hHeld
  go_upto_region 3 with fail
  go_region_held3 (fun W => W.cell? ⟨w.heap.size, 0, none⟩ = some (.int .i64 7) ∧ W.cell? ⟨w.heap.size, 1, none⟩ = some (.int .i64 (by_ : Int)) ∧ W.cell? ⟨w.heap.size, 3, none⟩ = some (.int .i64 (obj : Int)) ∧ W.cell? ⟨w.heap.size, 4, none⟩ = some (.int .u64 (hi : Int)) ∧ W.cell? ⟨w.heap.size, 5, none⟩ = some (.int .u64 (lo : Int))) (first | exact S2 | exact S1 | exact S0) (first | (go_at_call 36; refine (bput2 HBS1.out (by omega) _).mono ?_; rintro e w6 ⟨a6, c6, rfl, hbs6⟩; have HBS := hid hbs6; have S2 := HCL.out _ hbs6.box; clear hbs6) | (go_at_call 36; refine (bput1 HBS0.out (by omega) _).mono ?_; rintro e w5 ⟨a5, c5, rfl, hbs5⟩; have HBS1 := hid hbs5; have S1 := HCL.out _ hbs5.box; clear hbs5))
  obtain ⟨q0, q1, q3, q4, q5⟩ := HCL.out _ HBS.out.box
  clear S0 S1 S2 HBS0 HBS1 HX4 HB4
  (try clear hHeld)
  go_wp2_with (first | (go_at_call 37; refine (bcap HBS.out (by omega) obj hi lo HOW.out.1 HOW.out.2).mono ?_; rintro e wn ⟨an, cn, rfl, hbs⟩; clear HBS; have HBS := hid hbs; clear hbs))
  have E : Hid (([] ++ beL 7 1 ++ beL (by_ : Int) 2 ++ (leL obj 8 ++ leL lo 8 ++ leL hi 8) : List Nat) = ly ⟨7, (by_ : Int), size, (obj : Int), hi, lo, given, (rights : Int), off, n, data, (index : Int), gifts⟩) := by unfold Hid; rw [beL_nat]; simp [ly, partsL, layA, layP, beL, leL]
  exact bodyPost_ret (v := .tuple #[.slice an (0 + 1 + 2 + 24) cn, .int .i64 0]) (by simp [results, Try.results20, go_sem]) rfl ⟨_, _, _, rfl, by rw [← HB0.out]; exact (by rw [← E.out]; exact HBS.out.own.mono (by omega)), HBS.out.below⟩
end Go.Proofs.Ytaffgoacbiedlaa
