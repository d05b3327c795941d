import Derived.Test.YtaffgoacbiedlaaVG
namespace Go.Proofs.Ytaffgoacbiedlaa
open Go.RowKit
set_option linter.unusedVariables false
set_option linter.unusedSimpArgs false

set_option maxRecDepth 100000 in
set_option maxHeartbeats 4000000 in
theorem pa5l_some (a : Option Addr) (len cap : Nat) (R : List Nat) (w : World) (h : Row w a len cap R) (hl : len ≤ 140737488355328) (h0 : sv (gt R 0 2) = 0) (hg : gt R 0 2 = 0) (hN : 2 < len) (hf : rfm 5 (gr 5 R) = true) (hy : rly 5 (gr 5 R) = R) :
    Calls Try.prog 22 #[.int .i64 5, .slice a len cap] w fun e w' => ∃ L, e = .returned (.tuple #[.agg L.toArray, .int .i64 0]) ∧ Rr w' L (gr 5 R) ∧ Below w.heap.size w w' := by
  have HG : Hid (gr 5 R = ⟨0, 0, 0, 0, R.drop 2, 0⟩) := by unfold Hid gr; rw [if_pos hg, if_neg (by omega), if_pos rfl]
  have HR := hid h
  have HS := hid h.small
  have HF := hid hf
  have HY := hid hy
  have H0 := hid h0
  have HN := hid hN
  clear h hf hy h0 hN
  have hd1 : decide (2 < (len : Int)) = true := by have := HN.out; simp; omega
  have hd2 : decide (2 < len) = true := by have := HN.out; simp; omega
  have hcp := HR.out.cap_
  have mk0 := hid True.intro
  go_enter Try.func22, Try.ntmps22
  go_upto_region 9 with (first | (clear mk0; go_at_call 40; refine (get_is a len cap R 0 2 _ (HR.out.later (below1 _ _)) (by omega) (by omega) hl H0.out).mono ?_; rintro e w9 ⟨rfl, hw9⟩; obtain rfl := hw9.symm; have mk1 := hid True.intro))
  have X3 : Bx ((w.alloc (Obj.cells #[.int .i64 0, .int .i64 0, .int .u64 0, .int .u64 0, .slice none 0 0, .int .i64 0] 30)).alloc (Obj.cells #[.int .i64 0, .int .i64 0, .int .u64 0, .int .u64 0, .slice none 0 0, .int .i64 0] 30)) (w.heap.size + 1) [.int .i64 0, .int .i64 0, .int .u64 0, .int .u64 0, .slice none 0 0, .int .i64 0] := by
    have := Bx.new (w.alloc (Obj.cells #[.int .i64 0, .int .i64 0, .int .u64 0, .int .u64 0, .slice none 0 0, .int .i64 0] 30)) [.int .i64 0, .int .i64 0, .int .u64 0, .int .u64 0, .slice none 0 0, .int .i64 0] 30
    simp at this
    exact this
  have Y3 : Bx ((w.alloc (Obj.cells #[.int .i64 0, .int .i64 0, .int .u64 0, .int .u64 0, .slice none 0 0, .int .i64 0] 30)).alloc (Obj.cells #[.int .i64 0, .int .i64 0, .int .u64 0, .int .u64 0, .slice none 0 0, .int .i64 0] 30)) w.heap.size [.int .i64 0, .int .i64 0, .int .u64 0, .int .u64 0, .slice none 0 0, .int .i64 0] := (Bx.new w [.int .i64 0, .int .i64 0, .int .u64 0, .int .u64 0, .slice none 0 0, .int .i64 0] 30).later (below1 _ _)
  have B3 : Below w.heap.size w ((w.alloc (Obj.cells #[.int .i64 0, .int .i64 0, .int .u64 0, .int .u64 0, .slice none 0 0, .int .i64 0] 30)).alloc (Obj.cells #[.int .i64 0, .int .i64 0, .int .u64 0, .int .u64 0, .slice none 0 0, .int .i64 0] 30)) := below2 _ _ _
  generalize ((w.alloc (Obj.cells #[.int .i64 0, .int .i64 0, .int .u64 0, .int .u64 0, .slice none 0 0, .int .i64 0] 30)).alloc (Obj.cells #[.int .i64 0, .int .i64 0, .int .u64 0, .int .u64 0, .slice none 0 0, .int .i64 0] 30)) = w3 at X3 Y3 B3 ⊢
  have B4 : Below w.heap.size w w3.drew := B3.drew
  have X4 : Bx w3.drew (w.heap.size + 1) [.int .i64 0, .int .i64 0, .int .u64 0, .int .u64 0, .slice none 0 0, .int .i64 0] := X3.later (Below.refl _ _).drew
  have Y4 : Bx w3.drew w.heap.size [.int .i64 0, .int .i64 0, .int .u64 0, .int .u64 0, .slice none 0 0, .int .i64 0] := Y3.later (Below.refl _ _).drew
  obtain ⟨a4, c4, w4, hrun, hown4, hgr4⟩ := append_any (Own.nil w3.drew w3.drew.heap.size) ((HR.out.later B4).drop 2 (by have := HN.out; omega)) (Nat.le_refl _) (by omega)
  rw [Nat.zero_add, List.nil_append] at hown4
  rw [Nat.zero_add] at hrun
  have nb : ∀ k, ¬ Blk none k := fun k hk => by obtain ⟨z, hz, _⟩ := hk; cases hz
  have HLT := hid (X4.lt (by simp))
  have z4 : w3.drew.cell? ⟨w.heap.size + 1, 4, none⟩ = some (.slice none 0 0) := X4.cell 4 rfl
  have X5 := X4.but hgr4.but (nb _)
  have Y5 := Y4.but hgr4.but (nb _)
  have B5 : Below w.heap.size w w4 := But.below B4 hgr4.but (fun k hk => absurd hk (nb k))
  have y4 : w4.cell? ⟨w.heap.size + 1, 4, none⟩ = some (.slice none 0 0) := X5.cell 4 rfl
  have f4 : w4.frozen? ⟨w.heap.size + 1, 4, none⟩ = false := (X5.there 4 (by simp)).2
  have HX5 := hid X5
  have HY5 := hid Y5
  have HB5' := hid B5
  have HRUN := hid hrun
  have HSR := hid (fun W => slice_lo W a len cap 2 (by have := HN.out; omega) hcp)
  have HO4 := hid hown4
  clear X3 Y3 B3 X4 Y4 B4 X5 Y5 B5 hrun hown4 hgr4 nb
  refine wp_region_held_drew (S := (fun _ : World => True)) (by kernel_rfl) (trivial) (fun hHeld => ?_)
  refine wpAnyH_norm (l2 := #[false, false, false, false, false, false, false]) (f2 := 7) (by kernel_rfl) (by kernel_rfl) ?_
  refine wpAnyH_take (i := 0) (oi := _) (v := ?_) rfl (by kernel_rfl) (by kernel_rfl) (by kernel_rfl) (fun _ _ _ h => h) (Or.inl ⟨by rfl, ?_⟩) (by assumption) ?_
  rotate_left
  · (intro w hSw; (try dsimp only at hSw); go_simp; try with_reducible rfl)
  simp only [List.getElem_toArray, List.getElem_cons_succ, List.getElem_cons_zero, Act.put, List.setIfInBounds_toArray, List.set_cons_zero, List.set_cons_succ]
  refine wpAnyH_norm (l2 := #[true, false, false, false, false, false, false]) (f2 := 6) (by kernel_rfl) (by kernel_rfl) ?_
  refine wpAnyH_take (i := 2) (oi := _) (v := ?_) rfl (by kernel_rfl) (by kernel_rfl) (by kernel_rfl) (fun _ _ _ h => h) (Or.inl ⟨by rfl, ?_⟩) (by assumption) ?_
  rotate_left
  · (intro w hSw; (try dsimp only at hSw); go_simp; try with_reducible rfl)
  simp only [List.getElem_toArray, List.getElem_cons_succ, List.getElem_cons_zero, Act.put, List.setIfInBounds_toArray, List.set_cons_zero, List.set_cons_succ]
  refine wpAnyH_norm (l2 := #[true, false, true, false, false, false, false]) (f2 := 5) (by kernel_rfl) (by kernel_rfl) ?_
  refine wpAnyH_take (i := 3) (oi := _) (v := .slice (cutB a cap 2) (len - 2) (cap - 2)) rfl (by kernel_rfl) (by kernel_rfl) (by kernel_rfl) (fun _ _ _ h => h) (Or.inl ⟨by rfl, ?_⟩) (by assumption) ?_
  · (intro w hSw; (try dsimp only at hSw); exact ex_slice (vlo := some (.int .i64 2)) (vhi := none) (vmx := none) rfl rfl rfl rfl rfl (HSR.out _))
  simp only [List.getElem_toArray, List.getElem_cons_succ, List.getElem_cons_zero, Act.put, List.setIfInBounds_toArray, List.set_cons_zero, List.set_cons_succ]
  refine wpAnyH_norm (l2 := #[true, false, true, true, false, false, false]) (f2 := 4) (by kernel_rfl) (by kernel_rfl) ?_
  refine wpAnyH_ready (rs := [1]) (by kernel_rfl) (by simp) ?_
  refine AllReadyH.cons rfl (fun K hK => ?_) AllReadyH.nil
  go_simp
  refine hK.out _ _ (trivial) (fun hHeld => ?_)
  clear hK K
  simp only [List.getElem_toArray, List.getElem_cons_succ, List.getElem_cons_zero, Act.put, List.setIfInBounds_toArray, List.set_cons_zero, List.set_cons_succ]
  refine wpAnyH_norm (l2 := #[true, true, true, true, false, false, false]) (f2 := 3) (by kernel_rfl) (by kernel_rfl) ?_
  refine wpAnyH_ready (rs := [4]) (by kernel_rfl) (by simp) ?_
  refine AllReadyH.cons rfl (fun K hK => ?_) AllReadyH.nil
  refine wp_append_known (.tmp 31) (.tmp 33) 28 rfl _ _ rfl rfl _ w4 HRUN.out ?_
  refine hK.out _ _ (trivial) (fun hHeld => ?_)
  clear hK K
  simp only [List.getElem_toArray, List.getElem_cons_succ, List.getElem_cons_zero, Act.put, List.setIfInBounds_toArray, List.set_cons_zero, List.set_cons_succ]
  refine wpAnyH_norm (l2 := #[true, true, true, true, true, false, false]) (f2 := 2) (by kernel_rfl) (by kernel_rfl) ?_
  refine wpAnyH_take (i := 5) (oi := _) (v := ?_) rfl (by kernel_rfl) (by kernel_rfl) (by kernel_rfl) (fun _ _ _ h => h) (Or.inl ⟨by rfl, ?_⟩) (by assumption) ?_
  rotate_left
  · (intro w hSw; (try dsimp only at hSw); go_simp; try with_reducible rfl)
  simp only [List.getElem_toArray, List.getElem_cons_succ, List.getElem_cons_zero, Act.put, List.setIfInBounds_toArray, List.set_cons_zero, List.set_cons_succ]
  refine wpAnyH_norm (l2 := #[true, true, true, true, true, true, false]) (f2 := 1) (by kernel_rfl) (by kernel_rfl) ?_
  refine wpAnyH_ready (rs := [6]) (by kernel_rfl) (by simp) ?_
  refine AllReadyH.cons rfl (fun K hK => ?_) AllReadyH.nil
  go_simp
  refine hK.out _ _ (trivial) (fun hHeld => ?_)
  clear hK K
  simp only [List.getElem_toArray, List.getElem_cons_succ, List.getElem_cons_zero, Act.put, List.setIfInBounds_toArray, List.set_cons_zero, List.set_cons_succ]
  refine wpAnyH_norm (l2 := #[true, true, true, true, true, true, true]) (f2 := 0) (by kernel_rfl) (by kernel_rfl) ?_
  refine wpAnyH_done (by kernel_rfl) ?_ _
  have X3 : Bx (w4.setCell ⟨w.heap.size + 1, 4, none⟩ (.slice a4 (len - 2) c4)) (w.heap.size + 1) [.int .i64 0, .int .i64 0, .int .u64 0, .int .u64 0, .slice a4 (len - 2) c4, .int .i64 0] := Bx.put HX5.out (j := 4) (by simp) _
  have Y3 : Bx (w4.setCell ⟨w.heap.size + 1, 4, none⟩ (.slice a4 (len - 2) c4)) w.heap.size [.int .i64 0, .int .i64 0, .int .u64 0, .int .u64 0, .slice none 0 0, .int .i64 0] := Bx.off HY5.out (by omega) _
  have B3 : Below w.heap.size w (w4.setCell ⟨w.heap.size + 1, 4, none⟩ (.slice a4 (len - 2) c4)) := Below.setCell HB5'.out (Nat.le_succ _) _
  have HRo : Hid (Ro (w4.setCell ⟨w.heap.size + 1, 4, none⟩ (.slice a4 (len - 2) c4)) (w.heap.size + 1) [.int .i64 0, .int .i64 0, .int .u64 0, .int .u64 0, .slice a4 (len - 2) c4, .int .i64 0] (gr 5 R)) := by
    unfold Hid
    rw [HG.out]
    exact ⟨⟨a4, len - 2, c4⟩, rfl, (HO4.out.but2 (setCells_but (S := (· = w.heap.size + 1)) (b := w.heap.size + 1) rfl [.slice a4 (len - 2) c4] 4 (But.refl _ w4)) (fun k hk e => by have := HO4.out.blk k hk; have := HLT.out; omega)).mono (by have := HLT.out; omega), zltr, zltr⟩
  clear HX5 HY5 HB5' HO4 HRUN HSR z4 y4 f4
  generalize w4.setCell ⟨w.heap.size + 1, 4, none⟩ (.slice a4 (len - 2) c4) = w3 at X3 Y3 B3 HRo ⊢
  go_upto_region 12 with fail
  obtain ⟨M, hM⟩ : ∃ M : List Value, M = [.int .i64 0, .int .i64 0, .int .u64 0, .int .u64 0, .slice a4 (len - 2) c4, .int .i64 0] := ⟨_, rfl⟩
  rw [← hM] at X3 HRo
  obtain ⟨Z, hZl, hZo, hZz, hz⟩ := zero30
  have hZ0 : (Z.toArray = #[]) = False := by simp; intro h; rw [h] at hZl; simp at hZl
  have Y3 : Bx w3 w.heap.size Z := by rw [hZz]; exact Y3
  have hml : M.length = 6 := by rw [hM]; rfl
  have HMO : Hid (∀ v ∈ M, v.oneCell' = true) := by unfold Hid; rw [hM]; simp [Value.oneCell']
  have HLD3 := hid (ld30 X3.range hml)
  have HX3 := hid X3
  have HY3 := hid Y3
  have HB3 := hid B3
  have HZ := hid (And.intro hZz hZo)
  clear hM X3 Y3 B3 hZz hZo
  go_wp2_with (first | ((with_reducible refine ld_arm HLD4.out ?_ ?_); (· rfl)) | ((with_reducible refine ld_arm HLD3.out ?_ ?_); (· rfl)) | (go_at_call 21; refine (ranswer_ok 5 M (gr 5 R) _ HRo.out.rr HF.out).mono ?_; rintro e w4 ⟨a4, n4, c4, rfl, hown, hb4⟩; have cv1 := hown.read.conv; have cv2 := (HR.out.later (below_call HB3.out hb4)).conv; rw [HY.out] at cv1; have HLD4 := hid (ld30 (HX3.out.later hb4).range hml); have X4 := HY3.out.later hb4; have hst4 := stc (n := 6) (by rw [← hZl]; exact X4.there) hml HMO.out; have HLV := hid (lv30 (X4.set (M := M) (hml.trans hZl.symm)).range hml); have HB5 : Hid (Below w.heap.size w (w4.setCells w.heap.size 0 M)) := (But.below (below_call HB3.out hb4) (setCells_but (S := (· = w.heap.size)) rfl M 0 (But.refl _ _)) (fun k hk => (by omega))); have HR5 : Hid (Rr (w4.setCells w.heap.size 0 M) M (gr 5 R)) := ((HRo.out.later hb4).but (setCells_but (S := (· = w.heap.size)) rfl M 0 (But.refl _ _)) (fun k hk e => (by omega))).rr; clear X4))
  exact bodyPost_ret (v := .tuple #[.agg M.toArray, .int .i64 0]) (by have hlv := HLV.out; simp [results, Try.results22, asAddr, hlv]) rfl ⟨M, rfl, HR5.out, HB5.out⟩
set_option maxRecDepth 100000 in
set_option maxHeartbeats 4000000 in
theorem pa5l_bad (a : Option Addr) (len cap : Nat) (R : List Nat) (w : World) (h : Row w a len cap R) (hl : len ≤ 140737488355328) (h0 : sv (gt R 0 2) = 0) (hg : gt R 0 2 = 0) (hN : 2 < len) (hf : rfm 5 (gr 5 R) = false) :
    Calls Try.prog 22 #[.int .i64 5, .slice a len cap] w fun e w' => e = .returned (.tuple #[.agg z30.toArray, .int .i64 1]) ∧ Below w.heap.size w w' := by
  have HG : Hid (gr 5 R = ⟨0, 0, 0, 0, R.drop 2, 0⟩) := by unfold Hid gr; rw [if_pos hg, if_neg (by omega), if_pos rfl]
  have HR := hid h
  have HS := hid h.small
  have HF := hid hf
  have H0 := hid h0
  have HN := hid hN
  clear h hf h0 hN
  have hd1 : decide (2 < (len : Int)) = true := by have := HN.out; simp; omega
  have hd2 : decide (2 < len) = true := by have := HN.out; simp; omega
  have hcp := HR.out.cap_
  have mk0 := hid True.intro
  go_enter Try.func22, Try.ntmps22
  go_upto_region 9 with (first | (clear mk0; go_at_call 40; refine (get_is a len cap R 0 2 _ (HR.out.later (below1 _ _)) (by omega) (by omega) hl H0.out).mono ?_; rintro e w9 ⟨rfl, hw9⟩; obtain rfl := hw9.symm; have mk1 := hid True.intro))
  have X3 : Bx ((w.alloc (Obj.cells #[.int .i64 0, .int .i64 0, .int .u64 0, .int .u64 0, .slice none 0 0, .int .i64 0] 30)).alloc (Obj.cells #[.int .i64 0, .int .i64 0, .int .u64 0, .int .u64 0, .slice none 0 0, .int .i64 0] 30)) (w.heap.size + 1) [.int .i64 0, .int .i64 0, .int .u64 0, .int .u64 0, .slice none 0 0, .int .i64 0] := by
    have := Bx.new (w.alloc (Obj.cells #[.int .i64 0, .int .i64 0, .int .u64 0, .int .u64 0, .slice none 0 0, .int .i64 0] 30)) [.int .i64 0, .int .i64 0, .int .u64 0, .int .u64 0, .slice none 0 0, .int .i64 0] 30
    simp at this
    exact this
  have Y3 : Bx ((w.alloc (Obj.cells #[.int .i64 0, .int .i64 0, .int .u64 0, .int .u64 0, .slice none 0 0, .int .i64 0] 30)).alloc (Obj.cells #[.int .i64 0, .int .i64 0, .int .u64 0, .int .u64 0, .slice none 0 0, .int .i64 0] 30)) w.heap.size [.int .i64 0, .int .i64 0, .int .u64 0, .int .u64 0, .slice none 0 0, .int .i64 0] := (Bx.new w [.int .i64 0, .int .i64 0, .int .u64 0, .int .u64 0, .slice none 0 0, .int .i64 0] 30).later (below1 _ _)
  have B3 : Below w.heap.size w ((w.alloc (Obj.cells #[.int .i64 0, .int .i64 0, .int .u64 0, .int .u64 0, .slice none 0 0, .int .i64 0] 30)).alloc (Obj.cells #[.int .i64 0, .int .i64 0, .int .u64 0, .int .u64 0, .slice none 0 0, .int .i64 0] 30)) := below2 _ _ _
  generalize ((w.alloc (Obj.cells #[.int .i64 0, .int .i64 0, .int .u64 0, .int .u64 0, .slice none 0 0, .int .i64 0] 30)).alloc (Obj.cells #[.int .i64 0, .int .i64 0, .int .u64 0, .int .u64 0, .slice none 0 0, .int .i64 0] 30)) = w3 at X3 Y3 B3 ⊢
  have B4 : Below w.heap.size w w3.drew := B3.drew
  have X4 : Bx w3.drew (w.heap.size + 1) [.int .i64 0, .int .i64 0, .int .u64 0, .int .u64 0, .slice none 0 0, .int .i64 0] := X3.later (Below.refl _ _).drew
  have Y4 : Bx w3.drew w.heap.size [.int .i64 0, .int .i64 0, .int .u64 0, .int .u64 0, .slice none 0 0, .int .i64 0] := Y3.later (Below.refl _ _).drew
  obtain ⟨a4, c4, w4, hrun, hown4, hgr4⟩ := append_any (Own.nil w3.drew w3.drew.heap.size) ((HR.out.later B4).drop 2 (by have := HN.out; omega)) (Nat.le_refl _) (by omega)
  rw [Nat.zero_add, List.nil_append] at hown4
  rw [Nat.zero_add] at hrun
  have nb : ∀ k, ¬ Blk none k := fun k hk => by obtain ⟨z, hz, _⟩ := hk; cases hz
  have HLT := hid (X4.lt (by simp))
  have z4 : w3.drew.cell? ⟨w.heap.size + 1, 4, none⟩ = some (.slice none 0 0) := X4.cell 4 rfl
  have X5 := X4.but hgr4.but (nb _)
  have Y5 := Y4.but hgr4.but (nb _)
  have B5 : Below w.heap.size w w4 := But.below B4 hgr4.but (fun k hk => absurd hk (nb k))
  have y4 : w4.cell? ⟨w.heap.size + 1, 4, none⟩ = some (.slice none 0 0) := X5.cell 4 rfl
  have f4 : w4.frozen? ⟨w.heap.size + 1, 4, none⟩ = false := (X5.there 4 (by simp)).2
  have HX5 := hid X5
  have HY5 := hid Y5
  have HB5' := hid B5
  have HRUN := hid hrun
  have HSR := hid (fun W => slice_lo W a len cap 2 (by have := HN.out; omega) hcp)
  have HO4 := hid hown4
  clear X3 Y3 B3 X4 Y4 B4 X5 Y5 B5 hrun hown4 hgr4 nb
  refine wp_region_held_drew (S := (fun _ : World => True)) (by kernel_rfl) (trivial) (fun hHeld => ?_)
  refine wpAnyH_norm (l2 := #[false, false, false, false, false, false, false]) (f2 := 7) (by kernel_rfl) (by kernel_rfl) ?_
  refine wpAnyH_take (i := 0) (oi := _) (v := ?_) rfl (by kernel_rfl) (by kernel_rfl) (by kernel_rfl) (fun _ _ _ h => h) (Or.inl ⟨by rfl, ?_⟩) (by assumption) ?_
  rotate_left
  · (intro w hSw; (try dsimp only at hSw); go_simp; try with_reducible rfl)
  simp only [List.getElem_toArray, List.getElem_cons_succ, List.getElem_cons_zero, Act.put, List.setIfInBounds_toArray, List.set_cons_zero, List.set_cons_succ]
  refine wpAnyH_norm (l2 := #[true, false, false, false, false, false, false]) (f2 := 6) (by kernel_rfl) (by kernel_rfl) ?_
  refine wpAnyH_take (i := 2) (oi := _) (v := ?_) rfl (by kernel_rfl) (by kernel_rfl) (by kernel_rfl) (fun _ _ _ h => h) (Or.inl ⟨by rfl, ?_⟩) (by assumption) ?_
  rotate_left
  · (intro w hSw; (try dsimp only at hSw); go_simp; try with_reducible rfl)
  simp only [List.getElem_toArray, List.getElem_cons_succ, List.getElem_cons_zero, Act.put, List.setIfInBounds_toArray, List.set_cons_zero, List.set_cons_succ]
  refine wpAnyH_norm (l2 := #[true, false, true, false, false, false, false]) (f2 := 5) (by kernel_rfl) (by kernel_rfl) ?_
  refine wpAnyH_take (i := 3) (oi := _) (v := .slice (cutB a cap 2) (len - 2) (cap - 2)) rfl (by kernel_rfl) (by kernel_rfl) (by kernel_rfl) (fun _ _ _ h => h) (Or.inl ⟨by rfl, ?_⟩) (by assumption) ?_
  · (intro w hSw; (try dsimp only at hSw); exact ex_slice (vlo := some (.int .i64 2)) (vhi := none) (vmx := none) rfl rfl rfl rfl rfl (HSR.out _))
  simp only [List.getElem_toArray, List.getElem_cons_succ, List.getElem_cons_zero, Act.put, List.setIfInBounds_toArray, List.set_cons_zero, List.set_cons_succ]
  refine wpAnyH_norm (l2 := #[true, false, true, true, false, false, false]) (f2 := 4) (by kernel_rfl) (by kernel_rfl) ?_
  refine wpAnyH_ready (rs := [1]) (by kernel_rfl) (by simp) ?_
  refine AllReadyH.cons rfl (fun K hK => ?_) AllReadyH.nil
  go_simp
  refine hK.out _ _ (trivial) (fun hHeld => ?_)
  clear hK K
  simp only [List.getElem_toArray, List.getElem_cons_succ, List.getElem_cons_zero, Act.put, List.setIfInBounds_toArray, List.set_cons_zero, List.set_cons_succ]
  refine wpAnyH_norm (l2 := #[true, true, true, true, false, false, false]) (f2 := 3) (by kernel_rfl) (by kernel_rfl) ?_
  refine wpAnyH_ready (rs := [4]) (by kernel_rfl) (by simp) ?_
  refine AllReadyH.cons rfl (fun K hK => ?_) AllReadyH.nil
  refine wp_append_known (.tmp 31) (.tmp 33) 28 rfl _ _ rfl rfl _ w4 HRUN.out ?_
  refine hK.out _ _ (trivial) (fun hHeld => ?_)
  clear hK K
  simp only [List.getElem_toArray, List.getElem_cons_succ, List.getElem_cons_zero, Act.put, List.setIfInBounds_toArray, List.set_cons_zero, List.set_cons_succ]
  refine wpAnyH_norm (l2 := #[true, true, true, true, true, false, false]) (f2 := 2) (by kernel_rfl) (by kernel_rfl) ?_
  refine wpAnyH_take (i := 5) (oi := _) (v := ?_) rfl (by kernel_rfl) (by kernel_rfl) (by kernel_rfl) (fun _ _ _ h => h) (Or.inl ⟨by rfl, ?_⟩) (by assumption) ?_
  rotate_left
  · (intro w hSw; (try dsimp only at hSw); go_simp; try with_reducible rfl)
  simp only [List.getElem_toArray, List.getElem_cons_succ, List.getElem_cons_zero, Act.put, List.setIfInBounds_toArray, List.set_cons_zero, List.set_cons_succ]
  refine wpAnyH_norm (l2 := #[true, true, true, true, true, true, false]) (f2 := 1) (by kernel_rfl) (by kernel_rfl) ?_
  refine wpAnyH_ready (rs := [6]) (by kernel_rfl) (by simp) ?_
  refine AllReadyH.cons rfl (fun K hK => ?_) AllReadyH.nil
  go_simp
  refine hK.out _ _ (trivial) (fun hHeld => ?_)
  clear hK K
  simp only [List.getElem_toArray, List.getElem_cons_succ, List.getElem_cons_zero, Act.put, List.setIfInBounds_toArray, List.set_cons_zero, List.set_cons_succ]
  refine wpAnyH_norm (l2 := #[true, true, true, true, true, true, true]) (f2 := 0) (by kernel_rfl) (by kernel_rfl) ?_
  refine wpAnyH_done (by kernel_rfl) ?_ _
  have X3 : Bx (w4.setCell ⟨w.heap.size + 1, 4, none⟩ (.slice a4 (len - 2) c4)) (w.heap.size + 1) [.int .i64 0, .int .i64 0, .int .u64 0, .int .u64 0, .slice a4 (len - 2) c4, .int .i64 0] := Bx.put HX5.out (j := 4) (by simp) _
  have Y3 : Bx (w4.setCell ⟨w.heap.size + 1, 4, none⟩ (.slice a4 (len - 2) c4)) w.heap.size [.int .i64 0, .int .i64 0, .int .u64 0, .int .u64 0, .slice none 0 0, .int .i64 0] := Bx.off HY5.out (by omega) _
  have B3 : Below w.heap.size w (w4.setCell ⟨w.heap.size + 1, 4, none⟩ (.slice a4 (len - 2) c4)) := Below.setCell HB5'.out (Nat.le_succ _) _
  have HRo : Hid (Ro (w4.setCell ⟨w.heap.size + 1, 4, none⟩ (.slice a4 (len - 2) c4)) (w.heap.size + 1) [.int .i64 0, .int .i64 0, .int .u64 0, .int .u64 0, .slice a4 (len - 2) c4, .int .i64 0] (gr 5 R)) := by
    unfold Hid
    rw [HG.out]
    exact ⟨⟨a4, len - 2, c4⟩, rfl, (HO4.out.but2 (setCells_but (S := (· = w.heap.size + 1)) (b := w.heap.size + 1) rfl [.slice a4 (len - 2) c4] 4 (But.refl _ w4)) (fun k hk e => by have := HO4.out.blk k hk; have := HLT.out; omega)).mono (by have := HLT.out; omega), zltr, zltr⟩
  clear HX5 HY5 HB5' HO4 HRUN HSR z4 y4 f4
  generalize w4.setCell ⟨w.heap.size + 1, 4, none⟩ (.slice a4 (len - 2) c4) = w3 at X3 Y3 B3 HRo ⊢
  go_upto_region 12 with fail
  obtain ⟨M, hM⟩ : ∃ M : List Value, M = [.int .i64 0, .int .i64 0, .int .u64 0, .int .u64 0, .slice a4 (len - 2) c4, .int .i64 0] := ⟨_, rfl⟩
  rw [← hM] at X3 HRo
  obtain ⟨Z, hZl, hZo, hZz, hz⟩ := zero30
  have hZ0 : (Z.toArray = #[]) = False := by simp; intro h; rw [h] at hZl; simp at hZl
  have Y3 : Bx w3 w.heap.size Z := by rw [hZz]; exact Y3
  have hml : M.length = 6 := by rw [hM]; rfl
  have HMO : Hid (∀ v ∈ M, v.oneCell' = true) := by unfold Hid; rw [hM]; simp [Value.oneCell']
  have HLD3 := hid (ld30 X3.range hml)
  have HX3 := hid X3
  have HY3 := hid Y3
  have HB3 := hid B3
  have HZ := hid (And.intro hZz hZo)
  clear hM X3 Y3 B3 hZz hZo
  go_wp2_with (first | ((with_reducible refine ld_arm HLD4.out ?_ ?_); (· rfl)) | ((with_reducible refine ld_arm HLD3.out ?_ ?_); (· rfl)) | (go_at_call 21; refine (ranswer_bad 5 M (gr 5 R) _ HRo.out.rr HF.out).mono ?_; rintro e w4 ⟨rfl, hb4⟩; have HLD4 := hid (ld30 (HX3.out.later hb4).range hml); have X4 := HY3.out.later hb4; have hst4 := stc (n := 6) (by rw [← hZl]; exact X4.there) hZl HZ.out.2; have HLV := hid (lv30 (X4.set (M := Z) (hZl.trans hZl.symm)).range hZl); have HB5 : Hid (Below w.heap.size w (w4.setCells w.heap.size 0 Z)) := (But.below (below_call HB3.out hb4) (setCells_but (S := (· = w.heap.size)) rfl Z 0 (But.refl _ _)) (fun k hk => (by omega))); clear X4))
  exact bodyPost_ret (v := .tuple #[.agg Z.toArray, .int .i64 1]) (by have hlv := HLV.out; simp [results, Try.results22, asAddr, hlv]) rfl ⟨by rw [HZ.out.1], HB5.out⟩
set_option maxRecDepth 100000 in
set_option maxHeartbeats 4000000 in
theorem pa5l_other (a : Option Addr) (len cap : Nat) (R : List Nat) (w : World) (h : Row w a len cap R) (hl : len ≤ 140737488355328) (h0 : sv (gt R 0 2) = 0) (hg : gt R 0 2 = 0) (hN : 2 < len) (hf : rfm 5 (gr 5 R) = true) (hy : ¬ rly 5 (gr 5 R) = R) :
    Calls Try.prog 22 #[.int .i64 5, .slice a len cap] w fun e w' => e = .returned (.tuple #[.agg z30.toArray, .int .i64 1]) ∧ Below w.heap.size w w' := by
  have HG : Hid (gr 5 R = ⟨0, 0, 0, 0, R.drop 2, 0⟩) := by unfold Hid gr; rw [if_pos hg, if_neg (by omega), if_pos rfl]
  have HR := hid h
  have HS := hid h.small
  have HF := hid hf
  have HY := hid hy
  have H0 := hid h0
  have HN := hid hN
  clear h hf hy h0 hN
  have hd1 : decide (2 < (len : Int)) = true := by have := HN.out; simp; omega
  have hd2 : decide (2 < len) = true := by have := HN.out; simp; omega
  have hcp := HR.out.cap_
  have mk0 := hid True.intro
  go_enter Try.func22, Try.ntmps22
  go_upto_region 9 with (first | (clear mk0; go_at_call 40; refine (get_is a len cap R 0 2 _ (HR.out.later (below1 _ _)) (by omega) (by omega) hl H0.out).mono ?_; rintro e w9 ⟨rfl, hw9⟩; obtain rfl := hw9.symm; have mk1 := hid True.intro))
  have X3 : Bx ((w.alloc (Obj.cells #[.int .i64 0, .int .i64 0, .int .u64 0, .int .u64 0, .slice none 0 0, .int .i64 0] 30)).alloc (Obj.cells #[.int .i64 0, .int .i64 0, .int .u64 0, .int .u64 0, .slice none 0 0, .int .i64 0] 30)) (w.heap.size + 1) [.int .i64 0, .int .i64 0, .int .u64 0, .int .u64 0, .slice none 0 0, .int .i64 0] := by
    have := Bx.new (w.alloc (Obj.cells #[.int .i64 0, .int .i64 0, .int .u64 0, .int .u64 0, .slice none 0 0, .int .i64 0] 30)) [.int .i64 0, .int .i64 0, .int .u64 0, .int .u64 0, .slice none 0 0, .int .i64 0] 30
    simp at this
    exact this
  have Y3 : Bx ((w.alloc (Obj.cells #[.int .i64 0, .int .i64 0, .int .u64 0, .int .u64 0, .slice none 0 0, .int .i64 0] 30)).alloc (Obj.cells #[.int .i64 0, .int .i64 0, .int .u64 0, .int .u64 0, .slice none 0 0, .int .i64 0] 30)) w.heap.size [.int .i64 0, .int .i64 0, .int .u64 0, .int .u64 0, .slice none 0 0, .int .i64 0] := (Bx.new w [.int .i64 0, .int .i64 0, .int .u64 0, .int .u64 0, .slice none 0 0, .int .i64 0] 30).later (below1 _ _)
  have B3 : Below w.heap.size w ((w.alloc (Obj.cells #[.int .i64 0, .int .i64 0, .int .u64 0, .int .u64 0, .slice none 0 0, .int .i64 0] 30)).alloc (Obj.cells #[.int .i64 0, .int .i64 0, .int .u64 0, .int .u64 0, .slice none 0 0, .int .i64 0] 30)) := below2 _ _ _
  generalize ((w.alloc (Obj.cells #[.int .i64 0, .int .i64 0, .int .u64 0, .int .u64 0, .slice none 0 0, .int .i64 0] 30)).alloc (Obj.cells #[.int .i64 0, .int .i64 0, .int .u64 0, .int .u64 0, .slice none 0 0, .int .i64 0] 30)) = w3 at X3 Y3 B3 ⊢
  have B4 : Below w.heap.size w w3.drew := B3.drew
  have X4 : Bx w3.drew (w.heap.size + 1) [.int .i64 0, .int .i64 0, .int .u64 0, .int .u64 0, .slice none 0 0, .int .i64 0] := X3.later (Below.refl _ _).drew
  have Y4 : Bx w3.drew w.heap.size [.int .i64 0, .int .i64 0, .int .u64 0, .int .u64 0, .slice none 0 0, .int .i64 0] := Y3.later (Below.refl _ _).drew
  obtain ⟨a4, c4, w4, hrun, hown4, hgr4⟩ := append_any (Own.nil w3.drew w3.drew.heap.size) ((HR.out.later B4).drop 2 (by have := HN.out; omega)) (Nat.le_refl _) (by omega)
  rw [Nat.zero_add, List.nil_append] at hown4
  rw [Nat.zero_add] at hrun
  have nb : ∀ k, ¬ Blk none k := fun k hk => by obtain ⟨z, hz, _⟩ := hk; cases hz
  have HLT := hid (X4.lt (by simp))
  have z4 : w3.drew.cell? ⟨w.heap.size + 1, 4, none⟩ = some (.slice none 0 0) := X4.cell 4 rfl
  have X5 := X4.but hgr4.but (nb _)
  have Y5 := Y4.but hgr4.but (nb _)
  have B5 : Below w.heap.size w w4 := But.below B4 hgr4.but (fun k hk => absurd hk (nb k))
  have y4 : w4.cell? ⟨w.heap.size + 1, 4, none⟩ = some (.slice none 0 0) := X5.cell 4 rfl
  have f4 : w4.frozen? ⟨w.heap.size + 1, 4, none⟩ = false := (X5.there 4 (by simp)).2
  have HX5 := hid X5
  have HY5 := hid Y5
  have HB5' := hid B5
  have HRUN := hid hrun
  have HSR := hid (fun W => slice_lo W a len cap 2 (by have := HN.out; omega) hcp)
  have HO4 := hid hown4
  clear X3 Y3 B3 X4 Y4 B4 X5 Y5 B5 hrun hown4 hgr4 nb
  refine wp_region_held_drew (S := (fun _ : World => True)) (by kernel_rfl) (trivial) (fun hHeld => ?_)
  refine wpAnyH_norm (l2 := #[false, false, false, false, false, false, false]) (f2 := 7) (by kernel_rfl) (by kernel_rfl) ?_
  refine wpAnyH_take (i := 0) (oi := _) (v := ?_) rfl (by kernel_rfl) (by kernel_rfl) (by kernel_rfl) (fun _ _ _ h => h) (Or.inl ⟨by rfl, ?_⟩) (by assumption) ?_
  rotate_left
  · (intro w hSw; (try dsimp only at hSw); go_simp; try with_reducible rfl)
  simp only [List.getElem_toArray, List.getElem_cons_succ, List.getElem_cons_zero, Act.put, List.setIfInBounds_toArray, List.set_cons_zero, List.set_cons_succ]
  refine wpAnyH_norm (l2 := #[true, false, false, false, false, false, false]) (f2 := 6) (by kernel_rfl) (by kernel_rfl) ?_
  refine wpAnyH_take (i := 2) (oi := _) (v := ?_) rfl (by kernel_rfl) (by kernel_rfl) (by kernel_rfl) (fun _ _ _ h => h) (Or.inl ⟨by rfl, ?_⟩) (by assumption) ?_
  rotate_left
  · (intro w hSw; (try dsimp only at hSw); go_simp; try with_reducible rfl)
  simp only [List.getElem_toArray, List.getElem_cons_succ, List.getElem_cons_zero, Act.put, List.setIfInBounds_toArray, List.set_cons_zero, List.set_cons_succ]
  refine wpAnyH_norm (l2 := #[true, false, true, false, false, false, false]) (f2 := 5) (by kernel_rfl) (by kernel_rfl) ?_
  refine wpAnyH_take (i := 3) (oi := _) (v := .slice (cutB a cap 2) (len - 2) (cap - 2)) rfl (by kernel_rfl) (by kernel_rfl) (by kernel_rfl) (fun _ _ _ h => h) (Or.inl ⟨by rfl, ?_⟩) (by assumption) ?_
  · (intro w hSw; (try dsimp only at hSw); exact ex_slice (vlo := some (.int .i64 2)) (vhi := none) (vmx := none) rfl rfl rfl rfl rfl (HSR.out _))
  simp only [List.getElem_toArray, List.getElem_cons_succ, List.getElem_cons_zero, Act.put, List.setIfInBounds_toArray, List.set_cons_zero, List.set_cons_succ]
  refine wpAnyH_norm (l2 := #[true, false, true, true, false, false, false]) (f2 := 4) (by kernel_rfl) (by kernel_rfl) ?_
  refine wpAnyH_ready (rs := [1]) (by kernel_rfl) (by simp) ?_
  refine AllReadyH.cons rfl (fun K hK => ?_) AllReadyH.nil
  go_simp
  refine hK.out _ _ (trivial) (fun hHeld => ?_)
  clear hK K
  simp only [List.getElem_toArray, List.getElem_cons_succ, List.getElem_cons_zero, Act.put, List.setIfInBounds_toArray, List.set_cons_zero, List.set_cons_succ]
  refine wpAnyH_norm (l2 := #[true, true, true, true, false, false, false]) (f2 := 3) (by kernel_rfl) (by kernel_rfl) ?_
  refine wpAnyH_ready (rs := [4]) (by kernel_rfl) (by simp) ?_
  refine AllReadyH.cons rfl (fun K hK => ?_) AllReadyH.nil
  refine wp_append_known (.tmp 31) (.tmp 33) 28 rfl _ _ rfl rfl _ w4 HRUN.out ?_
  refine hK.out _ _ (trivial) (fun hHeld => ?_)
  clear hK K
  simp only [List.getElem_toArray, List.getElem_cons_succ, List.getElem_cons_zero, Act.put, List.setIfInBounds_toArray, List.set_cons_zero, List.set_cons_succ]
  refine wpAnyH_norm (l2 := #[true, true, true, true, true, false, false]) (f2 := 2) (by kernel_rfl) (by kernel_rfl) ?_
  refine wpAnyH_take (i := 5) (oi := _) (v := ?_) rfl (by kernel_rfl) (by kernel_rfl) (by kernel_rfl) (fun _ _ _ h => h) (Or.inl ⟨by rfl, ?_⟩) (by assumption) ?_
  rotate_left
  · (intro w hSw; (try dsimp only at hSw); go_simp; try with_reducible rfl)
  simp only [List.getElem_toArray, List.getElem_cons_succ, List.getElem_cons_zero, Act.put, List.setIfInBounds_toArray, List.set_cons_zero, List.set_cons_succ]
  refine wpAnyH_norm (l2 := #[true, true, true, true, true, true, false]) (f2 := 1) (by kernel_rfl) (by kernel_rfl) ?_
  refine wpAnyH_ready (rs := [6]) (by kernel_rfl) (by simp) ?_
  refine AllReadyH.cons rfl (fun K hK => ?_) AllReadyH.nil
  go_simp
  refine hK.out _ _ (trivial) (fun hHeld => ?_)
  clear hK K
  simp only [List.getElem_toArray, List.getElem_cons_succ, List.getElem_cons_zero, Act.put, List.setIfInBounds_toArray, List.set_cons_zero, List.set_cons_succ]
  refine wpAnyH_norm (l2 := #[true, true, true, true, true, true, true]) (f2 := 0) (by kernel_rfl) (by kernel_rfl) ?_
  refine wpAnyH_done (by kernel_rfl) ?_ _
  have X3 : Bx (w4.setCell ⟨w.heap.size + 1, 4, none⟩ (.slice a4 (len - 2) c4)) (w.heap.size + 1) [.int .i64 0, .int .i64 0, .int .u64 0, .int .u64 0, .slice a4 (len - 2) c4, .int .i64 0] := Bx.put HX5.out (j := 4) (by simp) _
  have Y3 : Bx (w4.setCell ⟨w.heap.size + 1, 4, none⟩ (.slice a4 (len - 2) c4)) w.heap.size [.int .i64 0, .int .i64 0, .int .u64 0, .int .u64 0, .slice none 0 0, .int .i64 0] := Bx.off HY5.out (by omega) _
  have B3 : Below w.heap.size w (w4.setCell ⟨w.heap.size + 1, 4, none⟩ (.slice a4 (len - 2) c4)) := Below.setCell HB5'.out (Nat.le_succ _) _
  have HRo : Hid (Ro (w4.setCell ⟨w.heap.size + 1, 4, none⟩ (.slice a4 (len - 2) c4)) (w.heap.size + 1) [.int .i64 0, .int .i64 0, .int .u64 0, .int .u64 0, .slice a4 (len - 2) c4, .int .i64 0] (gr 5 R)) := by
    unfold Hid
    rw [HG.out]
    exact ⟨⟨a4, len - 2, c4⟩, rfl, (HO4.out.but2 (setCells_but (S := (· = w.heap.size + 1)) (b := w.heap.size + 1) rfl [.slice a4 (len - 2) c4] 4 (But.refl _ w4)) (fun k hk e => by have := HO4.out.blk k hk; have := HLT.out; omega)).mono (by have := HLT.out; omega), zltr, zltr⟩
  clear HX5 HY5 HB5' HO4 HRUN HSR z4 y4 f4
  generalize w4.setCell ⟨w.heap.size + 1, 4, none⟩ (.slice a4 (len - 2) c4) = w3 at X3 Y3 B3 HRo ⊢
  go_upto_region 12 with fail
  obtain ⟨M, hM⟩ : ∃ M : List Value, M = [.int .i64 0, .int .i64 0, .int .u64 0, .int .u64 0, .slice a4 (len - 2) c4, .int .i64 0] := ⟨_, rfl⟩
  rw [← hM] at X3 HRo
  obtain ⟨Z, hZl, hZo, hZz, hz⟩ := zero30
  have hZ0 : (Z.toArray = #[]) = False := by simp; intro h; rw [h] at hZl; simp at hZl
  have Y3 : Bx w3 w.heap.size Z := by rw [hZz]; exact Y3
  have hml : M.length = 6 := by rw [hM]; rfl
  have HMO : Hid (∀ v ∈ M, v.oneCell' = true) := by unfold Hid; rw [hM]; simp [Value.oneCell']
  have HLD3 := hid (ld30 X3.range hml)
  have HX3 := hid X3
  have HY3 := hid Y3
  have HB3 := hid B3
  have HZ := hid (And.intro hZz hZo)
  clear hM X3 Y3 B3 hZz hZo
  go_wp2_with (first | ((with_reducible refine ld_arm HLD4.out ?_ ?_); (· rfl)) | ((with_reducible refine ld_arm HLD3.out ?_ ?_); (· rfl)) | (go_at_call 21; refine (ranswer_ok 5 M (gr 5 R) _ HRo.out.rr HF.out).mono ?_; rintro e w4 ⟨a4, n4, c4, rfl, hown, hb4⟩; have cv1 := hown.read.conv; have cv2 := (HR.out.later (below_call HB3.out hb4)).conv; have hnes := str_beq hown.small HS.out; rw [decide_eq_false HY.out] at hnes; have hnet : (!(strB (rly 5 (gr 5 R))).toList == (strB R).toList) = true := (by rw [hnes]; rfl); clear hnes; have HLD4 := hid (ld30 (HX3.out.later hb4).range hml); have X4 := HY3.out.later hb4; have hst4 := stc (n := 6) (by rw [← hZl]; exact X4.there) hZl HZ.out.2; have HLV := hid (lv30 (X4.set (M := Z) (hZl.trans hZl.symm)).range hZl); have HB5 : Hid (Below w.heap.size w (w4.setCells w.heap.size 0 Z)) := (But.below (below_call HB3.out hb4) (setCells_but (S := (· = w.heap.size)) rfl Z 0 (But.refl _ _)) (fun k hk => (by omega))); clear X4))
  exact bodyPost_ret (v := .tuple #[.agg Z.toArray, .int .i64 1]) (by have hlv := HLV.out; simp [results, Try.results22, asAddr, hlv]) rfl ⟨by rw [HZ.out.1], HB5.out⟩
end Go.Proofs.Ytaffgoacbiedlaa
