import Derived.Test.YtaffgoacbiedlaaVG
namespace Go.Proofs.Ytaffgoacbiedlaa
open Go.RowKit
set_option linter.unusedVariables false
set_option linter.unusedSimpArgs false

set_option maxRecDepth 100000 in
set_option maxHeartbeats 4000000 in
theorem pa3_some (a : Option Addr) (len cap : Nat) (R : List Nat) (w : World) (h : Row w a len cap R) (hl : len ≤ 140737488355328) (v : Int) (h0 : sv (gt R 0 2) = 0) (hg : gt R 0 2 = 0) (h2 : sv (gt R 2 8) = v) (hf : rfm 3 (gr 3 R) = true) (hy : rly 3 (gr 3 R) = R) :
    Calls Try.prog 22 #[.int .i64 3, .slice a len cap] w fun e w' => ∃ L, e = .returned (.tuple #[.agg L.toArray, .int .i64 0]) ∧ Rr w' L (gr 3 R) ∧ Below w.heap.size w w' := by
  have HG : Hid (gr 3 R = ⟨0, v, hiW R 10, loW R 10, [], 0⟩) := by unfold Hid gr; rw [if_pos hg, if_pos (by omega), h2]
  have HR := hid h
  have HS := hid h.small
  have HF := hid hf
  have HY := hid hy
  have H0 := hid h0
  have H2 := hid h2
  clear h hf hy h0 h2
  have mk0 := hid True.intro
  go_enter Try.func22, Try.ntmps22
  go_upto_region 12 with (first | (clear mk0; go_at_call 40; refine (get_is a len cap R 0 2 _ (HR.out.later (below1 _ _)) (by omega) (by omega) hl H0.out).mono ?_; rintro e w9 ⟨rfl, hw9⟩; obtain rfl := hw9.symm; have mk1 := hid True.intro) | (clear mk1; go_at_call 40; refine (get_is a len cap R 2 8 _ (HR.out.later (below2 _ _ _)) (by omega) (by omega) hl H2.out).mono ?_; rintro e w9 ⟨rfl, hw9⟩; obtain rfl := hw9.symm; have mk2 := hid True.intro) | (clear mk2; go_at_call 41; refine (rgw_any a len cap R 10 _ (HR.out.later (below2 _ _ _)) (by omega) hl).mono ?_; rintro e w2 ⟨rfl, hb2⟩; have HX := hid ((by3 w 0).later hb2); have HY2 := hid ((by2 w 0).later hb2); have HB := hid (below_call (below2 w _ _) hb2); clear hb2; have z1 : w2.cell? ⟨w.heap.size + 1, 1, none⟩ = some (.int .i64 0) := HX.out.cell 1 rfl; have f1 : w2.frozen? ⟨w.heap.size + 1, 1, none⟩ = false := (HX.out.there 1 (by simp)).2; have z2 : w2.cell? ⟨w.heap.size + 1, 2, none⟩ = some (.int .u64 0) := HX.out.cell 2 rfl; have f2 : w2.frozen? ⟨w.heap.size + 1, 2, none⟩ = false := (HX.out.there 2 (by simp)).2; have z3 : w2.cell? ⟨w.heap.size + 1, 3, none⟩ = some (.int .u64 0) := HX.out.cell 3 rfl; have f3 : w2.frozen? ⟨w.heap.size + 1, 3, none⟩ = false := (HX.out.there 3 (by simp)).2; have mk3 := hid True.intro))
  have X3 : Bx (((w2.setCell ⟨w.heap.size + 1, 1, none⟩ (.int .i64 v)).setCell ⟨w.heap.size + 1, 2, none⟩ (.int .u64 (hiW R 10 : Int))).setCell ⟨w.heap.size + 1, 3, none⟩ (.int .u64 (loW R 10 : Int))) (w.heap.size + 1) [.int .i64 0, .int .i64 v, .int .u64 (hiW R 10 : Int), .int .u64 (loW R 10 : Int), .slice none 0 0, .int .i64 0] := (Bx.put (Bx.put (Bx.put HX.out (j := 1) (by simp) _) (j := 2) (by simp) _) (j := 3) (by simp) _)
  have Y3 : Bx (((w2.setCell ⟨w.heap.size + 1, 1, none⟩ (.int .i64 v)).setCell ⟨w.heap.size + 1, 2, none⟩ (.int .u64 (hiW R 10 : Int))).setCell ⟨w.heap.size + 1, 3, none⟩ (.int .u64 (loW R 10 : Int))) w.heap.size [.int .i64 0, .int .i64 0, .int .u64 0, .int .u64 0, .slice none 0 0, .int .i64 0] := (Bx.off (Bx.off (Bx.off HY2.out (by omega) _) (by omega) _) (by omega) _)
  have B3 : Below w.heap.size w (((w2.setCell ⟨w.heap.size + 1, 1, none⟩ (.int .i64 v)).setCell ⟨w.heap.size + 1, 2, none⟩ (.int .u64 (hiW R 10 : Int))).setCell ⟨w.heap.size + 1, 3, none⟩ (.int .u64 (loW R 10 : Int))) := (Below.setCell (Below.setCell (Below.setCell HB.out (Nat.le_succ _) _) (Nat.le_succ _) _) (Nat.le_succ _) _)
  clear HX HY2 HB z1 f1 z2 f2 z3 f3
  generalize (((w2.setCell ⟨w.heap.size + 1, 1, none⟩ (.int .i64 v)).setCell ⟨w.heap.size + 1, 2, none⟩ (.int .u64 (hiW R 10 : Int))).setCell ⟨w.heap.size + 1, 3, none⟩ (.int .u64 (loW R 10 : Int))) = w3 at X3 Y3 B3 ⊢
  have HRo : Hid (Ro w3 (w.heap.size + 1) [.int .i64 0, .int .i64 v, .int .u64 (hiW R 10 : Int), .int .u64 (loW R 10 : Int), .slice none 0 0, .int .i64 0] (gr 3 R)) := by
    unfold Hid
    rw [HG.out]
    exact ⟨⟨none, 0, 0⟩, rfl, Own.nil _ _, hiW_lt _ _, loW_lt _ _⟩
  obtain ⟨M, hM⟩ : ∃ M : List Value, M = [.int .i64 0, .int .i64 v, .int .u64 (hiW R 10 : Int), .int .u64 (loW R 10 : Int), .slice none 0 0, .int .i64 0] := ⟨_, rfl⟩
  rw [← hM] at X3 HRo
  obtain ⟨Z, hZl, hZo, hZz, hz⟩ := zero30
  have hZ0 : (Z.toArray = #[]) = False := by simp; intro h; rw [h] at hZl; simp at hZl
  have Y3 : Bx w3 w.heap.size Z := by rw [hZz]; exact Y3
  have hml : M.length = 6 := by rw [hM]; rfl
  have HMO : Hid (∀ v ∈ M, v.oneCell' = true) := by unfold Hid; rw [hM]; simp [Value.oneCell']
  have HLD3 := hid (ld30 X3.range hml)
  have HX3 := hid X3
  have HY3 := hid Y3
  have HB3 := hid B3
  have HZ := hid (And.intro hZz hZo)
  clear hM X3 Y3 B3 hZz hZo
  go_wp2_with (first | ((with_reducible refine ld_arm HLD4.out ?_ ?_); (· rfl)) | ((with_reducible refine ld_arm HLD3.out ?_ ?_); (· rfl)) | (go_at_call 21; refine (ranswer_ok 3 M (gr 3 R) _ HRo.out.rr HF.out).mono ?_; rintro e w4 ⟨a4, n4, c4, rfl, hown, hb4⟩; have cv1 := hown.read.conv; have cv2 := (HR.out.later (below_call HB3.out hb4)).conv; rw [HY.out] at cv1; have HLD4 := hid (ld30 (HX3.out.later hb4).range hml); have X4 := HY3.out.later hb4; have hst4 := stc (n := 6) (by rw [← hZl]; exact X4.there) hml HMO.out; have HLV := hid (lv30 (X4.set (M := M) (hml.trans hZl.symm)).range hml); have HB5 : Hid (Below w.heap.size w (w4.setCells w.heap.size 0 M)) := (But.below (below_call HB3.out hb4) (setCells_but (S := (· = w.heap.size)) rfl M 0 (But.refl _ _)) (fun k hk => (by omega))); have HR5 : Hid (Rr (w4.setCells w.heap.size 0 M) M (gr 3 R)) := ((HRo.out.later hb4).but (setCells_but (S := (· = w.heap.size)) rfl M 0 (But.refl _ _)) (fun k hk e => (by omega))).rr; clear X4))
  exact bodyPost_ret (v := .tuple #[.agg M.toArray, .int .i64 0]) (by have hlv := HLV.out; simp [results, Try.results22, asAddr, hlv]) rfl ⟨M, rfl, HR5.out, HB5.out⟩
set_option maxRecDepth 100000 in
set_option maxHeartbeats 4000000 in
theorem pa3_bad (a : Option Addr) (len cap : Nat) (R : List Nat) (w : World) (h : Row w a len cap R) (hl : len ≤ 140737488355328) (v : Int) (h0 : sv (gt R 0 2) = 0) (hg : gt R 0 2 = 0) (h2 : sv (gt R 2 8) = v) (hf : rfm 3 (gr 3 R) = false) :
    Calls Try.prog 22 #[.int .i64 3, .slice a len cap] w fun e w' => e = .returned (.tuple #[.agg z30.toArray, .int .i64 1]) ∧ Below w.heap.size w w' := by
  have HG : Hid (gr 3 R = ⟨0, v, hiW R 10, loW R 10, [], 0⟩) := by unfold Hid gr; rw [if_pos hg, if_pos (by omega), h2]
  have HR := hid h
  have HS := hid h.small
  have HF := hid hf
  have H0 := hid h0
  have H2 := hid h2
  clear h hf h0 h2
  have mk0 := hid True.intro
  go_enter Try.func22, Try.ntmps22
  go_upto_region 12 with (first | (clear mk0; go_at_call 40; refine (get_is a len cap R 0 2 _ (HR.out.later (below1 _ _)) (by omega) (by omega) hl H0.out).mono ?_; rintro e w9 ⟨rfl, hw9⟩; obtain rfl := hw9.symm; have mk1 := hid True.intro) | (clear mk1; go_at_call 40; refine (get_is a len cap R 2 8 _ (HR.out.later (below2 _ _ _)) (by omega) (by omega) hl H2.out).mono ?_; rintro e w9 ⟨rfl, hw9⟩; obtain rfl := hw9.symm; have mk2 := hid True.intro) | (clear mk2; go_at_call 41; refine (rgw_any a len cap R 10 _ (HR.out.later (below2 _ _ _)) (by omega) hl).mono ?_; rintro e w2 ⟨rfl, hb2⟩; have HX := hid ((by3 w 0).later hb2); have HY2 := hid ((by2 w 0).later hb2); have HB := hid (below_call (below2 w _ _) hb2); clear hb2; have z1 : w2.cell? ⟨w.heap.size + 1, 1, none⟩ = some (.int .i64 0) := HX.out.cell 1 rfl; have f1 : w2.frozen? ⟨w.heap.size + 1, 1, none⟩ = false := (HX.out.there 1 (by simp)).2; have z2 : w2.cell? ⟨w.heap.size + 1, 2, none⟩ = some (.int .u64 0) := HX.out.cell 2 rfl; have f2 : w2.frozen? ⟨w.heap.size + 1, 2, none⟩ = false := (HX.out.there 2 (by simp)).2; have z3 : w2.cell? ⟨w.heap.size + 1, 3, none⟩ = some (.int .u64 0) := HX.out.cell 3 rfl; have f3 : w2.frozen? ⟨w.heap.size + 1, 3, none⟩ = false := (HX.out.there 3 (by simp)).2; have mk3 := hid True.intro))
  have X3 : Bx (((w2.setCell ⟨w.heap.size + 1, 1, none⟩ (.int .i64 v)).setCell ⟨w.heap.size + 1, 2, none⟩ (.int .u64 (hiW R 10 : Int))).setCell ⟨w.heap.size + 1, 3, none⟩ (.int .u64 (loW R 10 : Int))) (w.heap.size + 1) [.int .i64 0, .int .i64 v, .int .u64 (hiW R 10 : Int), .int .u64 (loW R 10 : Int), .slice none 0 0, .int .i64 0] := (Bx.put (Bx.put (Bx.put HX.out (j := 1) (by simp) _) (j := 2) (by simp) _) (j := 3) (by simp) _)
  have Y3 : Bx (((w2.setCell ⟨w.heap.size + 1, 1, none⟩ (.int .i64 v)).setCell ⟨w.heap.size + 1, 2, none⟩ (.int .u64 (hiW R 10 : Int))).setCell ⟨w.heap.size + 1, 3, none⟩ (.int .u64 (loW R 10 : Int))) w.heap.size [.int .i64 0, .int .i64 0, .int .u64 0, .int .u64 0, .slice none 0 0, .int .i64 0] := (Bx.off (Bx.off (Bx.off HY2.out (by omega) _) (by omega) _) (by omega) _)
  have B3 : Below w.heap.size w (((w2.setCell ⟨w.heap.size + 1, 1, none⟩ (.int .i64 v)).setCell ⟨w.heap.size + 1, 2, none⟩ (.int .u64 (hiW R 10 : Int))).setCell ⟨w.heap.size + 1, 3, none⟩ (.int .u64 (loW R 10 : Int))) := (Below.setCell (Below.setCell (Below.setCell HB.out (Nat.le_succ _) _) (Nat.le_succ _) _) (Nat.le_succ _) _)
  clear HX HY2 HB z1 f1 z2 f2 z3 f3
  generalize (((w2.setCell ⟨w.heap.size + 1, 1, none⟩ (.int .i64 v)).setCell ⟨w.heap.size + 1, 2, none⟩ (.int .u64 (hiW R 10 : Int))).setCell ⟨w.heap.size + 1, 3, none⟩ (.int .u64 (loW R 10 : Int))) = w3 at X3 Y3 B3 ⊢
  have HRo : Hid (Ro w3 (w.heap.size + 1) [.int .i64 0, .int .i64 v, .int .u64 (hiW R 10 : Int), .int .u64 (loW R 10 : Int), .slice none 0 0, .int .i64 0] (gr 3 R)) := by
    unfold Hid
    rw [HG.out]
    exact ⟨⟨none, 0, 0⟩, rfl, Own.nil _ _, hiW_lt _ _, loW_lt _ _⟩
  obtain ⟨M, hM⟩ : ∃ M : List Value, M = [.int .i64 0, .int .i64 v, .int .u64 (hiW R 10 : Int), .int .u64 (loW R 10 : Int), .slice none 0 0, .int .i64 0] := ⟨_, rfl⟩
  rw [← hM] at X3 HRo
  obtain ⟨Z, hZl, hZo, hZz, hz⟩ := zero30
  have hZ0 : (Z.toArray = #[]) = False := by simp; intro h; rw [h] at hZl; simp at hZl
  have Y3 : Bx w3 w.heap.size Z := by rw [hZz]; exact Y3
  have hml : M.length = 6 := by rw [hM]; rfl
  have HMO : Hid (∀ v ∈ M, v.oneCell' = true) := by unfold Hid; rw [hM]; simp [Value.oneCell']
  have HLD3 := hid (ld30 X3.range hml)
  have HX3 := hid X3
  have HY3 := hid Y3
  have HB3 := hid B3
  have HZ := hid (And.intro hZz hZo)
  clear hM X3 Y3 B3 hZz hZo
  go_wp2_with (first | ((with_reducible refine ld_arm HLD4.out ?_ ?_); (· rfl)) | ((with_reducible refine ld_arm HLD3.out ?_ ?_); (· rfl)) | (go_at_call 21; refine (ranswer_bad 3 M (gr 3 R) _ HRo.out.rr HF.out).mono ?_; rintro e w4 ⟨rfl, hb4⟩; have HLD4 := hid (ld30 (HX3.out.later hb4).range hml); have X4 := HY3.out.later hb4; have hst4 := stc (n := 6) (by rw [← hZl]; exact X4.there) hZl HZ.out.2; have HLV := hid (lv30 (X4.set (M := Z) (hZl.trans hZl.symm)).range hZl); have HB5 : Hid (Below w.heap.size w (w4.setCells w.heap.size 0 Z)) := (But.below (below_call HB3.out hb4) (setCells_but (S := (· = w.heap.size)) rfl Z 0 (But.refl _ _)) (fun k hk => (by omega))); clear X4))
  exact bodyPost_ret (v := .tuple #[.agg Z.toArray, .int .i64 1]) (by have hlv := HLV.out; simp [results, Try.results22, asAddr, hlv]) rfl ⟨by rw [HZ.out.1], HB5.out⟩
set_option maxRecDepth 100000 in
set_option maxHeartbeats 4000000 in
theorem pa3_other (a : Option Addr) (len cap : Nat) (R : List Nat) (w : World) (h : Row w a len cap R) (hl : len ≤ 140737488355328) (v : Int) (h0 : sv (gt R 0 2) = 0) (hg : gt R 0 2 = 0) (h2 : sv (gt R 2 8) = v) (hf : rfm 3 (gr 3 R) = true) (hy : ¬ rly 3 (gr 3 R) = R) :
    Calls Try.prog 22 #[.int .i64 3, .slice a len cap] w fun e w' => e = .returned (.tuple #[.agg z30.toArray, .int .i64 1]) ∧ Below w.heap.size w w' := by
  have HG : Hid (gr 3 R = ⟨0, v, hiW R 10, loW R 10, [], 0⟩) := by unfold Hid gr; rw [if_pos hg, if_pos (by omega), h2]
  have HR := hid h
  have HS := hid h.small
  have HF := hid hf
  have HY := hid hy
  have H0 := hid h0
  have H2 := hid h2
  clear h hf hy h0 h2
  have mk0 := hid True.intro
  go_enter Try.func22, Try.ntmps22
  go_upto_region 12 with (first | (clear mk0; go_at_call 40; refine (get_is a len cap R 0 2 _ (HR.out.later (below1 _ _)) (by omega) (by omega) hl H0.out).mono ?_; rintro e w9 ⟨rfl, hw9⟩; obtain rfl := hw9.symm; have mk1 := hid True.intro) | (clear mk1; go_at_call 40; refine (get_is a len cap R 2 8 _ (HR.out.later (below2 _ _ _)) (by omega) (by omega) hl H2.out).mono ?_; rintro e w9 ⟨rfl, hw9⟩; obtain rfl := hw9.symm; have mk2 := hid True.intro) | (clear mk2; go_at_call 41; refine (rgw_any a len cap R 10 _ (HR.out.later (below2 _ _ _)) (by omega) hl).mono ?_; rintro e w2 ⟨rfl, hb2⟩; have HX := hid ((by3 w 0).later hb2); have HY2 := hid ((by2 w 0).later hb2); have HB := hid (below_call (below2 w _ _) hb2); clear hb2; have z1 : w2.cell? ⟨w.heap.size + 1, 1, none⟩ = some (.int .i64 0) := HX.out.cell 1 rfl; have f1 : w2.frozen? ⟨w.heap.size + 1, 1, none⟩ = false := (HX.out.there 1 (by simp)).2; have z2 : w2.cell? ⟨w.heap.size + 1, 2, none⟩ = some (.int .u64 0) := HX.out.cell 2 rfl; have f2 : w2.frozen? ⟨w.heap.size + 1, 2, none⟩ = false := (HX.out.there 2 (by simp)).2; have z3 : w2.cell? ⟨w.heap.size + 1, 3, none⟩ = some (.int .u64 0) := HX.out.cell 3 rfl; have f3 : w2.frozen? ⟨w.heap.size + 1, 3, none⟩ = false := (HX.out.there 3 (by simp)).2; have mk3 := hid True.intro))
  have X3 : Bx (((w2.setCell ⟨w.heap.size + 1, 1, none⟩ (.int .i64 v)).setCell ⟨w.heap.size + 1, 2, none⟩ (.int .u64 (hiW R 10 : Int))).setCell ⟨w.heap.size + 1, 3, none⟩ (.int .u64 (loW R 10 : Int))) (w.heap.size + 1) [.int .i64 0, .int .i64 v, .int .u64 (hiW R 10 : Int), .int .u64 (loW R 10 : Int), .slice none 0 0, .int .i64 0] := (Bx.put (Bx.put (Bx.put HX.out (j := 1) (by simp) _) (j := 2) (by simp) _) (j := 3) (by simp) _)
  have Y3 : Bx (((w2.setCell ⟨w.heap.size + 1, 1, none⟩ (.int .i64 v)).setCell ⟨w.heap.size + 1, 2, none⟩ (.int .u64 (hiW R 10 : Int))).setCell ⟨w.heap.size + 1, 3, none⟩ (.int .u64 (loW R 10 : Int))) w.heap.size [.int .i64 0, .int .i64 0, .int .u64 0, .int .u64 0, .slice none 0 0, .int .i64 0] := (Bx.off (Bx.off (Bx.off HY2.out (by omega) _) (by omega) _) (by omega) _)
  have B3 : Below w.heap.size w (((w2.setCell ⟨w.heap.size + 1, 1, none⟩ (.int .i64 v)).setCell ⟨w.heap.size + 1, 2, none⟩ (.int .u64 (hiW R 10 : Int))).setCell ⟨w.heap.size + 1, 3, none⟩ (.int .u64 (loW R 10 : Int))) := (Below.setCell (Below.setCell (Below.setCell HB.out (Nat.le_succ _) _) (Nat.le_succ _) _) (Nat.le_succ _) _)
  clear HX HY2 HB z1 f1 z2 f2 z3 f3
  generalize (((w2.setCell ⟨w.heap.size + 1, 1, none⟩ (.int .i64 v)).setCell ⟨w.heap.size + 1, 2, none⟩ (.int .u64 (hiW R 10 : Int))).setCell ⟨w.heap.size + 1, 3, none⟩ (.int .u64 (loW R 10 : Int))) = w3 at X3 Y3 B3 ⊢
  have HRo : Hid (Ro w3 (w.heap.size + 1) [.int .i64 0, .int .i64 v, .int .u64 (hiW R 10 : Int), .int .u64 (loW R 10 : Int), .slice none 0 0, .int .i64 0] (gr 3 R)) := by
    unfold Hid
    rw [HG.out]
    exact ⟨⟨none, 0, 0⟩, rfl, Own.nil _ _, hiW_lt _ _, loW_lt _ _⟩
  obtain ⟨M, hM⟩ : ∃ M : List Value, M = [.int .i64 0, .int .i64 v, .int .u64 (hiW R 10 : Int), .int .u64 (loW R 10 : Int), .slice none 0 0, .int .i64 0] := ⟨_, rfl⟩
  rw [← hM] at X3 HRo
  obtain ⟨Z, hZl, hZo, hZz, hz⟩ := zero30
  have hZ0 : (Z.toArray = #[]) = False := by simp; intro h; rw [h] at hZl; simp at hZl
  have Y3 : Bx w3 w.heap.size Z := by rw [hZz]; exact Y3
  have hml : M.length = 6 := by rw [hM]; rfl
  have HMO : Hid (∀ v ∈ M, v.oneCell' = true) := by unfold Hid; rw [hM]; simp [Value.oneCell']
  have HLD3 := hid (ld30 X3.range hml)
  have HX3 := hid X3
  have HY3 := hid Y3
  have HB3 := hid B3
  have HZ := hid (And.intro hZz hZo)
  clear hM X3 Y3 B3 hZz hZo
  go_wp2_with (first | ((with_reducible refine ld_arm HLD4.out ?_ ?_); (· rfl)) | ((with_reducible refine ld_arm HLD3.out ?_ ?_); (· rfl)) | (go_at_call 21; refine (ranswer_ok 3 M (gr 3 R) _ HRo.out.rr HF.out).mono ?_; rintro e w4 ⟨a4, n4, c4, rfl, hown, hb4⟩; have cv1 := hown.read.conv; have cv2 := (HR.out.later (below_call HB3.out hb4)).conv; have hnes := str_beq hown.small HS.out; rw [decide_eq_false HY.out] at hnes; have hnet : (!(strB (rly 3 (gr 3 R))).toList == (strB R).toList) = true := (by rw [hnes]; rfl); clear hnes; have HLD4 := hid (ld30 (HX3.out.later hb4).range hml); have X4 := HY3.out.later hb4; have hst4 := stc (n := 6) (by rw [← hZl]; exact X4.there) hZl HZ.out.2; have HLV := hid (lv30 (X4.set (M := Z) (hZl.trans hZl.symm)).range hZl); have HB5 : Hid (Below w.heap.size w (w4.setCells w.heap.size 0 Z)) := (But.below (below_call HB3.out hb4) (setCells_but (S := (· = w.heap.size)) rfl Z 0 (But.refl _ _)) (fun k hk => (by omega))); clear X4))
  exact bodyPost_ret (v := .tuple #[.agg Z.toArray, .int .i64 1]) (by have hlv := HLV.out; simp [results, Try.results22, asAddr, hlv]) rfl ⟨by rw [HZ.out.1], HB5.out⟩
set_option maxRecDepth 100000 in
set_option maxHeartbeats 4000000 in
theorem paN_some (a : Option Addr) (len cap : Nat) (R : List Nat) (w : World) (h : Row w a len cap R) (hl : len ≤ 140737488355328) (op : Int) (c : Nat) (h0 : sv (gt R 0 2) = (c : Int)) (hc : ¬ c = 0) (hg : gt R 0 2 = c) (hf : rfm op (gr op R) = true) (hy : rly op (gr op R) = R) :
    Calls Try.prog 22 #[.int .i64 op, .slice a len cap] w fun e w' => ∃ L, e = .returned (.tuple #[.agg L.toArray, .int .i64 0]) ∧ Rr w' L (gr op R) ∧ Below w.heap.size w w' := by
  have HG : Hid (gr op R = rpz (c : Int)) := by unfold Hid gr; rw [hg, if_neg hc]
  have HR := hid h
  have HS := hid h.small
  have HF := hid hf
  have HY := hid hy
  have H0 := hid h0
  clear h hf hy h0
  have hcb : ((c : Int) == 0) = false := by simp; omega
  have mk0 := hid True.intro
  go_enter Try.func22, Try.ntmps22
  go_upto_region 12 with (first | (clear mk0; go_at_call 40; refine (get_is a len cap R 0 2 _ (HR.out.later (below1 _ _)) (by omega) (by omega) hl H0.out).mono ?_; rintro e w9 ⟨rfl, hw9⟩; obtain rfl := hw9.symm; have mk1 := hid True.intro))
  have X3 : Bx ((w.alloc (Obj.cells #[.int .i64 0, .int .i64 0, .int .u64 0, .int .u64 0, .slice none 0 0, .int .i64 0] 30)).alloc (Obj.cells #[.int .i64 (c : Int), .int .i64 0, .int .u64 0, .int .u64 0, .slice none 0 0, .int .i64 0] 30)) (w.heap.size + 1) [.int .i64 (c : Int), .int .i64 0, .int .u64 0, .int .u64 0, .slice none 0 0, .int .i64 0] := by
    have := Bx.new (w.alloc (Obj.cells #[.int .i64 0, .int .i64 0, .int .u64 0, .int .u64 0, .slice none 0 0, .int .i64 0] 30)) [.int .i64 (c : Int), .int .i64 0, .int .u64 0, .int .u64 0, .slice none 0 0, .int .i64 0] 30
    simp at this
    exact this
  have Y3 : Bx ((w.alloc (Obj.cells #[.int .i64 0, .int .i64 0, .int .u64 0, .int .u64 0, .slice none 0 0, .int .i64 0] 30)).alloc (Obj.cells #[.int .i64 (c : Int), .int .i64 0, .int .u64 0, .int .u64 0, .slice none 0 0, .int .i64 0] 30)) w.heap.size [.int .i64 0, .int .i64 0, .int .u64 0, .int .u64 0, .slice none 0 0, .int .i64 0] := (Bx.new w [.int .i64 0, .int .i64 0, .int .u64 0, .int .u64 0, .slice none 0 0, .int .i64 0] 30).later (below1 _ _)
  have B3 : Below w.heap.size w ((w.alloc (Obj.cells #[.int .i64 0, .int .i64 0, .int .u64 0, .int .u64 0, .slice none 0 0, .int .i64 0] 30)).alloc (Obj.cells #[.int .i64 (c : Int), .int .i64 0, .int .u64 0, .int .u64 0, .slice none 0 0, .int .i64 0] 30)) := below2 _ _ _
  generalize ((w.alloc (Obj.cells #[.int .i64 0, .int .i64 0, .int .u64 0, .int .u64 0, .slice none 0 0, .int .i64 0] 30)).alloc (Obj.cells #[.int .i64 (c : Int), .int .i64 0, .int .u64 0, .int .u64 0, .slice none 0 0, .int .i64 0] 30)) = w3 at X3 Y3 B3 ⊢
  have HRo : Hid (Ro w3 (w.heap.size + 1) [.int .i64 (c : Int), .int .i64 0, .int .u64 0, .int .u64 0, .slice none 0 0, .int .i64 0] (gr op R)) := by
    unfold Hid
    rw [HG.out]
    exact ⟨⟨none, 0, 0⟩, rfl, Own.nil _ _, zltr, zltr⟩
  obtain ⟨M, hM⟩ : ∃ M : List Value, M = [.int .i64 (c : Int), .int .i64 0, .int .u64 0, .int .u64 0, .slice none 0 0, .int .i64 0] := ⟨_, rfl⟩
  rw [← hM] at X3 HRo
  obtain ⟨Z, hZl, hZo, hZz, hz⟩ := zero30
  have hZ0 : (Z.toArray = #[]) = False := by simp; intro h; rw [h] at hZl; simp at hZl
  have Y3 : Bx w3 w.heap.size Z := by rw [hZz]; exact Y3
  have hml : M.length = 6 := by rw [hM]; rfl
  have HMO : Hid (∀ v ∈ M, v.oneCell' = true) := by unfold Hid; rw [hM]; simp [Value.oneCell']
  have HLD3 := hid (ld30 X3.range hml)
  have HX3 := hid X3
  have HY3 := hid Y3
  have HB3 := hid B3
  have HZ := hid (And.intro hZz hZo)
  clear hM X3 Y3 B3 hZz hZo
  go_wp2_with (first | ((with_reducible refine ld_arm HLD4.out ?_ ?_); (· rfl)) | ((with_reducible refine ld_arm HLD3.out ?_ ?_); (· rfl)) | (go_at_call 21; refine (ranswer_ok op M (gr op R) _ HRo.out.rr HF.out).mono ?_; rintro e w4 ⟨a4, n4, c4, rfl, hown, hb4⟩; have cv1 := hown.read.conv; have cv2 := (HR.out.later (below_call HB3.out hb4)).conv; rw [HY.out] at cv1; have HLD4 := hid (ld30 (HX3.out.later hb4).range hml); have X4 := HY3.out.later hb4; have hst4 := stc (n := 6) (by rw [← hZl]; exact X4.there) hml HMO.out; have HLV := hid (lv30 (X4.set (M := M) (hml.trans hZl.symm)).range hml); have HB5 : Hid (Below w.heap.size w (w4.setCells w.heap.size 0 M)) := (But.below (below_call HB3.out hb4) (setCells_but (S := (· = w.heap.size)) rfl M 0 (But.refl _ _)) (fun k hk => (by omega))); have HR5 : Hid (Rr (w4.setCells w.heap.size 0 M) M (gr op R)) := ((HRo.out.later hb4).but (setCells_but (S := (· = w.heap.size)) rfl M 0 (But.refl _ _)) (fun k hk e => (by omega))).rr; clear X4))
  exact bodyPost_ret (v := .tuple #[.agg M.toArray, .int .i64 0]) (by have hlv := HLV.out; simp [results, Try.results22, asAddr, hlv]) rfl ⟨M, rfl, HR5.out, HB5.out⟩
set_option maxRecDepth 100000 in
set_option maxHeartbeats 4000000 in
theorem paN_bad (a : Option Addr) (len cap : Nat) (R : List Nat) (w : World) (h : Row w a len cap R) (hl : len ≤ 140737488355328) (op : Int) (c : Nat) (h0 : sv (gt R 0 2) = (c : Int)) (hc : ¬ c = 0) (hg : gt R 0 2 = c) (hf : rfm op (gr op R) = false) :
    Calls Try.prog 22 #[.int .i64 op, .slice a len cap] w fun e w' => e = .returned (.tuple #[.agg z30.toArray, .int .i64 1]) ∧ Below w.heap.size w w' := by
  have HG : Hid (gr op R = rpz (c : Int)) := by unfold Hid gr; rw [hg, if_neg hc]
  have HR := hid h
  have HS := hid h.small
  have HF := hid hf
  have H0 := hid h0
  clear h hf h0
  have hcb : ((c : Int) == 0) = false := by simp; omega
  have mk0 := hid True.intro
  go_enter Try.func22, Try.ntmps22
  go_upto_region 12 with (first | (clear mk0; go_at_call 40; refine (get_is a len cap R 0 2 _ (HR.out.later (below1 _ _)) (by omega) (by omega) hl H0.out).mono ?_; rintro e w9 ⟨rfl, hw9⟩; obtain rfl := hw9.symm; have mk1 := hid True.intro))
  have X3 : Bx ((w.alloc (Obj.cells #[.int .i64 0, .int .i64 0, .int .u64 0, .int .u64 0, .slice none 0 0, .int .i64 0] 30)).alloc (Obj.cells #[.int .i64 (c : Int), .int .i64 0, .int .u64 0, .int .u64 0, .slice none 0 0, .int .i64 0] 30)) (w.heap.size + 1) [.int .i64 (c : Int), .int .i64 0, .int .u64 0, .int .u64 0, .slice none 0 0, .int .i64 0] := by
    have := Bx.new (w.alloc (Obj.cells #[.int .i64 0, .int .i64 0, .int .u64 0, .int .u64 0, .slice none 0 0, .int .i64 0] 30)) [.int .i64 (c : Int), .int .i64 0, .int .u64 0, .int .u64 0, .slice none 0 0, .int .i64 0] 30
    simp at this
    exact this
  have Y3 : Bx ((w.alloc (Obj.cells #[.int .i64 0, .int .i64 0, .int .u64 0, .int .u64 0, .slice none 0 0, .int .i64 0] 30)).alloc (Obj.cells #[.int .i64 (c : Int), .int .i64 0, .int .u64 0, .int .u64 0, .slice none 0 0, .int .i64 0] 30)) w.heap.size [.int .i64 0, .int .i64 0, .int .u64 0, .int .u64 0, .slice none 0 0, .int .i64 0] := (Bx.new w [.int .i64 0, .int .i64 0, .int .u64 0, .int .u64 0, .slice none 0 0, .int .i64 0] 30).later (below1 _ _)
  have B3 : Below w.heap.size w ((w.alloc (Obj.cells #[.int .i64 0, .int .i64 0, .int .u64 0, .int .u64 0, .slice none 0 0, .int .i64 0] 30)).alloc (Obj.cells #[.int .i64 (c : Int), .int .i64 0, .int .u64 0, .int .u64 0, .slice none 0 0, .int .i64 0] 30)) := below2 _ _ _
  generalize ((w.alloc (Obj.cells #[.int .i64 0, .int .i64 0, .int .u64 0, .int .u64 0, .slice none 0 0, .int .i64 0] 30)).alloc (Obj.cells #[.int .i64 (c : Int), .int .i64 0, .int .u64 0, .int .u64 0, .slice none 0 0, .int .i64 0] 30)) = w3 at X3 Y3 B3 ⊢
  have HRo : Hid (Ro w3 (w.heap.size + 1) [.int .i64 (c : Int), .int .i64 0, .int .u64 0, .int .u64 0, .slice none 0 0, .int .i64 0] (gr op R)) := by
    unfold Hid
    rw [HG.out]
    exact ⟨⟨none, 0, 0⟩, rfl, Own.nil _ _, zltr, zltr⟩
  obtain ⟨M, hM⟩ : ∃ M : List Value, M = [.int .i64 (c : Int), .int .i64 0, .int .u64 0, .int .u64 0, .slice none 0 0, .int .i64 0] := ⟨_, rfl⟩
  rw [← hM] at X3 HRo
  obtain ⟨Z, hZl, hZo, hZz, hz⟩ := zero30
  have hZ0 : (Z.toArray = #[]) = False := by simp; intro h; rw [h] at hZl; simp at hZl
  have Y3 : Bx w3 w.heap.size Z := by rw [hZz]; exact Y3
  have hml : M.length = 6 := by rw [hM]; rfl
  have HMO : Hid (∀ v ∈ M, v.oneCell' = true) := by unfold Hid; rw [hM]; simp [Value.oneCell']
  have HLD3 := hid (ld30 X3.range hml)
  have HX3 := hid X3
  have HY3 := hid Y3
  have HB3 := hid B3
  have HZ := hid (And.intro hZz hZo)
  clear hM X3 Y3 B3 hZz hZo
  go_wp2_with (first | ((with_reducible refine ld_arm HLD4.out ?_ ?_); (· rfl)) | ((with_reducible refine ld_arm HLD3.out ?_ ?_); (· rfl)) | (go_at_call 21; refine (ranswer_bad op M (gr op R) _ HRo.out.rr HF.out).mono ?_; rintro e w4 ⟨rfl, hb4⟩; have HLD4 := hid (ld30 (HX3.out.later hb4).range hml); have X4 := HY3.out.later hb4; have hst4 := stc (n := 6) (by rw [← hZl]; exact X4.there) hZl HZ.out.2; have HLV := hid (lv30 (X4.set (M := Z) (hZl.trans hZl.symm)).range hZl); have HB5 : Hid (Below w.heap.size w (w4.setCells w.heap.size 0 Z)) := (But.below (below_call HB3.out hb4) (setCells_but (S := (· = w.heap.size)) rfl Z 0 (But.refl _ _)) (fun k hk => (by omega))); clear X4))
  exact bodyPost_ret (v := .tuple #[.agg Z.toArray, .int .i64 1]) (by have hlv := HLV.out; simp [results, Try.results22, asAddr, hlv]) rfl ⟨by rw [HZ.out.1], HB5.out⟩
set_option maxRecDepth 100000 in
set_option maxHeartbeats 4000000 in
theorem paN_other (a : Option Addr) (len cap : Nat) (R : List Nat) (w : World) (h : Row w a len cap R) (hl : len ≤ 140737488355328) (op : Int) (c : Nat) (h0 : sv (gt R 0 2) = (c : Int)) (hc : ¬ c = 0) (hg : gt R 0 2 = c) (hf : rfm op (gr op R) = true) (hy : ¬ rly op (gr op R) = R) :
    Calls Try.prog 22 #[.int .i64 op, .slice a len cap] w fun e w' => e = .returned (.tuple #[.agg z30.toArray, .int .i64 1]) ∧ Below w.heap.size w w' := by
  have HG : Hid (gr op R = rpz (c : Int)) := by unfold Hid gr; rw [hg, if_neg hc]
  have HR := hid h
  have HS := hid h.small
  have HF := hid hf
  have HY := hid hy
  have H0 := hid h0
  clear h hf hy h0
  have hcb : ((c : Int) == 0) = false := by simp; omega
  have mk0 := hid True.intro
  go_enter Try.func22, Try.ntmps22
  go_upto_region 12 with (first | (clear mk0; go_at_call 40; refine (get_is a len cap R 0 2 _ (HR.out.later (below1 _ _)) (by omega) (by omega) hl H0.out).mono ?_; rintro e w9 ⟨rfl, hw9⟩; obtain rfl := hw9.symm; have mk1 := hid True.intro))
  have X3 : Bx ((w.alloc (Obj.cells #[.int .i64 0, .int .i64 0, .int .u64 0, .int .u64 0, .slice none 0 0, .int .i64 0] 30)).alloc (Obj.cells #[.int .i64 (c : Int), .int .i64 0, .int .u64 0, .int .u64 0, .slice none 0 0, .int .i64 0] 30)) (w.heap.size + 1) [.int .i64 (c : Int), .int .i64 0, .int .u64 0, .int .u64 0, .slice none 0 0, .int .i64 0] := by
    have := Bx.new (w.alloc (Obj.cells #[.int .i64 0, .int .i64 0, .int .u64 0, .int .u64 0, .slice none 0 0, .int .i64 0] 30)) [.int .i64 (c : Int), .int .i64 0, .int .u64 0, .int .u64 0, .slice none 0 0, .int .i64 0] 30
    simp at this
    exact this
  have Y3 : Bx ((w.alloc (Obj.cells #[.int .i64 0, .int .i64 0, .int .u64 0, .int .u64 0, .slice none 0 0, .int .i64 0] 30)).alloc (Obj.cells #[.int .i64 (c : Int), .int .i64 0, .int .u64 0, .int .u64 0, .slice none 0 0, .int .i64 0] 30)) w.heap.size [.int .i64 0, .int .i64 0, .int .u64 0, .int .u64 0, .slice none 0 0, .int .i64 0] := (Bx.new w [.int .i64 0, .int .i64 0, .int .u64 0, .int .u64 0, .slice none 0 0, .int .i64 0] 30).later (below1 _ _)
  have B3 : Below w.heap.size w ((w.alloc (Obj.cells #[.int .i64 0, .int .i64 0, .int .u64 0, .int .u64 0, .slice none 0 0, .int .i64 0] 30)).alloc (Obj.cells #[.int .i64 (c : Int), .int .i64 0, .int .u64 0, .int .u64 0, .slice none 0 0, .int .i64 0] 30)) := below2 _ _ _
  generalize ((w.alloc (Obj.cells #[.int .i64 0, .int .i64 0, .int .u64 0, .int .u64 0, .slice none 0 0, .int .i64 0] 30)).alloc (Obj.cells #[.int .i64 (c : Int), .int .i64 0, .int .u64 0, .int .u64 0, .slice none 0 0, .int .i64 0] 30)) = w3 at X3 Y3 B3 ⊢
  have HRo : Hid (Ro w3 (w.heap.size + 1) [.int .i64 (c : Int), .int .i64 0, .int .u64 0, .int .u64 0, .slice none 0 0, .int .i64 0] (gr op R)) := by
    unfold Hid
    rw [HG.out]
    exact ⟨⟨none, 0, 0⟩, rfl, Own.nil _ _, zltr, zltr⟩
  obtain ⟨M, hM⟩ : ∃ M : List Value, M = [.int .i64 (c : Int), .int .i64 0, .int .u64 0, .int .u64 0, .slice none 0 0, .int .i64 0] := ⟨_, rfl⟩
  rw [← hM] at X3 HRo
  obtain ⟨Z, hZl, hZo, hZz, hz⟩ := zero30
  have hZ0 : (Z.toArray = #[]) = False := by simp; intro h; rw [h] at hZl; simp at hZl
  have Y3 : Bx w3 w.heap.size Z := by rw [hZz]; exact Y3
  have hml : M.length = 6 := by rw [hM]; rfl
  have HMO : Hid (∀ v ∈ M, v.oneCell' = true) := by unfold Hid; rw [hM]; simp [Value.oneCell']
  have HLD3 := hid (ld30 X3.range hml)
  have HX3 := hid X3
  have HY3 := hid Y3
  have HB3 := hid B3
  have HZ := hid (And.intro hZz hZo)
  clear hM X3 Y3 B3 hZz hZo
  go_wp2_with (first | ((with_reducible refine ld_arm HLD4.out ?_ ?_); (· rfl)) | ((with_reducible refine ld_arm HLD3.out ?_ ?_); (· rfl)) | (go_at_call 21; refine (ranswer_ok op M (gr op R) _ HRo.out.rr HF.out).mono ?_; rintro e w4 ⟨a4, n4, c4, rfl, hown, hb4⟩; have cv1 := hown.read.conv; have cv2 := (HR.out.later (below_call HB3.out hb4)).conv; have hnes := str_beq hown.small HS.out; rw [decide_eq_false HY.out] at hnes; have hnet : (!(strB (rly op (gr op R))).toList == (strB R).toList) = true := (by rw [hnes]; rfl); clear hnes; have HLD4 := hid (ld30 (HX3.out.later hb4).range hml); have X4 := HY3.out.later hb4; have hst4 := stc (n := 6) (by rw [← hZl]; exact X4.there) hZl HZ.out.2; have HLV := hid (lv30 (X4.set (M := Z) (hZl.trans hZl.symm)).range hZl); have HB5 : Hid (Below w.heap.size w (w4.setCells w.heap.size 0 Z)) := (But.below (below_call HB3.out hb4) (setCells_but (S := (· = w.heap.size)) rfl Z 0 (But.refl _ _)) (fun k hk => (by omega))); clear X4))
  exact bodyPost_ret (v := .tuple #[.agg Z.toArray, .int .i64 1]) (by have hlv := HLV.out; simp [results, Try.results22, asAddr, hlv]) rfl ⟨by rw [HZ.out.1], HB5.out⟩
end Go.Proofs.Ytaffgoacbiedlaa
