import Derived.Test.YtaffgoacbiedlaaU4
namespace Go.Proofs.Ytaffgoacbiedlaa
open Go.RowKit
set_option linter.unusedVariables false
set_option linter.unusedSimpArgs false

set_option maxRecDepth 100000 in
set_option maxHeartbeats 4000000 in
theorem guess6st (a : Option Addr) (len cap : Nat) (R : List Nat) (w : World) (h : Row w a len cap R) (hl : len ≤ 140737488355328) (y v : Int) (g : Int) (z1 : Nat) (h0 : sv (gt R 0 1) = 6) (h1 : sv (gt R 1 2) = y) (h2 : sv (gt R 3 8) = v) (h3 : sv (gt R 11 1) = g) (h4 : sv (gt R 28 4) = (z1 : Int)) (hz1 : z1 < 4294967296) (hg : (g == 1) = true) (hs : len ≤ 32) : Calls Try.prog 42 #[.slice a len cap] w fun e w' => e = .returned (.agg #[.int .i64 6, .int .i64 y, .int .i64 0, .int .i64 v, .int .u64 (hiW R 12 : Int), .int .u64 (loW R 12 : Int), .bool true, .int .i64 0, .int .i64 (sI z1), .int .i64 0, .slice none 0 0, .int .i64 0, .slice none 0 0]) ∧ Below w.heap.size w w' := by
  have HR := hid h
  have H0 := hid h0
  have H1 := hid h1
  have H2 := hid h2
  have H3 := hid h3
  have H4 := hid h4
  have HZ1 := hid hz1
  clear h h0 h1
  clear h2 h3 h4 hz1
  have hd1 : decide (32 < (len : Int)) = false := by simp; omega
  have hd2 : decide (32 < len) = false := by simp; omega
  clear hs
  have mk0 := hid True.intro
  go_enter Try.func42, Try.ntmps42
  go_upto_region 28 with (first | (clear mk0; go_at_call 40; refine (get_is a len cap R 0 1 _ (HR.out.later (below1 _ _)) (by omega) (by omega) hl H0.out).mono ?_; rintro e w9 ⟨rfl, hw9⟩; obtain rfl := hw9.symm; have mk1 := hid True.intro) | (clear mk1; go_at_call 40; refine (get_is a len cap R 1 2 _ (HR.out.later (below1 _ _)) (by omega) (by omega) hl H1.out).mono ?_; rintro e w9 ⟨rfl, hw9⟩; obtain rfl := hw9.symm; have mk2 := hid True.intro) | (clear mk2; go_at_call 40; refine (get_is a len cap R 3 8 _ (HR.out.later (below2 _ _ _)) (by omega) (by omega) hl H2.out).mono ?_; rintro e w9 ⟨rfl, hw9⟩; obtain rfl := hw9.symm; have mk3 := hid True.intro) | (clear mk3; go_at_call 41; refine (rgw_any a len cap R 12 _ (HR.out.later (below2 _ _ _)) (by omega) hl).mono ?_; rintro e w2 ⟨rfl, hb2⟩; have HX := hid ((bx3 w y 6).later hb2); have HY := hid ((bx2 w y 6).later hb2); have HB := hid (below_call (below2 w _ _) hb2); clear hb2; have z0 : w2.cell? ⟨w.heap.size + 1, 0, none⟩ = some (.int .i64 6) := HX.out.cell 0 rfl; have z3 : w2.cell? ⟨w.heap.size + 1, 3, none⟩ = some (.int .i64 0) := HX.out.cell 3 rfl; have f3 : w2.frozen? ⟨w.heap.size + 1, 3, none⟩ = false := (HX.out.there 3 (by simp)).2; have z4 : w2.cell? ⟨w.heap.size + 1, 4, none⟩ = some (.int .u64 0) := HX.out.cell 4 rfl; have f4 : w2.frozen? ⟨w.heap.size + 1, 4, none⟩ = false := (HX.out.there 4 (by simp)).2; have z5 : w2.cell? ⟨w.heap.size + 1, 5, none⟩ = some (.int .u64 0) := HX.out.cell 5 rfl; have f5 : w2.frozen? ⟨w.heap.size + 1, 5, none⟩ = false := (HX.out.there 5 (by simp)).2; have z6 : w2.cell? ⟨w.heap.size + 1, 6, none⟩ = some (.bool false) := HX.out.cell 6 rfl; have f6 : w2.frozen? ⟨w.heap.size + 1, 6, none⟩ = false := (HX.out.there 6 (by simp)).2; have z8 : w2.cell? ⟨w.heap.size + 1, 8, none⟩ = some (.int .i64 0) := HX.out.cell 8 rfl; have f8 : w2.frozen? ⟨w.heap.size + 1, 8, none⟩ = false := (HX.out.there 8 (by simp)).2; have mk4 := hid True.intro) | (clear mk4; go_at_call 40; refine (get_is a len cap R 11 1 _ (HR.out.later (Below.setCell (Below.setCell (Below.setCell HB.out (Nat.le_succ _) _) (Nat.le_succ _) _) (Nat.le_succ _) _)) (by omega) (by omega) hl H3.out).mono ?_; rintro e w9 ⟨rfl, hw9⟩; obtain rfl := hw9.symm; have mk5 := hid True.intro) | (clear mk5; go_at_call 40; refine (get_is a len cap R 28 4 _ (HR.out.later (Below.setCell (Below.setCell (Below.setCell (Below.setCell HB.out (Nat.le_succ _) _) (Nat.le_succ _) _) (Nat.le_succ _) _) (Nat.le_succ _) _)) (by omega) (by omega) hl H4.out).mono ?_; rintro e w9 ⟨rfl, hw9⟩; obtain rfl := hw9.symm; have mk6 := hid True.intro) | (clear mk6; go_at_call 66; refine (minus_any z1 _ HZ1.out).mono ?_; rintro e w9 ⟨rfl, hw9⟩; obtain rfl := hw9.symm; have mk7 := hid True.intro))
  have X3 : Bx (((((w2.setCell ⟨w.heap.size + 1, 3, none⟩ (.int .i64 v)).setCell ⟨w.heap.size + 1, 4, none⟩ (.int .u64 (hiW R 12 : Int))).setCell ⟨w.heap.size + 1, 5, none⟩ (.int .u64 (loW R 12 : Int))).setCell ⟨w.heap.size + 1, 6, none⟩ (.bool true)).setCell ⟨w.heap.size + 1, 8, none⟩ (.int .i64 (sI z1))) (w.heap.size + 1) [.int .i64 6, .int .i64 y, .int .i64 0, .int .i64 v, .int .u64 (hiW R 12 : Int), .int .u64 (loW R 12 : Int), .bool true, .int .i64 0, .int .i64 (sI z1), .int .i64 0, .slice none 0 0, .int .i64 0, .slice none 0 0] := (Bx.put (Bx.put (Bx.put (Bx.put (Bx.put HX.out (j := 3) (by simp) _) (j := 4) (by simp) _) (j := 5) (by simp) _) (j := 6) (by simp) _) (j := 8) (by simp) _)
  have Y3 : Bx (((((w2.setCell ⟨w.heap.size + 1, 3, none⟩ (.int .i64 v)).setCell ⟨w.heap.size + 1, 4, none⟩ (.int .u64 (hiW R 12 : Int))).setCell ⟨w.heap.size + 1, 5, none⟩ (.int .u64 (loW R 12 : Int))).setCell ⟨w.heap.size + 1, 6, none⟩ (.bool true)).setCell ⟨w.heap.size + 1, 8, none⟩ (.int .i64 (sI z1))) w.heap.size [.int .i64 0, .int .i64 0, .int .i64 0, .int .i64 0, .int .u64 0, .int .u64 0, .bool false, .int .i64 0, .int .i64 0, .int .i64 0, .slice none 0 0, .int .i64 0, .slice none 0 0] := (Bx.off (Bx.off (Bx.off (Bx.off (Bx.off HY.out (by omega) _) (by omega) _) (by omega) _) (by omega) _) (by omega) _)
  have B3 : Below w.heap.size w (((((w2.setCell ⟨w.heap.size + 1, 3, none⟩ (.int .i64 v)).setCell ⟨w.heap.size + 1, 4, none⟩ (.int .u64 (hiW R 12 : Int))).setCell ⟨w.heap.size + 1, 5, none⟩ (.int .u64 (loW R 12 : Int))).setCell ⟨w.heap.size + 1, 6, none⟩ (.bool true)).setCell ⟨w.heap.size + 1, 8, none⟩ (.int .i64 (sI z1))) := (Below.setCell (Below.setCell (Below.setCell (Below.setCell (Below.setCell HB.out (Nat.le_succ _) _) (Nat.le_succ _) _) (Nat.le_succ _) _) (Nat.le_succ _) _) (Nat.le_succ _) _)
  generalize (((((w2.setCell ⟨w.heap.size + 1, 3, none⟩ (.int .i64 v)).setCell ⟨w.heap.size + 1, 4, none⟩ (.int .u64 (hiW R 12 : Int))).setCell ⟨w.heap.size + 1, 5, none⟩ (.int .u64 (loW R 12 : Int))).setCell ⟨w.heap.size + 1, 6, none⟩ (.bool true)).setCell ⟨w.heap.size + 1, 8, none⟩ (.int .i64 (sI z1))) = w3 at X3 Y3 B3 ⊢
  obtain ⟨M, hM⟩ : ∃ M : List Value, M = [.int .i64 6, .int .i64 y, .int .i64 0, .int .i64 v, .int .u64 (hiW R 12 : Int), .int .u64 (loW R 12 : Int), .bool true, .int .i64 0, .int .i64 (sI z1), .int .i64 0, .slice none 0 0, .int .i64 0, .slice none 0 0] := ⟨_, rfl⟩
  rw [← hM] at X3
  have hml : M.length = 13 := by rw [hM]; rfl
  have hmo : ∀ v ∈ M, v.oneCell' = true := by rw [hM]; simp [Value.oneCell']
  have HLD := hid (ld41 X3.range hml)
  have hst := stc (n := 13) Y3.there hml hmo
  have HLV := hid (lv41 (Y3.set (M := M) hml).range hml)
  have HB4 : Hid (Below w.heap.size w (w3.setCells w.heap.size 0 M)) := But.below B3 (setCells_but (S := (· = w.heap.size)) rfl M 0 (But.refl _ _)) (fun k hk => by omega)
  have HM := hid hM
  clear X3 Y3 B3 hmo hM HX HY HB z0 z3 f3 z4 f4 z5 f5 z6 f6 z8 f8
  go_wp2_with (first | ((with_reducible refine ld_arm HLD.out ?_ ?_); (· rfl)))
  refine bodyPost_ret (v := .agg M.toArray) ?_ rfl ⟨by rw [HM.out], HB4.out⟩
  have hlv := HLV.out
  simp [results, Try.results42, asAddr, hlv]
set_option maxRecDepth 100000 in
set_option maxHeartbeats 4000000 in
theorem guess6lt (a : Option Addr) (len cap : Nat) (R : List Nat) (w : World) (h : Row w a len cap R) (hl : len ≤ 140737488355328) (y v : Int) (g : Int) (z1 : Nat) (h0 : sv (gt R 0 1) = 6) (h1 : sv (gt R 1 2) = y) (h2 : sv (gt R 3 8) = v) (h3 : sv (gt R 11 1) = g) (h4 : sv (gt R 28 4) = (z1 : Int)) (hz1 : z1 < 4294967296) (hg : (g == 1) = true) (hs : 32 < len) : Calls Try.prog 42 #[.slice a len cap] w fun e w' => ∃ a4 c4, e = .returned (.agg #[.int .i64 6, .int .i64 y, .int .i64 0, .int .i64 v, .int .u64 (hiW R 12 : Int), .int .u64 (loW R 12 : Int), .bool true, .int .i64 0, .int .i64 (sI z1), .int .i64 0, .slice a4 (len - 32) c4, .int .i64 0, .slice none 0 0]) ∧ Own w' w.heap.size a4 (len - 32) c4 (R.drop 32) ∧ Below w.heap.size w w' := by
  have HR := hid h
  have H0 := hid h0
  have H1 := hid h1
  have H2 := hid h2
  have H3 := hid h3
  have H4 := hid h4
  have HZ1 := hid hz1
  clear h h0 h1
  clear h2 h3 h4 hz1
  have hd1 : decide (32 < (len : Int)) = true := by simp; omega
  have hd2 : decide (32 < len) = true := by simp; omega
  have hcp := HR.out.cap_
  have HSL := hid hs
  clear hs
  have mk0 := hid True.intro
  go_enter Try.func42, Try.ntmps42
  go_upto_region 20 with (first | (clear mk0; go_at_call 40; refine (get_is a len cap R 0 1 _ (HR.out.later (below1 _ _)) (by omega) (by omega) hl H0.out).mono ?_; rintro e w9 ⟨rfl, hw9⟩; obtain rfl := hw9.symm; have mk1 := hid True.intro) | (clear mk1; go_at_call 40; refine (get_is a len cap R 1 2 _ (HR.out.later (below1 _ _)) (by omega) (by omega) hl H1.out).mono ?_; rintro e w9 ⟨rfl, hw9⟩; obtain rfl := hw9.symm; have mk2 := hid True.intro) | (clear mk2; go_at_call 40; refine (get_is a len cap R 3 8 _ (HR.out.later (below2 _ _ _)) (by omega) (by omega) hl H2.out).mono ?_; rintro e w9 ⟨rfl, hw9⟩; obtain rfl := hw9.symm; have mk3 := hid True.intro) | (clear mk3; go_at_call 41; refine (rgw_any a len cap R 12 _ (HR.out.later (below2 _ _ _)) (by omega) hl).mono ?_; rintro e w2 ⟨rfl, hb2⟩; have HX := hid ((bx3 w y 6).later hb2); have HY := hid ((bx2 w y 6).later hb2); have HB := hid (below_call (below2 w _ _) hb2); clear hb2; have z0 : w2.cell? ⟨w.heap.size + 1, 0, none⟩ = some (.int .i64 6) := HX.out.cell 0 rfl; have z3 : w2.cell? ⟨w.heap.size + 1, 3, none⟩ = some (.int .i64 0) := HX.out.cell 3 rfl; have f3 : w2.frozen? ⟨w.heap.size + 1, 3, none⟩ = false := (HX.out.there 3 (by simp)).2; have z4 : w2.cell? ⟨w.heap.size + 1, 4, none⟩ = some (.int .u64 0) := HX.out.cell 4 rfl; have f4 : w2.frozen? ⟨w.heap.size + 1, 4, none⟩ = false := (HX.out.there 4 (by simp)).2; have z5 : w2.cell? ⟨w.heap.size + 1, 5, none⟩ = some (.int .u64 0) := HX.out.cell 5 rfl; have f5 : w2.frozen? ⟨w.heap.size + 1, 5, none⟩ = false := (HX.out.there 5 (by simp)).2; have z6 : w2.cell? ⟨w.heap.size + 1, 6, none⟩ = some (.bool false) := HX.out.cell 6 rfl; have f6 : w2.frozen? ⟨w.heap.size + 1, 6, none⟩ = false := (HX.out.there 6 (by simp)).2; have z8 : w2.cell? ⟨w.heap.size + 1, 8, none⟩ = some (.int .i64 0) := HX.out.cell 8 rfl; have f8 : w2.frozen? ⟨w.heap.size + 1, 8, none⟩ = false := (HX.out.there 8 (by simp)).2; have mk4 := hid True.intro) | (clear mk4; go_at_call 40; refine (get_is a len cap R 11 1 _ (HR.out.later (Below.setCell (Below.setCell (Below.setCell HB.out (Nat.le_succ _) _) (Nat.le_succ _) _) (Nat.le_succ _) _)) (by omega) (by omega) hl H3.out).mono ?_; rintro e w9 ⟨rfl, hw9⟩; obtain rfl := hw9.symm; have mk5 := hid True.intro) | (clear mk5; go_at_call 40; refine (get_is a len cap R 28 4 _ (HR.out.later (Below.setCell (Below.setCell (Below.setCell (Below.setCell HB.out (Nat.le_succ _) _) (Nat.le_succ _) _) (Nat.le_succ _) _) (Nat.le_succ _) _)) (by omega) (by omega) hl H4.out).mono ?_; rintro e w9 ⟨rfl, hw9⟩; obtain rfl := hw9.symm; have mk6 := hid True.intro) | (clear mk6; go_at_call 66; refine (minus_any z1 _ HZ1.out).mono ?_; rintro e w9 ⟨rfl, hw9⟩; obtain rfl := hw9.symm; have mk7 := hid True.intro))
  have X3 : Bx (((((w2.setCell ⟨w.heap.size + 1, 3, none⟩ (.int .i64 v)).setCell ⟨w.heap.size + 1, 4, none⟩ (.int .u64 (hiW R 12 : Int))).setCell ⟨w.heap.size + 1, 5, none⟩ (.int .u64 (loW R 12 : Int))).setCell ⟨w.heap.size + 1, 6, none⟩ (.bool true)).setCell ⟨w.heap.size + 1, 8, none⟩ (.int .i64 (sI z1))) (w.heap.size + 1) [.int .i64 6, .int .i64 y, .int .i64 0, .int .i64 v, .int .u64 (hiW R 12 : Int), .int .u64 (loW R 12 : Int), .bool true, .int .i64 0, .int .i64 (sI z1), .int .i64 0, .slice none 0 0, .int .i64 0, .slice none 0 0] := (Bx.put (Bx.put (Bx.put (Bx.put (Bx.put HX.out (j := 3) (by simp) _) (j := 4) (by simp) _) (j := 5) (by simp) _) (j := 6) (by simp) _) (j := 8) (by simp) _)
  have Y3 : Bx (((((w2.setCell ⟨w.heap.size + 1, 3, none⟩ (.int .i64 v)).setCell ⟨w.heap.size + 1, 4, none⟩ (.int .u64 (hiW R 12 : Int))).setCell ⟨w.heap.size + 1, 5, none⟩ (.int .u64 (loW R 12 : Int))).setCell ⟨w.heap.size + 1, 6, none⟩ (.bool true)).setCell ⟨w.heap.size + 1, 8, none⟩ (.int .i64 (sI z1))) w.heap.size [.int .i64 0, .int .i64 0, .int .i64 0, .int .i64 0, .int .u64 0, .int .u64 0, .bool false, .int .i64 0, .int .i64 0, .int .i64 0, .slice none 0 0, .int .i64 0, .slice none 0 0] := (Bx.off (Bx.off (Bx.off (Bx.off (Bx.off HY.out (by omega) _) (by omega) _) (by omega) _) (by omega) _) (by omega) _)
  have B3 : Below w.heap.size w (((((w2.setCell ⟨w.heap.size + 1, 3, none⟩ (.int .i64 v)).setCell ⟨w.heap.size + 1, 4, none⟩ (.int .u64 (hiW R 12 : Int))).setCell ⟨w.heap.size + 1, 5, none⟩ (.int .u64 (loW R 12 : Int))).setCell ⟨w.heap.size + 1, 6, none⟩ (.bool true)).setCell ⟨w.heap.size + 1, 8, none⟩ (.int .i64 (sI z1))) := (Below.setCell (Below.setCell (Below.setCell (Below.setCell (Below.setCell HB.out (Nat.le_succ _) _) (Nat.le_succ _) _) (Nat.le_succ _) _) (Nat.le_succ _) _) (Nat.le_succ _) _)
  generalize (((((w2.setCell ⟨w.heap.size + 1, 3, none⟩ (.int .i64 v)).setCell ⟨w.heap.size + 1, 4, none⟩ (.int .u64 (hiW R 12 : Int))).setCell ⟨w.heap.size + 1, 5, none⟩ (.int .u64 (loW R 12 : Int))).setCell ⟨w.heap.size + 1, 6, none⟩ (.bool true)).setCell ⟨w.heap.size + 1, 8, none⟩ (.int .i64 (sI z1))) = w3 at X3 Y3 B3 ⊢
  have B4 : Below w.heap.size w w3.drew := B3.drew
  have X4 : Bx w3.drew (w.heap.size + 1) [.int .i64 6, .int .i64 y, .int .i64 0, .int .i64 v, .int .u64 (hiW R 12 : Int), .int .u64 (loW R 12 : Int), .bool true, .int .i64 0, .int .i64 (sI z1), .int .i64 0, .slice none 0 0, .int .i64 0, .slice none 0 0] := X3.later (Below.refl _ _).drew
  have Y4 : Bx w3.drew w.heap.size [.int .i64 0, .int .i64 0, .int .i64 0, .int .i64 0, .int .u64 0, .int .u64 0, .bool false, .int .i64 0, .int .i64 0, .int .i64 0, .slice none 0 0, .int .i64 0, .slice none 0 0] := Y3.later (Below.refl _ _).drew
  obtain ⟨a4, c4, w4, hrun, hown4, hgr4⟩ := append_any (Own.nil w3.drew w3.drew.heap.size) ((HR.out.later B4).drop 32 (by have := HSL.out; omega)) (Nat.le_refl _) (by omega)
  rw [Nat.zero_add, List.nil_append] at hown4
  rw [Nat.zero_add] at hrun
  have nb : ∀ k, ¬ Blk none k := fun k hk => by obtain ⟨z, hz, _⟩ := hk; cases hz
  have HLT := hid (X4.lt (by simp))
  have z10 : w3.drew.cell? ⟨w.heap.size + 1, 10, none⟩ = some (.slice none 0 0) := X4.cell 10 rfl
  have X5 := X4.but hgr4.but (nb _)
  have Y5 := Y4.but hgr4.but (nb _)
  have B5 : Below w.heap.size w w4 := But.below B4 hgr4.but (fun k hk => absurd hk (nb k))
  have y10 : w4.cell? ⟨w.heap.size + 1, 10, none⟩ = some (.slice none 0 0) := X5.cell 10 rfl
  have f10 : w4.frozen? ⟨w.heap.size + 1, 10, none⟩ = false := (X5.there 10 (by simp)).2
  have HX5 := hid X5
  have HY5 := hid Y5
  have HB5 := hid B5
  have HRUN := hid hrun
  have HSR := hid (fun W => slice_lo W a len cap 32 (by have := HSL.out; omega) hcp)
  have HO4 := hid hown4
  clear X3 Y3 B3 X4 Y4 B4 X5 Y5 B5 hrun hown4 hgr4 nb HX HY HB z0 z3 f3 z4 f4 z5 f5 z6 f6 z8 f8
  refine wp_region_held_drew (S := (fun _ : World => True)) (by kernel_rfl) (trivial) (fun hHeld => ?_)
  refine wpAnyH_norm (l2 := #[false, false, false, false, false, false, false]) (f2 := 7) (by kernel_rfl) (by kernel_rfl) ?_
  refine wpAnyH_take (i := 0) (oi := _) (v := ?_) rfl (by kernel_rfl) (by kernel_rfl) (by kernel_rfl) (fun _ _ _ h => h) (Or.inl ⟨by rfl, ?_⟩) (by assumption) ?_
  rotate_left
  · (intro w hSw; (try dsimp only at hSw); go_simp; try with_reducible rfl)
  simp only [List.getElem_toArray, List.getElem_cons_succ, List.getElem_cons_zero, Act.put, List.setIfInBounds_toArray, List.set_cons_zero, List.set_cons_succ]
  refine wpAnyH_norm (l2 := #[true, false, false, false, false, false, false]) (f2 := 6) (by kernel_rfl) (by kernel_rfl) ?_
  refine wpAnyH_take (i := 2) (oi := _) (v := ?_) rfl (by kernel_rfl) (by kernel_rfl) (by kernel_rfl) (fun _ _ _ h => h) (Or.inl ⟨by rfl, ?_⟩) (by assumption) ?_
  rotate_left
  · (intro w hSw; (try dsimp only at hSw); go_simp; try with_reducible rfl)
  simp only [List.getElem_toArray, List.getElem_cons_succ, List.getElem_cons_zero, Act.put, List.setIfInBounds_toArray, List.set_cons_zero, List.set_cons_succ]
  refine wpAnyH_norm (l2 := #[true, false, true, false, false, false, false]) (f2 := 5) (by kernel_rfl) (by kernel_rfl) ?_
  refine wpAnyH_take (i := 3) (oi := _) (v := .slice (cutB a cap 32) (len - 32) (cap - 32)) rfl (by kernel_rfl) (by kernel_rfl) (by kernel_rfl) (fun _ _ _ h => h) (Or.inl ⟨by rfl, ?_⟩) (by assumption) ?_
  · (intro w hSw; (try dsimp only at hSw); exact ex_slice (vlo := some (.int .i64 32)) (vhi := none) (vmx := none) rfl rfl rfl rfl rfl (HSR.out _))
  simp only [List.getElem_toArray, List.getElem_cons_succ, List.getElem_cons_zero, Act.put, List.setIfInBounds_toArray, List.set_cons_zero, List.set_cons_succ]
  refine wpAnyH_norm (l2 := #[true, false, true, true, false, false, false]) (f2 := 4) (by kernel_rfl) (by kernel_rfl) ?_
  refine wpAnyH_ready (rs := [1]) (by kernel_rfl) (by simp) ?_
  refine AllReadyH.cons rfl (fun K hK => ?_) AllReadyH.nil
  go_simp
  refine hK.out _ _ (trivial) (fun hHeld => ?_)
  clear hK K
  simp only [List.getElem_toArray, List.getElem_cons_succ, List.getElem_cons_zero, Act.put, List.setIfInBounds_toArray, List.set_cons_zero, List.set_cons_succ]
  refine wpAnyH_norm (l2 := #[true, true, true, true, false, false, false]) (f2 := 3) (by kernel_rfl) (by kernel_rfl) ?_
  refine wpAnyH_ready (rs := [4]) (by kernel_rfl) (by simp) ?_
  refine AllReadyH.cons rfl (fun K hK => ?_) AllReadyH.nil
  refine wp_append_known (.tmp 63) (.tmp 65) 28 rfl _ _ rfl rfl _ w4 HRUN.out ?_
  refine hK.out _ _ (trivial) (fun hHeld => ?_)
  clear hK K
  simp only [List.getElem_toArray, List.getElem_cons_succ, List.getElem_cons_zero, Act.put, List.setIfInBounds_toArray, List.set_cons_zero, List.set_cons_succ]
  refine wpAnyH_norm (l2 := #[true, true, true, true, true, false, false]) (f2 := 2) (by kernel_rfl) (by kernel_rfl) ?_
  refine wpAnyH_take (i := 5) (oi := _) (v := ?_) rfl (by kernel_rfl) (by kernel_rfl) (by kernel_rfl) (fun _ _ _ h => h) (Or.inl ⟨by rfl, ?_⟩) (by assumption) ?_
  rotate_left
  · (intro w hSw; (try dsimp only at hSw); go_simp; try with_reducible rfl)
  simp only [List.getElem_toArray, List.getElem_cons_succ, List.getElem_cons_zero, Act.put, List.setIfInBounds_toArray, List.set_cons_zero, List.set_cons_succ]
  refine wpAnyH_norm (l2 := #[true, true, true, true, true, true, false]) (f2 := 1) (by kernel_rfl) (by kernel_rfl) ?_
  refine wpAnyH_ready (rs := [6]) (by kernel_rfl) (by simp) ?_
  refine AllReadyH.cons rfl (fun K hK => ?_) AllReadyH.nil
  go_simp
  refine hK.out _ _ (trivial) (fun hHeld => ?_)
  clear hK K
  simp only [List.getElem_toArray, List.getElem_cons_succ, List.getElem_cons_zero, Act.put, List.setIfInBounds_toArray, List.set_cons_zero, List.set_cons_succ]
  refine wpAnyH_norm (l2 := #[true, true, true, true, true, true, true]) (f2 := 0) (by kernel_rfl) (by kernel_rfl) ?_
  refine wpAnyH_done (by kernel_rfl) ?_ _
  have X6 : Bx (w4.setCell ⟨w.heap.size + 1, 10, none⟩ (.slice a4 (len - 32) c4)) (w.heap.size + 1) [.int .i64 6, .int .i64 y, .int .i64 0, .int .i64 v, .int .u64 (hiW R 12 : Int), .int .u64 (loW R 12 : Int), .bool true, .int .i64 0, .int .i64 (sI z1), .int .i64 0, .slice a4 (len - 32) c4, .int .i64 0, .slice none 0 0] := Bx.put HX5.out (j := 10) (by simp) _
  have Y6 : Bx (w4.setCell ⟨w.heap.size + 1, 10, none⟩ (.slice a4 (len - 32) c4)) w.heap.size [.int .i64 0, .int .i64 0, .int .i64 0, .int .i64 0, .int .u64 0, .int .u64 0, .bool false, .int .i64 0, .int .i64 0, .int .i64 0, .slice none 0 0, .int .i64 0, .slice none 0 0] := Bx.off HY5.out (by omega) _
  have B6 : Below w.heap.size w (w4.setCell ⟨w.heap.size + 1, 10, none⟩ (.slice a4 (len - 32) c4)) := Below.setCell HB5.out (Nat.le_succ _) _
  have HR6 : Hid (Own (w4.setCell ⟨w.heap.size + 1, 10, none⟩ (.slice a4 (len - 32) c4)) w3.drew.heap.size a4 (len - 32) c4 (R.drop 32)) := HO4.out.but2 (setCells_but (S := (· = w.heap.size + 1)) (b := w.heap.size + 1) rfl [.slice a4 (len - 32) c4] 10 (But.refl _ w4)) (fun k hk e => by have := HO4.out.blk k hk; have := HLT.out; omega)
  clear HX5 HY5 HB5 z10 y10 f10
  generalize w4.setCell ⟨w.heap.size + 1, 10, none⟩ (.slice a4 (len - 32) c4) = w6 at X6 Y6 B6 HR6 ⊢
  go_upto_region 28 with fail
  obtain ⟨M, hM⟩ : ∃ M : List Value, M = [.int .i64 6, .int .i64 y, .int .i64 0, .int .i64 v, .int .u64 (hiW R 12 : Int), .int .u64 (loW R 12 : Int), .bool true, .int .i64 0, .int .i64 (sI z1), .int .i64 0, .slice a4 (len - 32) c4, .int .i64 0, .slice none 0 0] := ⟨_, rfl⟩
  rw [← hM] at X6
  have hml : M.length = 13 := by rw [hM]; rfl
  have hmo : ∀ v ∈ M, v.oneCell' = true := by rw [hM]; simp [Value.oneCell']
  have HLD := hid (ld41 X6.range hml)
  have hst := stc (n := 13) Y6.there hml hmo
  have HLV := hid (lv41 (Y6.set (M := M) hml).range hml)
  have HB4 : Hid (Below w.heap.size w (w6.setCells w.heap.size 0 M)) := But.below B6 (setCells_but (S := (· = w.heap.size)) rfl M 0 (But.refl _ _)) (fun k hk => by omega)
  have HM := hid hM
  clear X6 Y6 B6 hmo hM
  go_wp2_with (first | ((with_reducible refine ld_arm HLD.out ?_ ?_); (· rfl)))
  refine bodyPost_ret (v := .agg M.toArray) ?_ rfl ⟨a4, c4, by rw [HM.out], (HR6.out.but2 (setCells_but (S := (· = w.heap.size)) (b := w.heap.size) rfl M 0 (But.refl _ w6)) (fun k hk e => by have := HR6.out.blk k hk; have := HLT.out; omega)).mono (by have := HLT.out; omega), HB4.out⟩
  have hlv := HLV.out
  simp [results, Try.results42, asAddr, hlv]
set_option maxRecDepth 100000 in
set_option maxHeartbeats 4000000 in
theorem guess6sf (a : Option Addr) (len cap : Nat) (R : List Nat) (w : World) (h : Row w a len cap R) (hl : len ≤ 140737488355328) (y v : Int) (g : Int) (z1 : Nat) (h0 : sv (gt R 0 1) = 6) (h1 : sv (gt R 1 2) = y) (h2 : sv (gt R 3 8) = v) (h3 : sv (gt R 11 1) = g) (h4 : sv (gt R 28 4) = (z1 : Int)) (hz1 : z1 < 4294967296) (hg : (g == 1) = false) (hs : len ≤ 32) : Calls Try.prog 42 #[.slice a len cap] w fun e w' => e = .returned (.agg #[.int .i64 6, .int .i64 y, .int .i64 0, .int .i64 v, .int .u64 (hiW R 12 : Int), .int .u64 (loW R 12 : Int), .bool false, .int .i64 0, .int .i64 (sI z1), .int .i64 0, .slice none 0 0, .int .i64 0, .slice none 0 0]) ∧ Below w.heap.size w w' := by
  have HR := hid h
  have H0 := hid h0
  have H1 := hid h1
  have H2 := hid h2
  have H3 := hid h3
  have H4 := hid h4
  have HZ1 := hid hz1
  clear h h0 h1
  clear h2 h3 h4 hz1
  have hd1 : decide (32 < (len : Int)) = false := by simp; omega
  have hd2 : decide (32 < len) = false := by simp; omega
  clear hs
  have mk0 := hid True.intro
  go_enter Try.func42, Try.ntmps42
  go_upto_region 28 with (first | (clear mk0; go_at_call 40; refine (get_is a len cap R 0 1 _ (HR.out.later (below1 _ _)) (by omega) (by omega) hl H0.out).mono ?_; rintro e w9 ⟨rfl, hw9⟩; obtain rfl := hw9.symm; have mk1 := hid True.intro) | (clear mk1; go_at_call 40; refine (get_is a len cap R 1 2 _ (HR.out.later (below1 _ _)) (by omega) (by omega) hl H1.out).mono ?_; rintro e w9 ⟨rfl, hw9⟩; obtain rfl := hw9.symm; have mk2 := hid True.intro) | (clear mk2; go_at_call 40; refine (get_is a len cap R 3 8 _ (HR.out.later (below2 _ _ _)) (by omega) (by omega) hl H2.out).mono ?_; rintro e w9 ⟨rfl, hw9⟩; obtain rfl := hw9.symm; have mk3 := hid True.intro) | (clear mk3; go_at_call 41; refine (rgw_any a len cap R 12 _ (HR.out.later (below2 _ _ _)) (by omega) hl).mono ?_; rintro e w2 ⟨rfl, hb2⟩; have HX := hid ((bx3 w y 6).later hb2); have HY := hid ((bx2 w y 6).later hb2); have HB := hid (below_call (below2 w _ _) hb2); clear hb2; have z0 : w2.cell? ⟨w.heap.size + 1, 0, none⟩ = some (.int .i64 6) := HX.out.cell 0 rfl; have z3 : w2.cell? ⟨w.heap.size + 1, 3, none⟩ = some (.int .i64 0) := HX.out.cell 3 rfl; have f3 : w2.frozen? ⟨w.heap.size + 1, 3, none⟩ = false := (HX.out.there 3 (by simp)).2; have z4 : w2.cell? ⟨w.heap.size + 1, 4, none⟩ = some (.int .u64 0) := HX.out.cell 4 rfl; have f4 : w2.frozen? ⟨w.heap.size + 1, 4, none⟩ = false := (HX.out.there 4 (by simp)).2; have z5 : w2.cell? ⟨w.heap.size + 1, 5, none⟩ = some (.int .u64 0) := HX.out.cell 5 rfl; have f5 : w2.frozen? ⟨w.heap.size + 1, 5, none⟩ = false := (HX.out.there 5 (by simp)).2; have z6 : w2.cell? ⟨w.heap.size + 1, 6, none⟩ = some (.bool false) := HX.out.cell 6 rfl; have f6 : w2.frozen? ⟨w.heap.size + 1, 6, none⟩ = false := (HX.out.there 6 (by simp)).2; have z8 : w2.cell? ⟨w.heap.size + 1, 8, none⟩ = some (.int .i64 0) := HX.out.cell 8 rfl; have f8 : w2.frozen? ⟨w.heap.size + 1, 8, none⟩ = false := (HX.out.there 8 (by simp)).2; have mk4 := hid True.intro) | (clear mk4; go_at_call 40; refine (get_is a len cap R 11 1 _ (HR.out.later (Below.setCell (Below.setCell (Below.setCell HB.out (Nat.le_succ _) _) (Nat.le_succ _) _) (Nat.le_succ _) _)) (by omega) (by omega) hl H3.out).mono ?_; rintro e w9 ⟨rfl, hw9⟩; obtain rfl := hw9.symm; have mk5 := hid True.intro) | (clear mk5; go_at_call 40; refine (get_is a len cap R 28 4 _ (HR.out.later (Below.setCell (Below.setCell (Below.setCell (Below.setCell HB.out (Nat.le_succ _) _) (Nat.le_succ _) _) (Nat.le_succ _) _) (Nat.le_succ _) _)) (by omega) (by omega) hl H4.out).mono ?_; rintro e w9 ⟨rfl, hw9⟩; obtain rfl := hw9.symm; have mk6 := hid True.intro) | (clear mk6; go_at_call 66; refine (minus_any z1 _ HZ1.out).mono ?_; rintro e w9 ⟨rfl, hw9⟩; obtain rfl := hw9.symm; have mk7 := hid True.intro))
  have X3 : Bx (((((w2.setCell ⟨w.heap.size + 1, 3, none⟩ (.int .i64 v)).setCell ⟨w.heap.size + 1, 4, none⟩ (.int .u64 (hiW R 12 : Int))).setCell ⟨w.heap.size + 1, 5, none⟩ (.int .u64 (loW R 12 : Int))).setCell ⟨w.heap.size + 1, 6, none⟩ (.bool false)).setCell ⟨w.heap.size + 1, 8, none⟩ (.int .i64 (sI z1))) (w.heap.size + 1) [.int .i64 6, .int .i64 y, .int .i64 0, .int .i64 v, .int .u64 (hiW R 12 : Int), .int .u64 (loW R 12 : Int), .bool false, .int .i64 0, .int .i64 (sI z1), .int .i64 0, .slice none 0 0, .int .i64 0, .slice none 0 0] := (Bx.put (Bx.put (Bx.put (Bx.put (Bx.put HX.out (j := 3) (by simp) _) (j := 4) (by simp) _) (j := 5) (by simp) _) (j := 6) (by simp) _) (j := 8) (by simp) _)
  have Y3 : Bx (((((w2.setCell ⟨w.heap.size + 1, 3, none⟩ (.int .i64 v)).setCell ⟨w.heap.size + 1, 4, none⟩ (.int .u64 (hiW R 12 : Int))).setCell ⟨w.heap.size + 1, 5, none⟩ (.int .u64 (loW R 12 : Int))).setCell ⟨w.heap.size + 1, 6, none⟩ (.bool false)).setCell ⟨w.heap.size + 1, 8, none⟩ (.int .i64 (sI z1))) w.heap.size [.int .i64 0, .int .i64 0, .int .i64 0, .int .i64 0, .int .u64 0, .int .u64 0, .bool false, .int .i64 0, .int .i64 0, .int .i64 0, .slice none 0 0, .int .i64 0, .slice none 0 0] := (Bx.off (Bx.off (Bx.off (Bx.off (Bx.off HY.out (by omega) _) (by omega) _) (by omega) _) (by omega) _) (by omega) _)
  have B3 : Below w.heap.size w (((((w2.setCell ⟨w.heap.size + 1, 3, none⟩ (.int .i64 v)).setCell ⟨w.heap.size + 1, 4, none⟩ (.int .u64 (hiW R 12 : Int))).setCell ⟨w.heap.size + 1, 5, none⟩ (.int .u64 (loW R 12 : Int))).setCell ⟨w.heap.size + 1, 6, none⟩ (.bool false)).setCell ⟨w.heap.size + 1, 8, none⟩ (.int .i64 (sI z1))) := (Below.setCell (Below.setCell (Below.setCell (Below.setCell (Below.setCell HB.out (Nat.le_succ _) _) (Nat.le_succ _) _) (Nat.le_succ _) _) (Nat.le_succ _) _) (Nat.le_succ _) _)
  generalize (((((w2.setCell ⟨w.heap.size + 1, 3, none⟩ (.int .i64 v)).setCell ⟨w.heap.size + 1, 4, none⟩ (.int .u64 (hiW R 12 : Int))).setCell ⟨w.heap.size + 1, 5, none⟩ (.int .u64 (loW R 12 : Int))).setCell ⟨w.heap.size + 1, 6, none⟩ (.bool false)).setCell ⟨w.heap.size + 1, 8, none⟩ (.int .i64 (sI z1))) = w3 at X3 Y3 B3 ⊢
  obtain ⟨M, hM⟩ : ∃ M : List Value, M = [.int .i64 6, .int .i64 y, .int .i64 0, .int .i64 v, .int .u64 (hiW R 12 : Int), .int .u64 (loW R 12 : Int), .bool false, .int .i64 0, .int .i64 (sI z1), .int .i64 0, .slice none 0 0, .int .i64 0, .slice none 0 0] := ⟨_, rfl⟩
  rw [← hM] at X3
  have hml : M.length = 13 := by rw [hM]; rfl
  have hmo : ∀ v ∈ M, v.oneCell' = true := by rw [hM]; simp [Value.oneCell']
  have HLD := hid (ld41 X3.range hml)
  have hst := stc (n := 13) Y3.there hml hmo
  have HLV := hid (lv41 (Y3.set (M := M) hml).range hml)
  have HB4 : Hid (Below w.heap.size w (w3.setCells w.heap.size 0 M)) := But.below B3 (setCells_but (S := (· = w.heap.size)) rfl M 0 (But.refl _ _)) (fun k hk => by omega)
  have HM := hid hM
  clear X3 Y3 B3 hmo hM HX HY HB z0 z3 f3 z4 f4 z5 f5 z6 f6 z8 f8
  go_wp2_with (first | ((with_reducible refine ld_arm HLD.out ?_ ?_); (· rfl)))
  refine bodyPost_ret (v := .agg M.toArray) ?_ rfl ⟨by rw [HM.out], HB4.out⟩
  have hlv := HLV.out
  simp [results, Try.results42, asAddr, hlv]
set_option maxRecDepth 100000 in
set_option maxHeartbeats 4000000 in
theorem guess6lf (a : Option Addr) (len cap : Nat) (R : List Nat) (w : World) (h : Row w a len cap R) (hl : len ≤ 140737488355328) (y v : Int) (g : Int) (z1 : Nat) (h0 : sv (gt R 0 1) = 6) (h1 : sv (gt R 1 2) = y) (h2 : sv (gt R 3 8) = v) (h3 : sv (gt R 11 1) = g) (h4 : sv (gt R 28 4) = (z1 : Int)) (hz1 : z1 < 4294967296) (hg : (g == 1) = false) (hs : 32 < len) : Calls Try.prog 42 #[.slice a len cap] w fun e w' => ∃ a4 c4, e = .returned (.agg #[.int .i64 6, .int .i64 y, .int .i64 0, .int .i64 v, .int .u64 (hiW R 12 : Int), .int .u64 (loW R 12 : Int), .bool false, .int .i64 0, .int .i64 (sI z1), .int .i64 0, .slice a4 (len - 32) c4, .int .i64 0, .slice none 0 0]) ∧ Own w' w.heap.size a4 (len - 32) c4 (R.drop 32) ∧ Below w.heap.size w w' := by
  have HR := hid h
  have H0 := hid h0
  have H1 := hid h1
  have H2 := hid h2
  have H3 := hid h3
  have H4 := hid h4
  have HZ1 := hid hz1
  clear h h0 h1
  clear h2 h3 h4 hz1
  have hd1 : decide (32 < (len : Int)) = true := by simp; omega
  have hd2 : decide (32 < len) = true := by simp; omega
  have hcp := HR.out.cap_
  have HSL := hid hs
  clear hs
  have mk0 := hid True.intro
  go_enter Try.func42, Try.ntmps42
  go_upto_region 20 with (first | (clear mk0; go_at_call 40; refine (get_is a len cap R 0 1 _ (HR.out.later (below1 _ _)) (by omega) (by omega) hl H0.out).mono ?_; rintro e w9 ⟨rfl, hw9⟩; obtain rfl := hw9.symm; have mk1 := hid True.intro) | (clear mk1; go_at_call 40; refine (get_is a len cap R 1 2 _ (HR.out.later (below1 _ _)) (by omega) (by omega) hl H1.out).mono ?_; rintro e w9 ⟨rfl, hw9⟩; obtain rfl := hw9.symm; have mk2 := hid True.intro) | (clear mk2; go_at_call 40; refine (get_is a len cap R 3 8 _ (HR.out.later (below2 _ _ _)) (by omega) (by omega) hl H2.out).mono ?_; rintro e w9 ⟨rfl, hw9⟩; obtain rfl := hw9.symm; have mk3 := hid True.intro) | (clear mk3; go_at_call 41; refine (rgw_any a len cap R 12 _ (HR.out.later (below2 _ _ _)) (by omega) hl).mono ?_; rintro e w2 ⟨rfl, hb2⟩; have HX := hid ((bx3 w y 6).later hb2); have HY := hid ((bx2 w y 6).later hb2); have HB := hid (below_call (below2 w _ _) hb2); clear hb2; have z0 : w2.cell? ⟨w.heap.size + 1, 0, none⟩ = some (.int .i64 6) := HX.out.cell 0 rfl; have z3 : w2.cell? ⟨w.heap.size + 1, 3, none⟩ = some (.int .i64 0) := HX.out.cell 3 rfl; have f3 : w2.frozen? ⟨w.heap.size + 1, 3, none⟩ = false := (HX.out.there 3 (by simp)).2; have z4 : w2.cell? ⟨w.heap.size + 1, 4, none⟩ = some (.int .u64 0) := HX.out.cell 4 rfl; have f4 : w2.frozen? ⟨w.heap.size + 1, 4, none⟩ = false := (HX.out.there 4 (by simp)).2; have z5 : w2.cell? ⟨w.heap.size + 1, 5, none⟩ = some (.int .u64 0) := HX.out.cell 5 rfl; have f5 : w2.frozen? ⟨w.heap.size + 1, 5, none⟩ = false := (HX.out.there 5 (by simp)).2; have z6 : w2.cell? ⟨w.heap.size + 1, 6, none⟩ = some (.bool false) := HX.out.cell 6 rfl; have f6 : w2.frozen? ⟨w.heap.size + 1, 6, none⟩ = false := (HX.out.there 6 (by simp)).2; have z8 : w2.cell? ⟨w.heap.size + 1, 8, none⟩ = some (.int .i64 0) := HX.out.cell 8 rfl; have f8 : w2.frozen? ⟨w.heap.size + 1, 8, none⟩ = false := (HX.out.there 8 (by simp)).2; have mk4 := hid True.intro) | (clear mk4; go_at_call 40; refine (get_is a len cap R 11 1 _ (HR.out.later (Below.setCell (Below.setCell (Below.setCell HB.out (Nat.le_succ _) _) (Nat.le_succ _) _) (Nat.le_succ _) _)) (by omega) (by omega) hl H3.out).mono ?_; rintro e w9 ⟨rfl, hw9⟩; obtain rfl := hw9.symm; have mk5 := hid True.intro) | (clear mk5; go_at_call 40; refine (get_is a len cap R 28 4 _ (HR.out.later (Below.setCell (Below.setCell (Below.setCell (Below.setCell HB.out (Nat.le_succ _) _) (Nat.le_succ _) _) (Nat.le_succ _) _) (Nat.le_succ _) _)) (by omega) (by omega) hl H4.out).mono ?_; rintro e w9 ⟨rfl, hw9⟩; obtain rfl := hw9.symm; have mk6 := hid True.intro) | (clear mk6; go_at_call 66; refine (minus_any z1 _ HZ1.out).mono ?_; rintro e w9 ⟨rfl, hw9⟩; obtain rfl := hw9.symm; have mk7 := hid True.intro))
  have X3 : Bx (((((w2.setCell ⟨w.heap.size + 1, 3, none⟩ (.int .i64 v)).setCell ⟨w.heap.size + 1, 4, none⟩ (.int .u64 (hiW R 12 : Int))).setCell ⟨w.heap.size + 1, 5, none⟩ (.int .u64 (loW R 12 : Int))).setCell ⟨w.heap.size + 1, 6, none⟩ (.bool false)).setCell ⟨w.heap.size + 1, 8, none⟩ (.int .i64 (sI z1))) (w.heap.size + 1) [.int .i64 6, .int .i64 y, .int .i64 0, .int .i64 v, .int .u64 (hiW R 12 : Int), .int .u64 (loW R 12 : Int), .bool false, .int .i64 0, .int .i64 (sI z1), .int .i64 0, .slice none 0 0, .int .i64 0, .slice none 0 0] := (Bx.put (Bx.put (Bx.put (Bx.put (Bx.put HX.out (j := 3) (by simp) _) (j := 4) (by simp) _) (j := 5) (by simp) _) (j := 6) (by simp) _) (j := 8) (by simp) _)
  have Y3 : Bx (((((w2.setCell ⟨w.heap.size + 1, 3, none⟩ (.int .i64 v)).setCell ⟨w.heap.size + 1, 4, none⟩ (.int .u64 (hiW R 12 : Int))).setCell ⟨w.heap.size + 1, 5, none⟩ (.int .u64 (loW R 12 : Int))).setCell ⟨w.heap.size + 1, 6, none⟩ (.bool false)).setCell ⟨w.heap.size + 1, 8, none⟩ (.int .i64 (sI z1))) w.heap.size [.int .i64 0, .int .i64 0, .int .i64 0, .int .i64 0, .int .u64 0, .int .u64 0, .bool false, .int .i64 0, .int .i64 0, .int .i64 0, .slice none 0 0, .int .i64 0, .slice none 0 0] := (Bx.off (Bx.off (Bx.off (Bx.off (Bx.off HY.out (by omega) _) (by omega) _) (by omega) _) (by omega) _) (by omega) _)
  have B3 : Below w.heap.size w (((((w2.setCell ⟨w.heap.size + 1, 3, none⟩ (.int .i64 v)).setCell ⟨w.heap.size + 1, 4, none⟩ (.int .u64 (hiW R 12 : Int))).setCell ⟨w.heap.size + 1, 5, none⟩ (.int .u64 (loW R 12 : Int))).setCell ⟨w.heap.size + 1, 6, none⟩ (.bool false)).setCell ⟨w.heap.size + 1, 8, none⟩ (.int .i64 (sI z1))) := (Below.setCell (Below.setCell (Below.setCell (Below.setCell (Below.setCell HB.out (Nat.le_succ _) _) (Nat.le_succ _) _) (Nat.le_succ _) _) (Nat.le_succ _) _) (Nat.le_succ _) _)
  generalize (((((w2.setCell ⟨w.heap.size + 1, 3, none⟩ (.int .i64 v)).setCell ⟨w.heap.size + 1, 4, none⟩ (.int .u64 (hiW R 12 : Int))).setCell ⟨w.heap.size + 1, 5, none⟩ (.int .u64 (loW R 12 : Int))).setCell ⟨w.heap.size + 1, 6, none⟩ (.bool false)).setCell ⟨w.heap.size + 1, 8, none⟩ (.int .i64 (sI z1))) = w3 at X3 Y3 B3 ⊢
  have B4 : Below w.heap.size w w3.drew := B3.drew
  have X4 : Bx w3.drew (w.heap.size + 1) [.int .i64 6, .int .i64 y, .int .i64 0, .int .i64 v, .int .u64 (hiW R 12 : Int), .int .u64 (loW R 12 : Int), .bool false, .int .i64 0, .int .i64 (sI z1), .int .i64 0, .slice none 0 0, .int .i64 0, .slice none 0 0] := X3.later (Below.refl _ _).drew
  have Y4 : Bx w3.drew w.heap.size [.int .i64 0, .int .i64 0, .int .i64 0, .int .i64 0, .int .u64 0, .int .u64 0, .bool false, .int .i64 0, .int .i64 0, .int .i64 0, .slice none 0 0, .int .i64 0, .slice none 0 0] := Y3.later (Below.refl _ _).drew
  obtain ⟨a4, c4, w4, hrun, hown4, hgr4⟩ := append_any (Own.nil w3.drew w3.drew.heap.size) ((HR.out.later B4).drop 32 (by have := HSL.out; omega)) (Nat.le_refl _) (by omega)
  rw [Nat.zero_add, List.nil_append] at hown4
  rw [Nat.zero_add] at hrun
  have nb : ∀ k, ¬ Blk none k := fun k hk => by obtain ⟨z, hz, _⟩ := hk; cases hz
  have HLT := hid (X4.lt (by simp))
  have z10 : w3.drew.cell? ⟨w.heap.size + 1, 10, none⟩ = some (.slice none 0 0) := X4.cell 10 rfl
  have X5 := X4.but hgr4.but (nb _)
  have Y5 := Y4.but hgr4.but (nb _)
  have B5 : Below w.heap.size w w4 := But.below B4 hgr4.but (fun k hk => absurd hk (nb k))
  have y10 : w4.cell? ⟨w.heap.size + 1, 10, none⟩ = some (.slice none 0 0) := X5.cell 10 rfl
  have f10 : w4.frozen? ⟨w.heap.size + 1, 10, none⟩ = false := (X5.there 10 (by simp)).2
  have HX5 := hid X5
  have HY5 := hid Y5
  have HB5 := hid B5
  have HRUN := hid hrun
  have HSR := hid (fun W => slice_lo W a len cap 32 (by have := HSL.out; omega) hcp)
  have HO4 := hid hown4
  clear X3 Y3 B3 X4 Y4 B4 X5 Y5 B5 hrun hown4 hgr4 nb HX HY HB z0 z3 f3 z4 f4 z5 f5 z6 f6 z8 f8
  refine wp_region_held_drew (S := (fun _ : World => True)) (by kernel_rfl) (trivial) (fun hHeld => ?_)
  refine wpAnyH_norm (l2 := #[false, false, false, false, false, false, false]) (f2 := 7) (by kernel_rfl) (by kernel_rfl) ?_
  refine wpAnyH_take (i := 0) (oi := _) (v := ?_) rfl (by kernel_rfl) (by kernel_rfl) (by kernel_rfl) (fun _ _ _ h => h) (Or.inl ⟨by rfl, ?_⟩) (by assumption) ?_
  rotate_left
  · (intro w hSw; (try dsimp only at hSw); go_simp; try with_reducible rfl)
  simp only [List.getElem_toArray, List.getElem_cons_succ, List.getElem_cons_zero, Act.put, List.setIfInBounds_toArray, List.set_cons_zero, List.set_cons_succ]
  refine wpAnyH_norm (l2 := #[true, false, false, false, false, false, false]) (f2 := 6) (by kernel_rfl) (by kernel_rfl) ?_
  refine wpAnyH_take (i := 2) (oi := _) (v := ?_) rfl (by kernel_rfl) (by kernel_rfl) (by kernel_rfl) (fun _ _ _ h => h) (Or.inl ⟨by rfl, ?_⟩) (by assumption) ?_
  rotate_left
  · (intro w hSw; (try dsimp only at hSw); go_simp; try with_reducible rfl)
  simp only [List.getElem_toArray, List.getElem_cons_succ, List.getElem_cons_zero, Act.put, List.setIfInBounds_toArray, List.set_cons_zero, List.set_cons_succ]
  refine wpAnyH_norm (l2 := #[true, false, true, false, false, false, false]) (f2 := 5) (by kernel_rfl) (by kernel_rfl) ?_
  refine wpAnyH_take (i := 3) (oi := _) (v := .slice (cutB a cap 32) (len - 32) (cap - 32)) rfl (by kernel_rfl) (by kernel_rfl) (by kernel_rfl) (fun _ _ _ h => h) (Or.inl ⟨by rfl, ?_⟩) (by assumption) ?_
  · (intro w hSw; (try dsimp only at hSw); exact ex_slice (vlo := some (.int .i64 32)) (vhi := none) (vmx := none) rfl rfl rfl rfl rfl (HSR.out _))
  simp only [List.getElem_toArray, List.getElem_cons_succ, List.getElem_cons_zero, Act.put, List.setIfInBounds_toArray, List.set_cons_zero, List.set_cons_succ]
  refine wpAnyH_norm (l2 := #[true, false, true, true, false, false, false]) (f2 := 4) (by kernel_rfl) (by kernel_rfl) ?_
  refine wpAnyH_ready (rs := [1]) (by kernel_rfl) (by simp) ?_
  refine AllReadyH.cons rfl (fun K hK => ?_) AllReadyH.nil
  go_simp
  refine hK.out _ _ (trivial) (fun hHeld => ?_)
  clear hK K
  simp only [List.getElem_toArray, List.getElem_cons_succ, List.getElem_cons_zero, Act.put, List.setIfInBounds_toArray, List.set_cons_zero, List.set_cons_succ]
  refine wpAnyH_norm (l2 := #[true, true, true, true, false, false, false]) (f2 := 3) (by kernel_rfl) (by kernel_rfl) ?_
  refine wpAnyH_ready (rs := [4]) (by kernel_rfl) (by simp) ?_
  refine AllReadyH.cons rfl (fun K hK => ?_) AllReadyH.nil
  refine wp_append_known (.tmp 63) (.tmp 65) 28 rfl _ _ rfl rfl _ w4 HRUN.out ?_
  refine hK.out _ _ (trivial) (fun hHeld => ?_)
  clear hK K
  simp only [List.getElem_toArray, List.getElem_cons_succ, List.getElem_cons_zero, Act.put, List.setIfInBounds_toArray, List.set_cons_zero, List.set_cons_succ]
  refine wpAnyH_norm (l2 := #[true, true, true, true, true, false, false]) (f2 := 2) (by kernel_rfl) (by kernel_rfl) ?_
  refine wpAnyH_take (i := 5) (oi := _) (v := ?_) rfl (by kernel_rfl) (by kernel_rfl) (by kernel_rfl) (fun _ _ _ h => h) (Or.inl ⟨by rfl, ?_⟩) (by assumption) ?_
  rotate_left
  · (intro w hSw; (try dsimp only at hSw); go_simp; try with_reducible rfl)
  simp only [List.getElem_toArray, List.getElem_cons_succ, List.getElem_cons_zero, Act.put, List.setIfInBounds_toArray, List.set_cons_zero, List.set_cons_succ]
  refine wpAnyH_norm (l2 := #[true, true, true, true, true, true, false]) (f2 := 1) (by kernel_rfl) (by kernel_rfl) ?_
  refine wpAnyH_ready (rs := [6]) (by kernel_rfl) (by simp) ?_
  refine AllReadyH.cons rfl (fun K hK => ?_) AllReadyH.nil
  go_simp
  refine hK.out _ _ (trivial) (fun hHeld => ?_)
  clear hK K
  simp only [List.getElem_toArray, List.getElem_cons_succ, List.getElem_cons_zero, Act.put, List.setIfInBounds_toArray, List.set_cons_zero, List.set_cons_succ]
  refine wpAnyH_norm (l2 := #[true, true, true, true, true, true, true]) (f2 := 0) (by kernel_rfl) (by kernel_rfl) ?_
  refine wpAnyH_done (by kernel_rfl) ?_ _
  have X6 : Bx (w4.setCell ⟨w.heap.size + 1, 10, none⟩ (.slice a4 (len - 32) c4)) (w.heap.size + 1) [.int .i64 6, .int .i64 y, .int .i64 0, .int .i64 v, .int .u64 (hiW R 12 : Int), .int .u64 (loW R 12 : Int), .bool false, .int .i64 0, .int .i64 (sI z1), .int .i64 0, .slice a4 (len - 32) c4, .int .i64 0, .slice none 0 0] := Bx.put HX5.out (j := 10) (by simp) _
  have Y6 : Bx (w4.setCell ⟨w.heap.size + 1, 10, none⟩ (.slice a4 (len - 32) c4)) w.heap.size [.int .i64 0, .int .i64 0, .int .i64 0, .int .i64 0, .int .u64 0, .int .u64 0, .bool false, .int .i64 0, .int .i64 0, .int .i64 0, .slice none 0 0, .int .i64 0, .slice none 0 0] := Bx.off HY5.out (by omega) _
  have B6 : Below w.heap.size w (w4.setCell ⟨w.heap.size + 1, 10, none⟩ (.slice a4 (len - 32) c4)) := Below.setCell HB5.out (Nat.le_succ _) _
  have HR6 : Hid (Own (w4.setCell ⟨w.heap.size + 1, 10, none⟩ (.slice a4 (len - 32) c4)) w3.drew.heap.size a4 (len - 32) c4 (R.drop 32)) := HO4.out.but2 (setCells_but (S := (· = w.heap.size + 1)) (b := w.heap.size + 1) rfl [.slice a4 (len - 32) c4] 10 (But.refl _ w4)) (fun k hk e => by have := HO4.out.blk k hk; have := HLT.out; omega)
  clear HX5 HY5 HB5 z10 y10 f10
  generalize w4.setCell ⟨w.heap.size + 1, 10, none⟩ (.slice a4 (len - 32) c4) = w6 at X6 Y6 B6 HR6 ⊢
  go_upto_region 28 with fail
  obtain ⟨M, hM⟩ : ∃ M : List Value, M = [.int .i64 6, .int .i64 y, .int .i64 0, .int .i64 v, .int .u64 (hiW R 12 : Int), .int .u64 (loW R 12 : Int), .bool false, .int .i64 0, .int .i64 (sI z1), .int .i64 0, .slice a4 (len - 32) c4, .int .i64 0, .slice none 0 0] := ⟨_, rfl⟩
  rw [← hM] at X6
  have hml : M.length = 13 := by rw [hM]; rfl
  have hmo : ∀ v ∈ M, v.oneCell' = true := by rw [hM]; simp [Value.oneCell']
  have HLD := hid (ld41 X6.range hml)
  have hst := stc (n := 13) Y6.there hml hmo
  have HLV := hid (lv41 (Y6.set (M := M) hml).range hml)
  have HB4 : Hid (Below w.heap.size w (w6.setCells w.heap.size 0 M)) := But.below B6 (setCells_but (S := (· = w.heap.size)) rfl M 0 (But.refl _ _)) (fun k hk => by omega)
  have HM := hid hM
  clear X6 Y6 B6 hmo hM
  go_wp2_with (first | ((with_reducible refine ld_arm HLD.out ?_ ?_); (· rfl)))
  refine bodyPost_ret (v := .agg M.toArray) ?_ rfl ⟨a4, c4, by rw [HM.out], (HR6.out.but2 (setCells_but (S := (· = w.heap.size)) (b := w.heap.size) rfl M 0 (But.refl _ w6)) (fun k hk e => by have := HR6.out.blk k hk; have := HLT.out; omega)).mono (by have := HLT.out; omega), HB4.out⟩
  have hlv := HLV.out
  simp [results, Try.results42, asAddr, hlv]
end Go.Proofs.Ytaffgoacbiedlaa
