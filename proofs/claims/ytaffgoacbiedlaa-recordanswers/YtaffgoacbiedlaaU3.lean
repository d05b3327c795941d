import Derived.Test.YtaffgoacbiedlaaU2
import Derived.Test.YtaffgoacbiedlaaT4
namespace Go.Proofs.Ytaffgoacbiedlaa
open Go.RowKit
set_option linter.unusedVariables false
set_option linter.unusedSimpArgs false

theorem get_is (a : Option Addr) (len cap : Nat) (R : List Nat) (p n : Nat) (w : World) (h : Row w a len cap R) (hp : p ≤ 1000) (hn : n ≤ 8) (hl : len ≤ 140737488355328) {v : Int} (hv : sv (gt R p n) = v) :
    Calls Try.prog 40 #[.slice a len cap, .int .i64 (p : Int), .int .i64 (n : Int)] w fun e w' => e = .returned (.int .i64 v) ∧ w' = w := by
  subst hv
  exact get_any a len cap R p n w h hp hn hl
theorem Bx.put {w : World} {b j : Nat} {L : List Value} (h : Bx w b L) (hj : j < L.length) (v : Value) : Bx (w.setCell ⟨b, j, none⟩ v) b (L.set j v) := by
  obtain ⟨v0, hv0⟩ := Option.isSome_iff_exists.1 (h.there j hj).1
  rw [Nat.zero_add] at hv0
  refine ⟨fun k u hu => ?_, fun k hk => ?_⟩
  · rw [Nat.zero_add]
    by_cases e : k = j
    · subst e
      rw [List.getElem?_set_self hj] at hu
      cases hu
      simp [go_sem, hv0]
    · rw [List.getElem?_set_ne (Ne.symm e)] at hu
      have := h.cell k hu
      simpa [go_sem, e] using this
  · rw [List.length_set] at hk
    obtain ⟨h1, h2⟩ := h.there k hk
    exact ⟨World.isSome_setCells b [v] j _ _ h1, by rw [← h2]; simp⟩
theorem Bx.off {w : World} {b b2 j : Nat} {L : List Value} (h : Bx w b L) (hb : b ≠ b2) (v : Value) : Bx (w.setCell ⟨b2, j, none⟩ v) b L :=
  h.but (S := fun k => k = b2) (setCells_but (S := fun k => k = b2) (b := b2) rfl [v] j (But.refl _ w)) hb
set_option maxRecDepth 100000 in
set_option maxHeartbeats 4000000 in
theorem guess1 (a : Option Addr) (len cap : Nat) (R : List Nat) (w : World) (h : Row w a len cap R) (hl : len ≤ 140737488355328) (y z : Nat) (h0 : sv (gt R 0 1) = 1) (h1 : sv (gt R 1 2) = (y : Int)) (h2 : sv (gt R 3 4) = (z : Int)) (hz : z < 4294967296) : Calls Try.prog 42 #[.slice a len cap] w fun e w' => e = .returned (.agg #[.int .i64 1, .int .i64 y, .int .i64 (sI z), .int .i64 0, .int .u64 0, .int .u64 0, .bool false, .int .i64 0, .int .i64 0, .int .i64 0, .slice none 0 0, .int .i64 0, .slice none 0 0]) ∧ Below w.heap.size w w' := by
  have HR := hid h
  have H0 := hid h0
  have H1 := hid h1
  have H2 := hid h2
  have HZ := hid hz
  clear h h0 h1
  clear h2 hz
  have mk0 := hid True.intro
  go_enter Try.func42, Try.ntmps42
  go_wp2_with (first | (clear mk0; go_at_call 40; refine (get_is a len cap R 0 1 _ (HR.out.later (below1 _ _)) (by omega) (by omega) hl H0.out).mono ?_; rintro e w9 ⟨rfl, hw9⟩; obtain rfl := hw9.symm; have mk1 := hid True.intro) | (clear mk1; go_at_call 40; refine (get_is a len cap R 1 2 _ (HR.out.later (below1 _ _)) (by omega) (by omega) hl H1.out).mono ?_; rintro e w9 ⟨rfl, hw9⟩; obtain rfl := hw9.symm; have mk2 := hid True.intro) | (clear mk2; go_at_call 40; refine (get_is a len cap R 3 4 _ (HR.out.later (below2 _ _ _)) (by omega) (by omega) hl H2.out).mono ?_; rintro e w9 ⟨rfl, hw9⟩; obtain rfl := hw9.symm; have mk3 := hid True.intro) | (clear mk3; go_at_call 66; refine (minus_any z _ HZ.out).mono ?_; rintro e w9 ⟨rfl, hw9⟩; obtain rfl := hw9.symm))
  exact bodyPost_ret (by simp [results, Try.results42, asAddr, load41m]) rfl ⟨rfl, below2 _ _ _⟩
set_option maxRecDepth 100000 in
set_option maxHeartbeats 4000000 in
theorem guess8 (a : Option Addr) (len cap : Nat) (R : List Nat) (w : World) (h : Row w a len cap R) (hl : len ≤ 140737488355328) (y z : Int) (h0 : sv (gt R 0 1) = 8) (h1 : sv (gt R 1 2) = y) (h2 : sv (gt R 3 2) = z) : Calls Try.prog 42 #[.slice a len cap] w fun e w' => e = .returned (.agg #[.int .i64 8, .int .i64 y, .int .i64 0, .int .i64 0, .int .u64 0, .int .u64 0, .bool false, .int .i64 0, .int .i64 0, .int .i64 0, .slice none 0 0, .int .i64 z, .slice none 0 0]) ∧ Below w.heap.size w w' := by
  have HR := hid h
  have H0 := hid h0
  have H1 := hid h1
  have H2 := hid h2
  clear h h0 h1
  clear h2
  have mk0 := hid True.intro
  go_enter Try.func42, Try.ntmps42
  go_wp2_with (first | (clear mk0; go_at_call 40; refine (get_is a len cap R 0 1 _ (HR.out.later (below1 _ _)) (by omega) (by omega) hl H0.out).mono ?_; rintro e w9 ⟨rfl, hw9⟩; obtain rfl := hw9.symm; have mk1 := hid True.intro) | (clear mk1; go_at_call 40; refine (get_is a len cap R 1 2 _ (HR.out.later (below1 _ _)) (by omega) (by omega) hl H1.out).mono ?_; rintro e w9 ⟨rfl, hw9⟩; obtain rfl := hw9.symm; have mk2 := hid True.intro) | (clear mk2; go_at_call 40; refine (get_is a len cap R 3 2 _ (HR.out.later (below2 _ _ _)) (by omega) (by omega) hl H2.out).mono ?_; rintro e w9 ⟨rfl, hw9⟩; obtain rfl := hw9.symm; have mk3 := hid True.intro))
  exact bodyPost_ret (by simp [results, Try.results42, asAddr, load41m]) rfl ⟨rfl, below2 _ _ _⟩
set_option maxRecDepth 100000 in
set_option maxHeartbeats 4000000 in
theorem guess0 (a : Option Addr) (len cap : Nat) (R : List Nat) (w : World) (h : Row w a len cap R) (hl : len ≤ 140737488355328) (x y : Int) (h0 : sv (gt R 0 1) = x) (h1 : sv (gt R 1 2) = y) (b1 : (x == 1) = false) (b2 : (x == 2) = false) (b3 : (x == 3) = false) (b4 : (x == 4) = false) (b5 : (x == 5) = false) (b6 : (x == 6) = false) (b7 : (x == 7) = false) (b8 : (x == 8) = false) (b9 : (x == 9) = false) : Calls Try.prog 42 #[.slice a len cap] w fun e w' => e = .returned (.agg #[.int .i64 x, .int .i64 y, .int .i64 0, .int .i64 0, .int .u64 0, .int .u64 0, .bool false, .int .i64 0, .int .i64 0, .int .i64 0, .slice none 0 0, .int .i64 0, .slice none 0 0]) ∧ Below w.heap.size w w' := by
  have HR := hid h
  have H0 := hid h0
  have H1 := hid h1
  clear h h0 h1
  have mk0 := hid True.intro
  go_enter Try.func42, Try.ntmps42
  go_wp2_with (first | (clear mk0; go_at_call 40; refine (get_is a len cap R 0 1 _ (HR.out.later (below1 _ _)) (by omega) (by omega) hl H0.out).mono ?_; rintro e w9 ⟨rfl, hw9⟩; obtain rfl := hw9.symm; have mk1 := hid True.intro) | (clear mk1; go_at_call 40; refine (get_is a len cap R 1 2 _ (HR.out.later (below1 _ _)) (by omega) (by omega) hl H1.out).mono ?_; rintro e w9 ⟨rfl, hw9⟩; obtain rfl := hw9.symm; have mk2 := hid True.intro))
  exact bodyPost_ret (by simp [results, Try.results42, asAddr, load41m]) rfl ⟨rfl, below2 _ _ _⟩
theorem bx3 (w : World) (y : Int) (o : Int) : Bx ((w.alloc (Obj.cells #[.int .i64 0, .int .i64 0, .int .i64 0, .int .i64 0, .int .u64 0, .int .u64 0, .bool false, .int .i64 0, .int .i64 0, .int .i64 0, .slice none 0 0, .int .i64 0, .slice none 0 0] 41)).alloc (Obj.cells #[.int .i64 o, .int .i64 y, .int .i64 0, .int .i64 0, .int .u64 0, .int .u64 0, .bool false, .int .i64 0, .int .i64 0, .int .i64 0, .slice none 0 0, .int .i64 0, .slice none 0 0] 41)) (w.heap.size + 1) [.int .i64 o, .int .i64 y, .int .i64 0, .int .i64 0, .int .u64 0, .int .u64 0, .bool false, .int .i64 0, .int .i64 0, .int .i64 0, .slice none 0 0, .int .i64 0, .slice none 0 0] := by
  have := Bx.new (w.alloc (Obj.cells #[.int .i64 0, .int .i64 0, .int .i64 0, .int .i64 0, .int .u64 0, .int .u64 0, .bool false, .int .i64 0, .int .i64 0, .int .i64 0, .slice none 0 0, .int .i64 0, .slice none 0 0] 41)) [.int .i64 o, .int .i64 y, .int .i64 0, .int .i64 0, .int .u64 0, .int .u64 0, .bool false, .int .i64 0, .int .i64 0, .int .i64 0, .slice none 0 0, .int .i64 0, .slice none 0 0] 41
  simp at this
  exact this
theorem bx2 (w : World) (y : Int) (o : Int) : Bx ((w.alloc (Obj.cells #[.int .i64 0, .int .i64 0, .int .i64 0, .int .i64 0, .int .u64 0, .int .u64 0, .bool false, .int .i64 0, .int .i64 0, .int .i64 0, .slice none 0 0, .int .i64 0, .slice none 0 0] 41)).alloc (Obj.cells #[.int .i64 o, .int .i64 y, .int .i64 0, .int .i64 0, .int .u64 0, .int .u64 0, .bool false, .int .i64 0, .int .i64 0, .int .i64 0, .slice none 0 0, .int .i64 0, .slice none 0 0] 41)) w.heap.size [.int .i64 0, .int .i64 0, .int .i64 0, .int .i64 0, .int .u64 0, .int .u64 0, .bool false, .int .i64 0, .int .i64 0, .int .i64 0, .slice none 0 0, .int .i64 0, .slice none 0 0] :=
  (Bx.new w [.int .i64 0, .int .i64 0, .int .i64 0, .int .i64 0, .int .u64 0, .int .u64 0, .bool false, .int .i64 0, .int .i64 0, .int .i64 0, .slice none 0 0, .int .i64 0, .slice none 0 0] 41).later (below1 _ _)
set_option maxRecDepth 100000 in
set_option maxHeartbeats 4000000 in
theorem guess2 (a : Option Addr) (len cap : Nat) (R : List Nat) (w : World) (h : Row w a len cap R) (hl : len ≤ 140737488355328) (y v : Int) (h0 : sv (gt R 0 1) = 2) (h1 : sv (gt R 1 2) = y) (h2 : sv (gt R 3 8) = v) : Calls Try.prog 42 #[.slice a len cap] w fun e w' => e = .returned (.agg #[.int .i64 2, .int .i64 y, .int .i64 0, .int .i64 v, .int .u64 (hiW R 11 : Int), .int .u64 (loW R 11 : Int), .bool false, .int .i64 0, .int .i64 0, .int .i64 0, .slice none 0 0, .int .i64 0, .slice none 0 0]) ∧ Below w.heap.size w w' := by
  have HR := hid h
  have H0 := hid h0
  have H1 := hid h1
  have H2 := hid h2
  clear h h0 h1
  clear h2
  have mk0 := hid True.intro
  go_enter Try.func42, Try.ntmps42
  go_upto_region 28 with (first | (clear mk0; go_at_call 40; refine (get_is a len cap R 0 1 _ (HR.out.later (below1 _ _)) (by omega) (by omega) hl H0.out).mono ?_; rintro e w9 ⟨rfl, hw9⟩; obtain rfl := hw9.symm; have mk1 := hid True.intro) | (clear mk1; go_at_call 40; refine (get_is a len cap R 1 2 _ (HR.out.later (below1 _ _)) (by omega) (by omega) hl H1.out).mono ?_; rintro e w9 ⟨rfl, hw9⟩; obtain rfl := hw9.symm; have mk2 := hid True.intro) | (clear mk2; go_at_call 40; refine (get_is a len cap R 3 8 _ (HR.out.later (below2 _ _ _)) (by omega) (by omega) hl H2.out).mono ?_; rintro e w9 ⟨rfl, hw9⟩; obtain rfl := hw9.symm; have mk3 := hid True.intro) | (clear mk3; go_at_call 41; refine (rgw_any a len cap R 11 _ (HR.out.later (below2 _ _ _)) (by omega) hl).mono ?_; rintro e w2 ⟨rfl, hb2⟩; have HX := hid ((bx3 w y 2).later hb2); have HY := hid ((bx2 w y 2).later hb2); have HB := hid (below_call (below2 w _ _) hb2); clear hb2; have z0 : w2.cell? ⟨w.heap.size + 1, 0, none⟩ = some (.int .i64 2) := HX.out.cell 0 rfl; have z3 : w2.cell? ⟨w.heap.size + 1, 3, none⟩ = some (.int .i64 0) := HX.out.cell 3 rfl; have f3 : w2.frozen? ⟨w.heap.size + 1, 3, none⟩ = false := (HX.out.there 3 (by simp)).2; have z4 : w2.cell? ⟨w.heap.size + 1, 4, none⟩ = some (.int .u64 0) := HX.out.cell 4 rfl; have f4 : w2.frozen? ⟨w.heap.size + 1, 4, none⟩ = false := (HX.out.there 4 (by simp)).2; have z5 : w2.cell? ⟨w.heap.size + 1, 5, none⟩ = some (.int .u64 0) := HX.out.cell 5 rfl; have f5 : w2.frozen? ⟨w.heap.size + 1, 5, none⟩ = false := (HX.out.there 5 (by simp)).2; have mk4 := hid True.intro))
  have X3 : Bx (((w2.setCell ⟨w.heap.size + 1, 3, none⟩ (.int .i64 v)).setCell ⟨w.heap.size + 1, 4, none⟩ (.int .u64 (hiW R 11 : Int))).setCell ⟨w.heap.size + 1, 5, none⟩ (.int .u64 (loW R 11 : Int))) (w.heap.size + 1) [.int .i64 2, .int .i64 y, .int .i64 0, .int .i64 v, .int .u64 (hiW R 11 : Int), .int .u64 (loW R 11 : Int), .bool false, .int .i64 0, .int .i64 0, .int .i64 0, .slice none 0 0, .int .i64 0, .slice none 0 0] := (Bx.put (Bx.put (Bx.put HX.out (j := 3) (by simp) _) (j := 4) (by simp) _) (j := 5) (by simp) _)
  have Y3 : Bx (((w2.setCell ⟨w.heap.size + 1, 3, none⟩ (.int .i64 v)).setCell ⟨w.heap.size + 1, 4, none⟩ (.int .u64 (hiW R 11 : Int))).setCell ⟨w.heap.size + 1, 5, none⟩ (.int .u64 (loW R 11 : Int))) w.heap.size [.int .i64 0, .int .i64 0, .int .i64 0, .int .i64 0, .int .u64 0, .int .u64 0, .bool false, .int .i64 0, .int .i64 0, .int .i64 0, .slice none 0 0, .int .i64 0, .slice none 0 0] := (Bx.off (Bx.off (Bx.off HY.out (by omega) _) (by omega) _) (by omega) _)
  have B3 : Below w.heap.size w (((w2.setCell ⟨w.heap.size + 1, 3, none⟩ (.int .i64 v)).setCell ⟨w.heap.size + 1, 4, none⟩ (.int .u64 (hiW R 11 : Int))).setCell ⟨w.heap.size + 1, 5, none⟩ (.int .u64 (loW R 11 : Int))) := (Below.setCell (Below.setCell (Below.setCell HB.out (Nat.le_succ _) _) (Nat.le_succ _) _) (Nat.le_succ _) _)
  generalize (((w2.setCell ⟨w.heap.size + 1, 3, none⟩ (.int .i64 v)).setCell ⟨w.heap.size + 1, 4, none⟩ (.int .u64 (hiW R 11 : Int))).setCell ⟨w.heap.size + 1, 5, none⟩ (.int .u64 (loW R 11 : Int))) = w3 at X3 Y3 B3 ⊢
  obtain ⟨M, hM⟩ : ∃ M : List Value, M = [.int .i64 2, .int .i64 y, .int .i64 0, .int .i64 v, .int .u64 (hiW R 11 : Int), .int .u64 (loW R 11 : Int), .bool false, .int .i64 0, .int .i64 0, .int .i64 0, .slice none 0 0, .int .i64 0, .slice none 0 0] := ⟨_, rfl⟩
  rw [← hM] at X3
  have hml : M.length = 13 := by rw [hM]; rfl
  have hmo : ∀ v ∈ M, v.oneCell' = true := by rw [hM]; simp [Value.oneCell']
  have HLD := hid (ld41 X3.range hml)
  have hst := stc (n := 13) Y3.there hml hmo
  have HLV := hid (lv41 (Y3.set (M := M) hml).range hml)
  have HB4 : Hid (Below w.heap.size w (w3.setCells w.heap.size 0 M)) := But.below B3 (setCells_but (S := (· = w.heap.size)) rfl M 0 (But.refl _ _)) (fun k hk => by omega)
  have HM := hid hM
  clear X3 Y3 B3 hmo hM HX HY HB z0 z3 f3 z4 f4 z5 f5
  go_wp2_with (first | ((with_reducible refine ld_arm HLD.out ?_ ?_); (· rfl)))
  refine bodyPost_ret (v := .agg M.toArray) ?_ rfl ⟨by rw [HM.out], HB4.out⟩
  have hlv := HLV.out
  simp [results, Try.results42, asAddr, hlv]
set_option maxRecDepth 100000 in
set_option maxHeartbeats 4000000 in
theorem guess4 (a : Option Addr) (len cap : Nat) (R : List Nat) (w : World) (h : Row w a len cap R) (hl : len ≤ 140737488355328) (y v : Int) (h0 : sv (gt R 0 1) = 4) (h1 : sv (gt R 1 2) = y) (h2 : sv (gt R 3 8) = v) : Calls Try.prog 42 #[.slice a len cap] w fun e w' => e = .returned (.agg #[.int .i64 4, .int .i64 y, .int .i64 0, .int .i64 v, .int .u64 (hiW R 11 : Int), .int .u64 (loW R 11 : Int), .bool false, .int .i64 0, .int .i64 0, .int .i64 0, .slice none 0 0, .int .i64 0, .slice none 0 0]) ∧ Below w.heap.size w w' := by
  have HR := hid h
  have H0 := hid h0
  have H1 := hid h1
  have H2 := hid h2
  clear h h0 h1
  clear h2
  have mk0 := hid True.intro
  go_enter Try.func42, Try.ntmps42
  go_upto_region 28 with (first | (clear mk0; go_at_call 40; refine (get_is a len cap R 0 1 _ (HR.out.later (below1 _ _)) (by omega) (by omega) hl H0.out).mono ?_; rintro e w9 ⟨rfl, hw9⟩; obtain rfl := hw9.symm; have mk1 := hid True.intro) | (clear mk1; go_at_call 40; refine (get_is a len cap R 1 2 _ (HR.out.later (below1 _ _)) (by omega) (by omega) hl H1.out).mono ?_; rintro e w9 ⟨rfl, hw9⟩; obtain rfl := hw9.symm; have mk2 := hid True.intro) | (clear mk2; go_at_call 40; refine (get_is a len cap R 3 8 _ (HR.out.later (below2 _ _ _)) (by omega) (by omega) hl H2.out).mono ?_; rintro e w9 ⟨rfl, hw9⟩; obtain rfl := hw9.symm; have mk3 := hid True.intro) | (clear mk3; go_at_call 41; refine (rgw_any a len cap R 11 _ (HR.out.later (below2 _ _ _)) (by omega) hl).mono ?_; rintro e w2 ⟨rfl, hb2⟩; have HX := hid ((bx3 w y 4).later hb2); have HY := hid ((bx2 w y 4).later hb2); have HB := hid (below_call (below2 w _ _) hb2); clear hb2; have z0 : w2.cell? ⟨w.heap.size + 1, 0, none⟩ = some (.int .i64 4) := HX.out.cell 0 rfl; have z3 : w2.cell? ⟨w.heap.size + 1, 3, none⟩ = some (.int .i64 0) := HX.out.cell 3 rfl; have f3 : w2.frozen? ⟨w.heap.size + 1, 3, none⟩ = false := (HX.out.there 3 (by simp)).2; have z4 : w2.cell? ⟨w.heap.size + 1, 4, none⟩ = some (.int .u64 0) := HX.out.cell 4 rfl; have f4 : w2.frozen? ⟨w.heap.size + 1, 4, none⟩ = false := (HX.out.there 4 (by simp)).2; have z5 : w2.cell? ⟨w.heap.size + 1, 5, none⟩ = some (.int .u64 0) := HX.out.cell 5 rfl; have f5 : w2.frozen? ⟨w.heap.size + 1, 5, none⟩ = false := (HX.out.there 5 (by simp)).2; have mk4 := hid True.intro))
  have X3 : Bx (((w2.setCell ⟨w.heap.size + 1, 3, none⟩ (.int .i64 v)).setCell ⟨w.heap.size + 1, 4, none⟩ (.int .u64 (hiW R 11 : Int))).setCell ⟨w.heap.size + 1, 5, none⟩ (.int .u64 (loW R 11 : Int))) (w.heap.size + 1) [.int .i64 4, .int .i64 y, .int .i64 0, .int .i64 v, .int .u64 (hiW R 11 : Int), .int .u64 (loW R 11 : Int), .bool false, .int .i64 0, .int .i64 0, .int .i64 0, .slice none 0 0, .int .i64 0, .slice none 0 0] := (Bx.put (Bx.put (Bx.put HX.out (j := 3) (by simp) _) (j := 4) (by simp) _) (j := 5) (by simp) _)
  have Y3 : Bx (((w2.setCell ⟨w.heap.size + 1, 3, none⟩ (.int .i64 v)).setCell ⟨w.heap.size + 1, 4, none⟩ (.int .u64 (hiW R 11 : Int))).setCell ⟨w.heap.size + 1, 5, none⟩ (.int .u64 (loW R 11 : Int))) w.heap.size [.int .i64 0, .int .i64 0, .int .i64 0, .int .i64 0, .int .u64 0, .int .u64 0, .bool false, .int .i64 0, .int .i64 0, .int .i64 0, .slice none 0 0, .int .i64 0, .slice none 0 0] := (Bx.off (Bx.off (Bx.off HY.out (by omega) _) (by omega) _) (by omega) _)
  have B3 : Below w.heap.size w (((w2.setCell ⟨w.heap.size + 1, 3, none⟩ (.int .i64 v)).setCell ⟨w.heap.size + 1, 4, none⟩ (.int .u64 (hiW R 11 : Int))).setCell ⟨w.heap.size + 1, 5, none⟩ (.int .u64 (loW R 11 : Int))) := (Below.setCell (Below.setCell (Below.setCell HB.out (Nat.le_succ _) _) (Nat.le_succ _) _) (Nat.le_succ _) _)
  generalize (((w2.setCell ⟨w.heap.size + 1, 3, none⟩ (.int .i64 v)).setCell ⟨w.heap.size + 1, 4, none⟩ (.int .u64 (hiW R 11 : Int))).setCell ⟨w.heap.size + 1, 5, none⟩ (.int .u64 (loW R 11 : Int))) = w3 at X3 Y3 B3 ⊢
  obtain ⟨M, hM⟩ : ∃ M : List Value, M = [.int .i64 4, .int .i64 y, .int .i64 0, .int .i64 v, .int .u64 (hiW R 11 : Int), .int .u64 (loW R 11 : Int), .bool false, .int .i64 0, .int .i64 0, .int .i64 0, .slice none 0 0, .int .i64 0, .slice none 0 0] := ⟨_, rfl⟩
  rw [← hM] at X3
  have hml : M.length = 13 := by rw [hM]; rfl
  have hmo : ∀ v ∈ M, v.oneCell' = true := by rw [hM]; simp [Value.oneCell']
  have HLD := hid (ld41 X3.range hml)
  have hst := stc (n := 13) Y3.there hml hmo
  have HLV := hid (lv41 (Y3.set (M := M) hml).range hml)
  have HB4 : Hid (Below w.heap.size w (w3.setCells w.heap.size 0 M)) := But.below B3 (setCells_but (S := (· = w.heap.size)) rfl M 0 (But.refl _ _)) (fun k hk => by omega)
  have HM := hid hM
  clear X3 Y3 B3 hmo hM HX HY HB z0 z3 f3 z4 f4 z5 f5
  go_wp2_with (first | ((with_reducible refine ld_arm HLD.out ?_ ?_); (· rfl)))
  refine bodyPost_ret (v := .agg M.toArray) ?_ rfl ⟨by rw [HM.out], HB4.out⟩
  have hlv := HLV.out
  simp [results, Try.results42, asAddr, hlv]
set_option maxRecDepth 100000 in
set_option maxHeartbeats 4000000 in
theorem guess7 (a : Option Addr) (len cap : Nat) (R : List Nat) (w : World) (h : Row w a len cap R) (hl : len ≤ 140737488355328) (y v : Int) (h0 : sv (gt R 0 1) = 7) (h1 : sv (gt R 1 2) = y) (h2 : sv (gt R 3 8) = v) : Calls Try.prog 42 #[.slice a len cap] w fun e w' => e = .returned (.agg #[.int .i64 7, .int .i64 y, .int .i64 0, .int .i64 v, .int .u64 (hiW R 11 : Int), .int .u64 (loW R 11 : Int), .bool false, .int .i64 0, .int .i64 0, .int .i64 0, .slice none 0 0, .int .i64 0, .slice none 0 0]) ∧ Below w.heap.size w w' := by
  have HR := hid h
  have H0 := hid h0
  have H1 := hid h1
  have H2 := hid h2
  clear h h0 h1
  clear h2
  have mk0 := hid True.intro
  go_enter Try.func42, Try.ntmps42
  go_upto_region 28 with (first | (clear mk0; go_at_call 40; refine (get_is a len cap R 0 1 _ (HR.out.later (below1 _ _)) (by omega) (by omega) hl H0.out).mono ?_; rintro e w9 ⟨rfl, hw9⟩; obtain rfl := hw9.symm; have mk1 := hid True.intro) | (clear mk1; go_at_call 40; refine (get_is a len cap R 1 2 _ (HR.out.later (below1 _ _)) (by omega) (by omega) hl H1.out).mono ?_; rintro e w9 ⟨rfl, hw9⟩; obtain rfl := hw9.symm; have mk2 := hid True.intro) | (clear mk2; go_at_call 40; refine (get_is a len cap R 3 8 _ (HR.out.later (below2 _ _ _)) (by omega) (by omega) hl H2.out).mono ?_; rintro e w9 ⟨rfl, hw9⟩; obtain rfl := hw9.symm; have mk3 := hid True.intro) | (clear mk3; go_at_call 41; refine (rgw_any a len cap R 11 _ (HR.out.later (below2 _ _ _)) (by omega) hl).mono ?_; rintro e w2 ⟨rfl, hb2⟩; have HX := hid ((bx3 w y 7).later hb2); have HY := hid ((bx2 w y 7).later hb2); have HB := hid (below_call (below2 w _ _) hb2); clear hb2; have z0 : w2.cell? ⟨w.heap.size + 1, 0, none⟩ = some (.int .i64 7) := HX.out.cell 0 rfl; have z3 : w2.cell? ⟨w.heap.size + 1, 3, none⟩ = some (.int .i64 0) := HX.out.cell 3 rfl; have f3 : w2.frozen? ⟨w.heap.size + 1, 3, none⟩ = false := (HX.out.there 3 (by simp)).2; have z4 : w2.cell? ⟨w.heap.size + 1, 4, none⟩ = some (.int .u64 0) := HX.out.cell 4 rfl; have f4 : w2.frozen? ⟨w.heap.size + 1, 4, none⟩ = false := (HX.out.there 4 (by simp)).2; have z5 : w2.cell? ⟨w.heap.size + 1, 5, none⟩ = some (.int .u64 0) := HX.out.cell 5 rfl; have f5 : w2.frozen? ⟨w.heap.size + 1, 5, none⟩ = false := (HX.out.there 5 (by simp)).2; have mk4 := hid True.intro))
  have X3 : Bx (((w2.setCell ⟨w.heap.size + 1, 3, none⟩ (.int .i64 v)).setCell ⟨w.heap.size + 1, 4, none⟩ (.int .u64 (hiW R 11 : Int))).setCell ⟨w.heap.size + 1, 5, none⟩ (.int .u64 (loW R 11 : Int))) (w.heap.size + 1) [.int .i64 7, .int .i64 y, .int .i64 0, .int .i64 v, .int .u64 (hiW R 11 : Int), .int .u64 (loW R 11 : Int), .bool false, .int .i64 0, .int .i64 0, .int .i64 0, .slice none 0 0, .int .i64 0, .slice none 0 0] := (Bx.put (Bx.put (Bx.put HX.out (j := 3) (by simp) _) (j := 4) (by simp) _) (j := 5) (by simp) _)
  have Y3 : Bx (((w2.setCell ⟨w.heap.size + 1, 3, none⟩ (.int .i64 v)).setCell ⟨w.heap.size + 1, 4, none⟩ (.int .u64 (hiW R 11 : Int))).setCell ⟨w.heap.size + 1, 5, none⟩ (.int .u64 (loW R 11 : Int))) w.heap.size [.int .i64 0, .int .i64 0, .int .i64 0, .int .i64 0, .int .u64 0, .int .u64 0, .bool false, .int .i64 0, .int .i64 0, .int .i64 0, .slice none 0 0, .int .i64 0, .slice none 0 0] := (Bx.off (Bx.off (Bx.off HY.out (by omega) _) (by omega) _) (by omega) _)
  have B3 : Below w.heap.size w (((w2.setCell ⟨w.heap.size + 1, 3, none⟩ (.int .i64 v)).setCell ⟨w.heap.size + 1, 4, none⟩ (.int .u64 (hiW R 11 : Int))).setCell ⟨w.heap.size + 1, 5, none⟩ (.int .u64 (loW R 11 : Int))) := (Below.setCell (Below.setCell (Below.setCell HB.out (Nat.le_succ _) _) (Nat.le_succ _) _) (Nat.le_succ _) _)
  generalize (((w2.setCell ⟨w.heap.size + 1, 3, none⟩ (.int .i64 v)).setCell ⟨w.heap.size + 1, 4, none⟩ (.int .u64 (hiW R 11 : Int))).setCell ⟨w.heap.size + 1, 5, none⟩ (.int .u64 (loW R 11 : Int))) = w3 at X3 Y3 B3 ⊢
  obtain ⟨M, hM⟩ : ∃ M : List Value, M = [.int .i64 7, .int .i64 y, .int .i64 0, .int .i64 v, .int .u64 (hiW R 11 : Int), .int .u64 (loW R 11 : Int), .bool false, .int .i64 0, .int .i64 0, .int .i64 0, .slice none 0 0, .int .i64 0, .slice none 0 0] := ⟨_, rfl⟩
  rw [← hM] at X3
  have hml : M.length = 13 := by rw [hM]; rfl
  have hmo : ∀ v ∈ M, v.oneCell' = true := by rw [hM]; simp [Value.oneCell']
  have HLD := hid (ld41 X3.range hml)
  have hst := stc (n := 13) Y3.there hml hmo
  have HLV := hid (lv41 (Y3.set (M := M) hml).range hml)
  have HB4 : Hid (Below w.heap.size w (w3.setCells w.heap.size 0 M)) := But.below B3 (setCells_but (S := (· = w.heap.size)) rfl M 0 (But.refl _ _)) (fun k hk => by omega)
  have HM := hid hM
  clear X3 Y3 B3 hmo hM HX HY HB z0 z3 f3 z4 f4 z5 f5
  go_wp2_with (first | ((with_reducible refine ld_arm HLD.out ?_ ?_); (· rfl)))
  refine bodyPost_ret (v := .agg M.toArray) ?_ rfl ⟨by rw [HM.out], HB4.out⟩
  have hlv := HLV.out
  simp [results, Try.results42, asAddr, hlv]
set_option maxRecDepth 100000 in
set_option maxHeartbeats 4000000 in
theorem guess3 (a : Option Addr) (len cap : Nat) (R : List Nat) (w : World) (h : Row w a len cap R) (hl : len ≤ 140737488355328) (y v : Int) (r : Int) (h0 : sv (gt R 0 1) = 3) (h1 : sv (gt R 1 2) = y) (h2 : sv (gt R 3 8) = v) (h3 : sv (gt R 27 1) = r) : Calls Try.prog 42 #[.slice a len cap] w fun e w' => e = .returned (.agg #[.int .i64 3, .int .i64 y, .int .i64 0, .int .i64 v, .int .u64 (hiW R 11 : Int), .int .u64 (loW R 11 : Int), .bool false, .int .i64 r, .int .i64 0, .int .i64 0, .slice none 0 0, .int .i64 0, .slice none 0 0]) ∧ Below w.heap.size w w' := by
  have HR := hid h
  have H0 := hid h0
  have H1 := hid h1
  have H2 := hid h2
  have H3 := hid h3
  clear h h0 h1
  clear h2 h3
  have mk0 := hid True.intro
  go_enter Try.func42, Try.ntmps42
  go_upto_region 28 with (first | (clear mk0; go_at_call 40; refine (get_is a len cap R 0 1 _ (HR.out.later (below1 _ _)) (by omega) (by omega) hl H0.out).mono ?_; rintro e w9 ⟨rfl, hw9⟩; obtain rfl := hw9.symm; have mk1 := hid True.intro) | (clear mk1; go_at_call 40; refine (get_is a len cap R 1 2 _ (HR.out.later (below1 _ _)) (by omega) (by omega) hl H1.out).mono ?_; rintro e w9 ⟨rfl, hw9⟩; obtain rfl := hw9.symm; have mk2 := hid True.intro) | (clear mk2; go_at_call 40; refine (get_is a len cap R 3 8 _ (HR.out.later (below2 _ _ _)) (by omega) (by omega) hl H2.out).mono ?_; rintro e w9 ⟨rfl, hw9⟩; obtain rfl := hw9.symm; have mk3 := hid True.intro) | (clear mk3; go_at_call 41; refine (rgw_any a len cap R 11 _ (HR.out.later (below2 _ _ _)) (by omega) hl).mono ?_; rintro e w2 ⟨rfl, hb2⟩; have HX := hid ((bx3 w y 3).later hb2); have HY := hid ((bx2 w y 3).later hb2); have HB := hid (below_call (below2 w _ _) hb2); clear hb2; have z0 : w2.cell? ⟨w.heap.size + 1, 0, none⟩ = some (.int .i64 3) := HX.out.cell 0 rfl; have z3 : w2.cell? ⟨w.heap.size + 1, 3, none⟩ = some (.int .i64 0) := HX.out.cell 3 rfl; have f3 : w2.frozen? ⟨w.heap.size + 1, 3, none⟩ = false := (HX.out.there 3 (by simp)).2; have z4 : w2.cell? ⟨w.heap.size + 1, 4, none⟩ = some (.int .u64 0) := HX.out.cell 4 rfl; have f4 : w2.frozen? ⟨w.heap.size + 1, 4, none⟩ = false := (HX.out.there 4 (by simp)).2; have z5 : w2.cell? ⟨w.heap.size + 1, 5, none⟩ = some (.int .u64 0) := HX.out.cell 5 rfl; have f5 : w2.frozen? ⟨w.heap.size + 1, 5, none⟩ = false := (HX.out.there 5 (by simp)).2; have z7 : w2.cell? ⟨w.heap.size + 1, 7, none⟩ = some (.int .i64 0) := HX.out.cell 7 rfl; have f7 : w2.frozen? ⟨w.heap.size + 1, 7, none⟩ = false := (HX.out.there 7 (by simp)).2; have mk4 := hid True.intro) | (clear mk4; go_at_call 40; refine (get_is a len cap R 27 1 _ (HR.out.later (Below.setCell (Below.setCell (Below.setCell HB.out (Nat.le_succ _) _) (Nat.le_succ _) _) (Nat.le_succ _) _)) (by omega) (by omega) hl H3.out).mono ?_; rintro e w9 ⟨rfl, hw9⟩; obtain rfl := hw9.symm; have mk5 := hid True.intro))
  have X3 : Bx ((((w2.setCell ⟨w.heap.size + 1, 3, none⟩ (.int .i64 v)).setCell ⟨w.heap.size + 1, 4, none⟩ (.int .u64 (hiW R 11 : Int))).setCell ⟨w.heap.size + 1, 5, none⟩ (.int .u64 (loW R 11 : Int))).setCell ⟨w.heap.size + 1, 7, none⟩ (.int .i64 r)) (w.heap.size + 1) [.int .i64 3, .int .i64 y, .int .i64 0, .int .i64 v, .int .u64 (hiW R 11 : Int), .int .u64 (loW R 11 : Int), .bool false, .int .i64 r, .int .i64 0, .int .i64 0, .slice none 0 0, .int .i64 0, .slice none 0 0] := (Bx.put (Bx.put (Bx.put (Bx.put HX.out (j := 3) (by simp) _) (j := 4) (by simp) _) (j := 5) (by simp) _) (j := 7) (by simp) _)
  have Y3 : Bx ((((w2.setCell ⟨w.heap.size + 1, 3, none⟩ (.int .i64 v)).setCell ⟨w.heap.size + 1, 4, none⟩ (.int .u64 (hiW R 11 : Int))).setCell ⟨w.heap.size + 1, 5, none⟩ (.int .u64 (loW R 11 : Int))).setCell ⟨w.heap.size + 1, 7, none⟩ (.int .i64 r)) w.heap.size [.int .i64 0, .int .i64 0, .int .i64 0, .int .i64 0, .int .u64 0, .int .u64 0, .bool false, .int .i64 0, .int .i64 0, .int .i64 0, .slice none 0 0, .int .i64 0, .slice none 0 0] := (Bx.off (Bx.off (Bx.off (Bx.off HY.out (by omega) _) (by omega) _) (by omega) _) (by omega) _)
  have B3 : Below w.heap.size w ((((w2.setCell ⟨w.heap.size + 1, 3, none⟩ (.int .i64 v)).setCell ⟨w.heap.size + 1, 4, none⟩ (.int .u64 (hiW R 11 : Int))).setCell ⟨w.heap.size + 1, 5, none⟩ (.int .u64 (loW R 11 : Int))).setCell ⟨w.heap.size + 1, 7, none⟩ (.int .i64 r)) := (Below.setCell (Below.setCell (Below.setCell (Below.setCell HB.out (Nat.le_succ _) _) (Nat.le_succ _) _) (Nat.le_succ _) _) (Nat.le_succ _) _)
  generalize ((((w2.setCell ⟨w.heap.size + 1, 3, none⟩ (.int .i64 v)).setCell ⟨w.heap.size + 1, 4, none⟩ (.int .u64 (hiW R 11 : Int))).setCell ⟨w.heap.size + 1, 5, none⟩ (.int .u64 (loW R 11 : Int))).setCell ⟨w.heap.size + 1, 7, none⟩ (.int .i64 r)) = w3 at X3 Y3 B3 ⊢
  obtain ⟨M, hM⟩ : ∃ M : List Value, M = [.int .i64 3, .int .i64 y, .int .i64 0, .int .i64 v, .int .u64 (hiW R 11 : Int), .int .u64 (loW R 11 : Int), .bool false, .int .i64 r, .int .i64 0, .int .i64 0, .slice none 0 0, .int .i64 0, .slice none 0 0] := ⟨_, rfl⟩
  rw [← hM] at X3
  have hml : M.length = 13 := by rw [hM]; rfl
  have hmo : ∀ v ∈ M, v.oneCell' = true := by rw [hM]; simp [Value.oneCell']
  have HLD := hid (ld41 X3.range hml)
  have hst := stc (n := 13) Y3.there hml hmo
  have HLV := hid (lv41 (Y3.set (M := M) hml).range hml)
  have HB4 : Hid (Below w.heap.size w (w3.setCells w.heap.size 0 M)) := But.below B3 (setCells_but (S := (· = w.heap.size)) rfl M 0 (But.refl _ _)) (fun k hk => by omega)
  have HM := hid hM
  clear X3 Y3 B3 hmo hM HX HY HB z0 z3 f3 z4 f4 z5 f5 z7 f7
  go_wp2_with (first | ((with_reducible refine ld_arm HLD.out ?_ ?_); (· rfl)))
  refine bodyPost_ret (v := .agg M.toArray) ?_ rfl ⟨by rw [HM.out], HB4.out⟩
  have hlv := HLV.out
  simp [results, Try.results42, asAddr, hlv]
set_option maxRecDepth 100000 in
set_option maxHeartbeats 4000000 in
theorem guess5t (a : Option Addr) (len cap : Nat) (R : List Nat) (w : World) (h : Row w a len cap R) (hl : len ≤ 140737488355328) (y v : Int) (g : Int) (z1 z2 : Nat) (h0 : sv (gt R 0 1) = 5) (h1 : sv (gt R 1 2) = y) (h2 : sv (gt R 3 8) = v) (h3 : sv (gt R 11 1) = g) (h4 : sv (gt R 28 4) = (z1 : Int)) (h5 : sv (gt R 32 4) = (z2 : Int)) (hz1 : z1 < 4294967296) (hz2 : z2 < 4294967296) (hg : (g == 1) = true) : Calls Try.prog 42 #[.slice a len cap] w fun e w' => e = .returned (.agg #[.int .i64 5, .int .i64 y, .int .i64 0, .int .i64 v, .int .u64 (hiW R 12 : Int), .int .u64 (loW R 12 : Int), .bool true, .int .i64 0, .int .i64 (sI z1), .int .i64 (sI z2), .slice none 0 0, .int .i64 0, .slice none 0 0]) ∧ Below w.heap.size w w' := by
  have HR := hid h
  have H0 := hid h0
  have H1 := hid h1
  have H2 := hid h2
  have H3 := hid h3
  have H4 := hid h4
  have H5 := hid h5
  have HZ1 := hid hz1
  have HZ2 := hid hz2
  clear h h0 h1
  clear h2 h3 h4 h5 hz1 hz2
  have mk0 := hid True.intro
  go_enter Try.func42, Try.ntmps42
  go_upto_region 28 with (first | (clear mk0; go_at_call 40; refine (get_is a len cap R 0 1 _ (HR.out.later (below1 _ _)) (by omega) (by omega) hl H0.out).mono ?_; rintro e w9 ⟨rfl, hw9⟩; obtain rfl := hw9.symm; have mk1 := hid True.intro) | (clear mk1; go_at_call 40; refine (get_is a len cap R 1 2 _ (HR.out.later (below1 _ _)) (by omega) (by omega) hl H1.out).mono ?_; rintro e w9 ⟨rfl, hw9⟩; obtain rfl := hw9.symm; have mk2 := hid True.intro) | (clear mk2; go_at_call 40; refine (get_is a len cap R 3 8 _ (HR.out.later (below2 _ _ _)) (by omega) (by omega) hl H2.out).mono ?_; rintro e w9 ⟨rfl, hw9⟩; obtain rfl := hw9.symm; have mk3 := hid True.intro) | (clear mk3; go_at_call 41; refine (rgw_any a len cap R 12 _ (HR.out.later (below2 _ _ _)) (by omega) hl).mono ?_; rintro e w2 ⟨rfl, hb2⟩; have HX := hid ((bx3 w y 5).later hb2); have HY := hid ((bx2 w y 5).later hb2); have HB := hid (below_call (below2 w _ _) hb2); clear hb2; have z0 : w2.cell? ⟨w.heap.size + 1, 0, none⟩ = some (.int .i64 5) := HX.out.cell 0 rfl; have z3 : w2.cell? ⟨w.heap.size + 1, 3, none⟩ = some (.int .i64 0) := HX.out.cell 3 rfl; have f3 : w2.frozen? ⟨w.heap.size + 1, 3, none⟩ = false := (HX.out.there 3 (by simp)).2; have z4 : w2.cell? ⟨w.heap.size + 1, 4, none⟩ = some (.int .u64 0) := HX.out.cell 4 rfl; have f4 : w2.frozen? ⟨w.heap.size + 1, 4, none⟩ = false := (HX.out.there 4 (by simp)).2; have z5 : w2.cell? ⟨w.heap.size + 1, 5, none⟩ = some (.int .u64 0) := HX.out.cell 5 rfl; have f5 : w2.frozen? ⟨w.heap.size + 1, 5, none⟩ = false := (HX.out.there 5 (by simp)).2; have z6 : w2.cell? ⟨w.heap.size + 1, 6, none⟩ = some (.bool false) := HX.out.cell 6 rfl; have f6 : w2.frozen? ⟨w.heap.size + 1, 6, none⟩ = false := (HX.out.there 6 (by simp)).2; have z8 : w2.cell? ⟨w.heap.size + 1, 8, none⟩ = some (.int .i64 0) := HX.out.cell 8 rfl; have f8 : w2.frozen? ⟨w.heap.size + 1, 8, none⟩ = false := (HX.out.there 8 (by simp)).2; have z9 : w2.cell? ⟨w.heap.size + 1, 9, none⟩ = some (.int .i64 0) := HX.out.cell 9 rfl; have f9 : w2.frozen? ⟨w.heap.size + 1, 9, none⟩ = false := (HX.out.there 9 (by simp)).2; have mk4 := hid True.intro) | (clear mk4; go_at_call 40; refine (get_is a len cap R 11 1 _ (HR.out.later (Below.setCell (Below.setCell (Below.setCell HB.out (Nat.le_succ _) _) (Nat.le_succ _) _) (Nat.le_succ _) _)) (by omega) (by omega) hl H3.out).mono ?_; rintro e w9 ⟨rfl, hw9⟩; obtain rfl := hw9.symm; have mk5 := hid True.intro) | (clear mk5; go_at_call 40; refine (get_is a len cap R 28 4 _ (HR.out.later (Below.setCell (Below.setCell (Below.setCell (Below.setCell HB.out (Nat.le_succ _) _) (Nat.le_succ _) _) (Nat.le_succ _) _) (Nat.le_succ _) _)) (by omega) (by omega) hl H4.out).mono ?_; rintro e w9 ⟨rfl, hw9⟩; obtain rfl := hw9.symm; have mk6 := hid True.intro) | (clear mk6; go_at_call 66; refine (minus_any z1 _ HZ1.out).mono ?_; rintro e w9 ⟨rfl, hw9⟩; obtain rfl := hw9.symm; have mk7 := hid True.intro) | (clear mk7; go_at_call 40; refine (get_is a len cap R 32 4 _ (HR.out.later (Below.setCell (Below.setCell (Below.setCell (Below.setCell (Below.setCell HB.out (Nat.le_succ _) _) (Nat.le_succ _) _) (Nat.le_succ _) _) (Nat.le_succ _) _) (Nat.le_succ _) _)) (by omega) (by omega) hl H5.out).mono ?_; rintro e w9 ⟨rfl, hw9⟩; obtain rfl := hw9.symm; have mk8 := hid True.intro) | (clear mk8; go_at_call 66; refine (minus_any z2 _ HZ2.out).mono ?_; rintro e w9 ⟨rfl, hw9⟩; obtain rfl := hw9.symm; have mk9 := hid True.intro))
  have X3 : Bx ((((((w2.setCell ⟨w.heap.size + 1, 3, none⟩ (.int .i64 v)).setCell ⟨w.heap.size + 1, 4, none⟩ (.int .u64 (hiW R 12 : Int))).setCell ⟨w.heap.size + 1, 5, none⟩ (.int .u64 (loW R 12 : Int))).setCell ⟨w.heap.size + 1, 6, none⟩ (.bool true)).setCell ⟨w.heap.size + 1, 8, none⟩ (.int .i64 (sI z1))).setCell ⟨w.heap.size + 1, 9, none⟩ (.int .i64 (sI z2))) (w.heap.size + 1) [.int .i64 5, .int .i64 y, .int .i64 0, .int .i64 v, .int .u64 (hiW R 12 : Int), .int .u64 (loW R 12 : Int), .bool true, .int .i64 0, .int .i64 (sI z1), .int .i64 (sI z2), .slice none 0 0, .int .i64 0, .slice none 0 0] := (Bx.put (Bx.put (Bx.put (Bx.put (Bx.put (Bx.put HX.out (j := 3) (by simp) _) (j := 4) (by simp) _) (j := 5) (by simp) _) (j := 6) (by simp) _) (j := 8) (by simp) _) (j := 9) (by simp) _)
  have Y3 : Bx ((((((w2.setCell ⟨w.heap.size + 1, 3, none⟩ (.int .i64 v)).setCell ⟨w.heap.size + 1, 4, none⟩ (.int .u64 (hiW R 12 : Int))).setCell ⟨w.heap.size + 1, 5, none⟩ (.int .u64 (loW R 12 : Int))).setCell ⟨w.heap.size + 1, 6, none⟩ (.bool true)).setCell ⟨w.heap.size + 1, 8, none⟩ (.int .i64 (sI z1))).setCell ⟨w.heap.size + 1, 9, none⟩ (.int .i64 (sI z2))) w.heap.size [.int .i64 0, .int .i64 0, .int .i64 0, .int .i64 0, .int .u64 0, .int .u64 0, .bool false, .int .i64 0, .int .i64 0, .int .i64 0, .slice none 0 0, .int .i64 0, .slice none 0 0] := (Bx.off (Bx.off (Bx.off (Bx.off (Bx.off (Bx.off HY.out (by omega) _) (by omega) _) (by omega) _) (by omega) _) (by omega) _) (by omega) _)
  have B3 : Below w.heap.size w ((((((w2.setCell ⟨w.heap.size + 1, 3, none⟩ (.int .i64 v)).setCell ⟨w.heap.size + 1, 4, none⟩ (.int .u64 (hiW R 12 : Int))).setCell ⟨w.heap.size + 1, 5, none⟩ (.int .u64 (loW R 12 : Int))).setCell ⟨w.heap.size + 1, 6, none⟩ (.bool true)).setCell ⟨w.heap.size + 1, 8, none⟩ (.int .i64 (sI z1))).setCell ⟨w.heap.size + 1, 9, none⟩ (.int .i64 (sI z2))) := (Below.setCell (Below.setCell (Below.setCell (Below.setCell (Below.setCell (Below.setCell HB.out (Nat.le_succ _) _) (Nat.le_succ _) _) (Nat.le_succ _) _) (Nat.le_succ _) _) (Nat.le_succ _) _) (Nat.le_succ _) _)
  generalize ((((((w2.setCell ⟨w.heap.size + 1, 3, none⟩ (.int .i64 v)).setCell ⟨w.heap.size + 1, 4, none⟩ (.int .u64 (hiW R 12 : Int))).setCell ⟨w.heap.size + 1, 5, none⟩ (.int .u64 (loW R 12 : Int))).setCell ⟨w.heap.size + 1, 6, none⟩ (.bool true)).setCell ⟨w.heap.size + 1, 8, none⟩ (.int .i64 (sI z1))).setCell ⟨w.heap.size + 1, 9, none⟩ (.int .i64 (sI z2))) = w3 at X3 Y3 B3 ⊢
  obtain ⟨M, hM⟩ : ∃ M : List Value, M = [.int .i64 5, .int .i64 y, .int .i64 0, .int .i64 v, .int .u64 (hiW R 12 : Int), .int .u64 (loW R 12 : Int), .bool true, .int .i64 0, .int .i64 (sI z1), .int .i64 (sI z2), .slice none 0 0, .int .i64 0, .slice none 0 0] := ⟨_, rfl⟩
  rw [← hM] at X3
  have hml : M.length = 13 := by rw [hM]; rfl
  have hmo : ∀ v ∈ M, v.oneCell' = true := by rw [hM]; simp [Value.oneCell']
  have HLD := hid (ld41 X3.range hml)
  have hst := stc (n := 13) Y3.there hml hmo
  have HLV := hid (lv41 (Y3.set (M := M) hml).range hml)
  have HB4 : Hid (Below w.heap.size w (w3.setCells w.heap.size 0 M)) := But.below B3 (setCells_but (S := (· = w.heap.size)) rfl M 0 (But.refl _ _)) (fun k hk => by omega)
  have HM := hid hM
  clear X3 Y3 B3 hmo hM HX HY HB z0 z3 f3 z4 f4 z5 f5 z6 f6 z8 f8 z9 f9
  go_wp2_with (first | ((with_reducible refine ld_arm HLD.out ?_ ?_); (· rfl)))
  refine bodyPost_ret (v := .agg M.toArray) ?_ rfl ⟨by rw [HM.out], HB4.out⟩
  have hlv := HLV.out
  simp [results, Try.results42, asAddr, hlv]
set_option maxRecDepth 100000 in
set_option maxHeartbeats 4000000 in
theorem guess5f (a : Option Addr) (len cap : Nat) (R : List Nat) (w : World) (h : Row w a len cap R) (hl : len ≤ 140737488355328) (y v : Int) (g : Int) (z1 z2 : Nat) (h0 : sv (gt R 0 1) = 5) (h1 : sv (gt R 1 2) = y) (h2 : sv (gt R 3 8) = v) (h3 : sv (gt R 11 1) = g) (h4 : sv (gt R 28 4) = (z1 : Int)) (h5 : sv (gt R 32 4) = (z2 : Int)) (hz1 : z1 < 4294967296) (hz2 : z2 < 4294967296) (hg : (g == 1) = false) : Calls Try.prog 42 #[.slice a len cap] w fun e w' => e = .returned (.agg #[.int .i64 5, .int .i64 y, .int .i64 0, .int .i64 v, .int .u64 (hiW R 12 : Int), .int .u64 (loW R 12 : Int), .bool false, .int .i64 0, .int .i64 (sI z1), .int .i64 (sI z2), .slice none 0 0, .int .i64 0, .slice none 0 0]) ∧ Below w.heap.size w w' := by
  have HR := hid h
  have H0 := hid h0
  have H1 := hid h1
  have H2 := hid h2
  have H3 := hid h3
  have H4 := hid h4
  have H5 := hid h5
  have HZ1 := hid hz1
  have HZ2 := hid hz2
  clear h h0 h1
  clear h2 h3 h4 h5 hz1 hz2
  have mk0 := hid True.intro
  go_enter Try.func42, Try.ntmps42
  go_upto_region 28 with (first | (clear mk0; go_at_call 40; refine (get_is a len cap R 0 1 _ (HR.out.later (below1 _ _)) (by omega) (by omega) hl H0.out).mono ?_; rintro e w9 ⟨rfl, hw9⟩; obtain rfl := hw9.symm; have mk1 := hid True.intro) | (clear mk1; go_at_call 40; refine (get_is a len cap R 1 2 _ (HR.out.later (below1 _ _)) (by omega) (by omega) hl H1.out).mono ?_; rintro e w9 ⟨rfl, hw9⟩; obtain rfl := hw9.symm; have mk2 := hid True.intro) | (clear mk2; go_at_call 40; refine (get_is a len cap R 3 8 _ (HR.out.later (below2 _ _ _)) (by omega) (by omega) hl H2.out).mono ?_; rintro e w9 ⟨rfl, hw9⟩; obtain rfl := hw9.symm; have mk3 := hid True.intro) | (clear mk3; go_at_call 41; refine (rgw_any a len cap R 12 _ (HR.out.later (below2 _ _ _)) (by omega) hl).mono ?_; rintro e w2 ⟨rfl, hb2⟩; have HX := hid ((bx3 w y 5).later hb2); have HY := hid ((bx2 w y 5).later hb2); have HB := hid (below_call (below2 w _ _) hb2); clear hb2; have z0 : w2.cell? ⟨w.heap.size + 1, 0, none⟩ = some (.int .i64 5) := HX.out.cell 0 rfl; have z3 : w2.cell? ⟨w.heap.size + 1, 3, none⟩ = some (.int .i64 0) := HX.out.cell 3 rfl; have f3 : w2.frozen? ⟨w.heap.size + 1, 3, none⟩ = false := (HX.out.there 3 (by simp)).2; have z4 : w2.cell? ⟨w.heap.size + 1, 4, none⟩ = some (.int .u64 0) := HX.out.cell 4 rfl; have f4 : w2.frozen? ⟨w.heap.size + 1, 4, none⟩ = false := (HX.out.there 4 (by simp)).2; have z5 : w2.cell? ⟨w.heap.size + 1, 5, none⟩ = some (.int .u64 0) := HX.out.cell 5 rfl; have f5 : w2.frozen? ⟨w.heap.size + 1, 5, none⟩ = false := (HX.out.there 5 (by simp)).2; have z6 : w2.cell? ⟨w.heap.size + 1, 6, none⟩ = some (.bool false) := HX.out.cell 6 rfl; have f6 : w2.frozen? ⟨w.heap.size + 1, 6, none⟩ = false := (HX.out.there 6 (by simp)).2; have z8 : w2.cell? ⟨w.heap.size + 1, 8, none⟩ = some (.int .i64 0) := HX.out.cell 8 rfl; have f8 : w2.frozen? ⟨w.heap.size + 1, 8, none⟩ = false := (HX.out.there 8 (by simp)).2; have z9 : w2.cell? ⟨w.heap.size + 1, 9, none⟩ = some (.int .i64 0) := HX.out.cell 9 rfl; have f9 : w2.frozen? ⟨w.heap.size + 1, 9, none⟩ = false := (HX.out.there 9 (by simp)).2; have mk4 := hid True.intro) | (clear mk4; go_at_call 40; refine (get_is a len cap R 11 1 _ (HR.out.later (Below.setCell (Below.setCell (Below.setCell HB.out (Nat.le_succ _) _) (Nat.le_succ _) _) (Nat.le_succ _) _)) (by omega) (by omega) hl H3.out).mono ?_; rintro e w9 ⟨rfl, hw9⟩; obtain rfl := hw9.symm; have mk5 := hid True.intro) | (clear mk5; go_at_call 40; refine (get_is a len cap R 28 4 _ (HR.out.later (Below.setCell (Below.setCell (Below.setCell (Below.setCell HB.out (Nat.le_succ _) _) (Nat.le_succ _) _) (Nat.le_succ _) _) (Nat.le_succ _) _)) (by omega) (by omega) hl H4.out).mono ?_; rintro e w9 ⟨rfl, hw9⟩; obtain rfl := hw9.symm; have mk6 := hid True.intro) | (clear mk6; go_at_call 66; refine (minus_any z1 _ HZ1.out).mono ?_; rintro e w9 ⟨rfl, hw9⟩; obtain rfl := hw9.symm; have mk7 := hid True.intro) | (clear mk7; go_at_call 40; refine (get_is a len cap R 32 4 _ (HR.out.later (Below.setCell (Below.setCell (Below.setCell (Below.setCell (Below.setCell HB.out (Nat.le_succ _) _) (Nat.le_succ _) _) (Nat.le_succ _) _) (Nat.le_succ _) _) (Nat.le_succ _) _)) (by omega) (by omega) hl H5.out).mono ?_; rintro e w9 ⟨rfl, hw9⟩; obtain rfl := hw9.symm; have mk8 := hid True.intro) | (clear mk8; go_at_call 66; refine (minus_any z2 _ HZ2.out).mono ?_; rintro e w9 ⟨rfl, hw9⟩; obtain rfl := hw9.symm; have mk9 := hid True.intro))
  have X3 : Bx ((((((w2.setCell ⟨w.heap.size + 1, 3, none⟩ (.int .i64 v)).setCell ⟨w.heap.size + 1, 4, none⟩ (.int .u64 (hiW R 12 : Int))).setCell ⟨w.heap.size + 1, 5, none⟩ (.int .u64 (loW R 12 : Int))).setCell ⟨w.heap.size + 1, 6, none⟩ (.bool false)).setCell ⟨w.heap.size + 1, 8, none⟩ (.int .i64 (sI z1))).setCell ⟨w.heap.size + 1, 9, none⟩ (.int .i64 (sI z2))) (w.heap.size + 1) [.int .i64 5, .int .i64 y, .int .i64 0, .int .i64 v, .int .u64 (hiW R 12 : Int), .int .u64 (loW R 12 : Int), .bool false, .int .i64 0, .int .i64 (sI z1), .int .i64 (sI z2), .slice none 0 0, .int .i64 0, .slice none 0 0] := (Bx.put (Bx.put (Bx.put (Bx.put (Bx.put (Bx.put HX.out (j := 3) (by simp) _) (j := 4) (by simp) _) (j := 5) (by simp) _) (j := 6) (by simp) _) (j := 8) (by simp) _) (j := 9) (by simp) _)
  have Y3 : Bx ((((((w2.setCell ⟨w.heap.size + 1, 3, none⟩ (.int .i64 v)).setCell ⟨w.heap.size + 1, 4, none⟩ (.int .u64 (hiW R 12 : Int))).setCell ⟨w.heap.size + 1, 5, none⟩ (.int .u64 (loW R 12 : Int))).setCell ⟨w.heap.size + 1, 6, none⟩ (.bool false)).setCell ⟨w.heap.size + 1, 8, none⟩ (.int .i64 (sI z1))).setCell ⟨w.heap.size + 1, 9, none⟩ (.int .i64 (sI z2))) w.heap.size [.int .i64 0, .int .i64 0, .int .i64 0, .int .i64 0, .int .u64 0, .int .u64 0, .bool false, .int .i64 0, .int .i64 0, .int .i64 0, .slice none 0 0, .int .i64 0, .slice none 0 0] := (Bx.off (Bx.off (Bx.off (Bx.off (Bx.off (Bx.off HY.out (by omega) _) (by omega) _) (by omega) _) (by omega) _) (by omega) _) (by omega) _)
  have B3 : Below w.heap.size w ((((((w2.setCell ⟨w.heap.size + 1, 3, none⟩ (.int .i64 v)).setCell ⟨w.heap.size + 1, 4, none⟩ (.int .u64 (hiW R 12 : Int))).setCell ⟨w.heap.size + 1, 5, none⟩ (.int .u64 (loW R 12 : Int))).setCell ⟨w.heap.size + 1, 6, none⟩ (.bool false)).setCell ⟨w.heap.size + 1, 8, none⟩ (.int .i64 (sI z1))).setCell ⟨w.heap.size + 1, 9, none⟩ (.int .i64 (sI z2))) := (Below.setCell (Below.setCell (Below.setCell (Below.setCell (Below.setCell (Below.setCell HB.out (Nat.le_succ _) _) (Nat.le_succ _) _) (Nat.le_succ _) _) (Nat.le_succ _) _) (Nat.le_succ _) _) (Nat.le_succ _) _)
  generalize ((((((w2.setCell ⟨w.heap.size + 1, 3, none⟩ (.int .i64 v)).setCell ⟨w.heap.size + 1, 4, none⟩ (.int .u64 (hiW R 12 : Int))).setCell ⟨w.heap.size + 1, 5, none⟩ (.int .u64 (loW R 12 : Int))).setCell ⟨w.heap.size + 1, 6, none⟩ (.bool false)).setCell ⟨w.heap.size + 1, 8, none⟩ (.int .i64 (sI z1))).setCell ⟨w.heap.size + 1, 9, none⟩ (.int .i64 (sI z2))) = w3 at X3 Y3 B3 ⊢
  obtain ⟨M, hM⟩ : ∃ M : List Value, M = [.int .i64 5, .int .i64 y, .int .i64 0, .int .i64 v, .int .u64 (hiW R 12 : Int), .int .u64 (loW R 12 : Int), .bool false, .int .i64 0, .int .i64 (sI z1), .int .i64 (sI z2), .slice none 0 0, .int .i64 0, .slice none 0 0] := ⟨_, rfl⟩
  rw [← hM] at X3
  have hml : M.length = 13 := by rw [hM]; rfl
  have hmo : ∀ v ∈ M, v.oneCell' = true := by rw [hM]; simp [Value.oneCell']
  have HLD := hid (ld41 X3.range hml)
  have hst := stc (n := 13) Y3.there hml hmo
  have HLV := hid (lv41 (Y3.set (M := M) hml).range hml)
  have HB4 : Hid (Below w.heap.size w (w3.setCells w.heap.size 0 M)) := But.below B3 (setCells_but (S := (· = w.heap.size)) rfl M 0 (But.refl _ _)) (fun k hk => by omega)
  have HM := hid hM
  clear X3 Y3 B3 hmo hM HX HY HB z0 z3 f3 z4 f4 z5 f5 z6 f6 z8 f8 z9 f9
  go_wp2_with (first | ((with_reducible refine ld_arm HLD.out ?_ ?_); (· rfl)))
  refine bodyPost_ret (v := .agg M.toArray) ?_ rfl ⟨by rw [HM.out], HB4.out⟩
  have hlv := HLV.out
  simp [results, Try.results42, asAddr, hlv]
end Go.Proofs.Ytaffgoacbiedlaa
