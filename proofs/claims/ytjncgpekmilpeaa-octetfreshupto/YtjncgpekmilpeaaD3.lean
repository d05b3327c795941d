import Derived.Test.YtjncgpekmilpeaaD2
namespace Go.Proofs.Ytjncgpekmilpeaa
open Go.RowKit
set_option linter.unusedVariables false

set_option maxRecDepth 100000 in
set_option maxHeartbeats 1000000 in
theorem rend_any (g gb : Nat) (R : List Nat) (w : World) (h : Rd w g gb R) :
    Calls Try.prog 35 #[.pointer (some ⟨g, 0, none⟩)] w fun e w' => e = .returned (.int .i64 (endE R)) ∧ w' = w := by
  obtain ⟨o, cap, hl, hc, hcell⟩ := h.ex
  have hl1 := hl.1
  clear hcell
  by_cases h0 : 0 < R.length
  · have e1 : endE R = 23 := by unfold endE; rw [if_pos h0]
    rw [e1]
    have hd : decide (0 < (R.length : Int)) = true := decide_eq_true (by omega)
    go_enter Try.func35, Try.ntmps35
    go_wp2
    go_ret
    exact ⟨rfl, rfl⟩
  · have e1 : endE R = 0 := by unfold endE; rw [if_neg h0]
    rw [e1]
    have hd : decide (0 < (R.length : Int)) = false := decide_eq_false (by omega)
    go_enter Try.func35, Try.ntmps35
    go_wp2
    go_ret
    exact ⟨rfl, rfl⟩

set_option maxRecDepth 100000 in
set_option maxHeartbeats 1000000 in
theorem rrow_any (g gb : Nat) (R : List Nat) (k : Int) (w : World) (h : Rd w g gb R) (hr : R.length ≤ 140737488355328) :
    Calls Try.prog 54 #[.pointer (some ⟨g, 0, none⟩), .int .i64 k] w fun e w' => ∃ a m c, e = .returned (.tuple #[.slice a m c, .int .i64 (rowE R k)]) ∧ Own w' w.heap.size a m c (R.take (rowN R k)) ∧ Rd w' g gb (R.drop (rowN R k)) ∧ But (· = g) w w' := by
  obtain ⟨o, cap, hl, hc, hcell⟩ := h.ex
  have hl1 := hl.1
  have HC : Hid (∀ i (hi : i < R.length), w.cell? ⟨gb, o + i, none⟩ = some (.int .u8 ((R[i] : Nat) : Int))) := hcell
  clear hcell
  by_cases h0 : k < 0
  · have e1 : rowE R k = 5 := by unfold rowE; rw [if_pos h0]
    have e2 : rowN R k = 0 := by unfold rowN; rw [e1, if_neg (by omega)]
    rw [e1, e2]
    clear hr
    go_enter Try.func54, Try.ntmps54
    go_wp2
    exact bodyPost_ret (v := .tuple #[.slice none 0 0, .int .i64 5]) (by simp [results, Try.results54, go_sem]) rfl ⟨none, 0, 0, rfl, Own.nil _ _, by simpa using h, But.refl _ _⟩
  by_cases h1 : (R.length : Int) < k
  · have e1 : rowE R k = 17 := by unfold rowE; rw [if_neg h0, if_pos h1]
    have e2 : rowN R k = 0 := by unfold rowN; rw [e1, if_neg (by omega)]
    rw [e1, e2]
    clear hr
    go_enter Try.func54, Try.ntmps54
    go_wp2
    exact bodyPost_ret (v := .tuple #[.slice none 0 0, .int .i64 17]) (by simp [results, Try.results54, go_sem]) rfl ⟨none, 0, 0, rfl, Own.nil _ _, by simpa using h, But.refl _ _⟩
  have e1 : rowE R k = 0 := by unfold rowE; rw [if_neg h0, if_neg h1]
  have e2 : rowN R k = k.toNat := by unfold rowN; rw [if_pos e1]
  rw [e1, e2]
  obtain ⟨m, rfl⟩ : ∃ m : Nat, k = (m : Int) := ⟨k.toNat, by omega⟩
  have hm : m ≤ R.length := by omega
  rw [Int.toNat_natCast]
  have hrow : Row w (some ⟨gb, o, none⟩) m cap (R.take m) := Row.at (by simp; omega) (by omega) (fun x hx => h.small x (List.mem_of_mem_take hx)) (fun i hi => by
    have hi' : i < R.length := by simp at hi; omega
    rw [List.getElem_take]
    exact HC.out i hi')
  obtain ⟨a1, c1, w1, hrun, hown, hg1⟩ := append_any (Own.nil w w.heap.size) hrow (Nat.le_refl _) (by omega)
  have hb1 : Below w.heap.size w w1 := hg1.below (Own.nil w w.heap.size) (Nat.le_refl _)
  have hz : 0 + m = m := Nat.zero_add m
  rw [hz] at hrun hown
  have HRUN : Hid _ := hrun
  have HO : Hid (Own w1 w.heap.size a1 m c1 (R.take m)) := by unfold Hid; simpa using hown
  have hl' := hl.later hb1
  have hl3 := hl'.1
  have hl4 := hl'.2
  have HH : Hid (Rd w1 g gb R) := h.later hb1
  have HC1 : Hid (∀ i (hi : i < R.length), w1.cell? ⟨gb, o + i, none⟩ = some (.int .u8 ((R[i] : Nat) : Int))) := fun i hi => cell_later hb1 (HC.out i hi)
  have hc1 : (m : Int) ≤ (cap : Int) := by omega
  have hc2 : (m : Int) ≤ (R.length : Int) := by omega
  have hc3 : (R.length : Int) ≤ (cap : Int) := by omega
  have hc0 : (0 : Int) ≤ (m : Int) := by omega
  have hgl : g < w.heap.size := World.block_lt_of_cell? _ _ hl1
  clear e1 e2 hrun hown hrow hg1 hr HC h
  go_enter Try.func54, Try.ntmps54
  go_wp2_with (first | (at_builtin; refine wpList_append_known rfl _ _ 22 rfl _ _ rfl rfl _ w1 HRUN.out ?_))
  all_goals refine bodyPost_ret (v := .tuple #[.slice a1 m c1, .int .i64 0]) (by simp [results, Try.results54, go_sem]) rfl ⟨_, _, _, rfl, HO.out.but ((But.refl (· = g) w1).setCell (p := ⟨g, 0, none⟩) rfl _) (fun j hj e => by omega), HH.out.shift hl' HC1.out hm (by omega) (by omega), ((But.of (S := (· = g)) hb1).setCell (p := ⟨g, 0, none⟩) rfl _)⟩

set_option maxRecDepth 100000 in
set_option maxHeartbeats 1000000 in
theorem rword_any (g gb : Nat) (R : List Nat) (w : World) (h : Rd w g gb R) :
    Calls Try.prog 55 #[.pointer (some ⟨g, 0, none⟩)] w fun e w' => e = .returned (.tuple #[.agg #[.int .u64 ((wordHi R : Nat) : Int), .int .u64 ((wordLo R : Nat) : Int)], .int .i64 (wordE R)]) ∧ Rd w' g gb (R.drop (wordN R)) ∧ But (· = g) w w' := by
  obtain ⟨o, cap, hl, hc, hcell⟩ := h.ex
  have hl0 := hl.alloc (Obj.cells #[.int .u64 0, .int .u64 0] 25)
  have hl1 := hl0.1
  have hl2 := hl0.2
  have HRow : Hid (Row w (some ⟨gb, o, none⟩) R.length cap R) := h.row hc hcell
  have hgl : g < w.heap.size := World.block_lt_of_cell? _ _ hl.1
  have hgb : 0 < R.length → gb < w.heap.size := fun h0 => World.block_lt_of_cell? _ _ (hcell 0 h0)
  have HC : Hid (∀ i (hi : i < R.length), w.cell? ⟨gb, o + i, none⟩ = some (.int .u8 ((R[i] : Nat) : Int))) := hcell
  have HD : Hid (8 ≤ R.length → Row w (some ⟨gb, o + 8, none⟩) (R.length - 8) (cap - 8) (R.drop 8)) := fun h8 => by
    refine Row.at (by simp) (by omega) (fun x hx => h.small x (List.mem_of_mem_drop hx)) (fun i hi => ?_)
    rw [drop_get, Nat.add_assoc]
    exact hcell _ _
  clear hcell
  by_cases h16 : R.length < 16
  · have e1 : wordE R = 17 := by unfold wordE; rw [if_pos h16]
    have e2 : wordN R = 0 := by unfold wordN; rw [if_pos h16]
    have e3 : wordHi R = 0 := by unfold wordHi; rw [if_pos h16]
    have e4 : wordLo R = 0 := by unfold wordLo; rw [if_pos h16]
    rw [e1, e2, e3, e4]
    have hd : decide ((R.length : Int) < 16) = true := by simp; omega
    go_enter Try.func55, Try.ntmps55
    go_wp2
    refine bodyPost_ret (v := .tuple #[.agg #[.int .u64 0, .int .u64 0], .int .i64 17]) (by simp [results, Try.results55, go_sem]) rfl ⟨rfl, ?_, But.of (below1 _ _)⟩
    rw [List.drop_zero]
    exact h.later (below1 _ _)
  have e1 : wordE R = 0 := by unfold wordE; rw [if_neg h16]
  have e2 : wordN R = 16 := by unfold wordN; rw [if_neg h16]
  have e3 : wordHi R = hiV R := by unfold wordHi; rw [if_neg h16]
  have e4 : wordLo R = loV R := by unfold wordLo; rw [if_neg h16]
  rw [e1, e2, e3, e4]
  have hd : decide ((R.length : Int) < 16) = false := decide_eq_false (by omega)
  have g1 : getV R 8 = loV R := (get_full (by omega)).1
  have g2 : getE R 8 = 0 := (get_full (by omega)).2
  have g3 : getV (R.drop 8) 8 = hiV R := (get_full (by simp; omega)).1
  have g4 : getE (R.drop 8) 8 = 0 := (get_full (by simp; omega)).2
  have HD2 : Hid (Row w (some ⟨gb, o + 8, none⟩) (R.length - 8) (cap - 8) (R.drop 8)) := HD.out (by omega)
  have HH : Hid (Rd w g gb R) := h
  have hl8 : (8 : Int) ≤ (R.length : Int) := by omega
  have hl16 : (16 : Int) ≤ (R.length : Int) := by omega
  have hc8 : (R.length : Int) ≤ (cap : Int) := by omega
  have hnb : (cap == 8) = false := by simp; omega
  have hne : ¬ cap = 8 := by omega
  have h16' : 16 ≤ R.length := by omega
  have A0 : Lies (w.alloc (Obj.cells #[.int .u64 0, .int .u64 0] 25)) ⟨w.heap.size, 0, none⟩ (.int .u64 0) := ⟨by simp [go_sem], by simp [go_sem]⟩
  have A1 : Lies (w.alloc (Obj.cells #[.int .u64 0, .int .u64 0] 25)) ⟨w.heap.size, 1, none⟩ (.int .u64 0) := ⟨by simp [go_sem], by simp [go_sem]⟩
  have hgb' := hgb (by omega)
  clear HD h16 h hgb
  go_enter Try.func55, Try.ntmps55
  go_upto_region 4 with (first | (go_at_call 33; refine (rget_any _ _ _ R 8 _ (by omega) (by omega) (HRow.out.alloc _)).mono ?_; rintro e w1 ⟨rfl, rfl⟩; rw [g1, g2]))
  go_upto_region 5 with (first | (go_at_call 33; refine (rget_any _ _ _ (R.drop 8) 8 _ (by omega) (by omega) (HD2.out.alloc _)).mono ?_; rintro e w1 ⟨rfl, rfl⟩; rw [g3, g4]))
  have hgw : ¬ w.heap.size = g := by omega
  go_wp2
  all_goals refine bodyPost_ret (v := .tuple #[.agg #[.int .u64 ((hiV R : Nat) : Int), .int .u64 ((loV R : Nat) : Int)], .int .i64 0]) (by simp [results, Try.results55, go_sem]) rfl ⟨rfl, (HH.out.shift hl HC.out h16' (by omega) (by omega)).alloc _, ((But.refl (· = g) w).setCell (p := ⟨g, 0, none⟩) rfl _).alloc _⟩

set_option maxRecDepth 100000 in
set_option maxHeartbeats 1000000 in
theorem rcap_any (g gb : Nat) (R : List Nat) (w : World) (h : Rd w g gb R) :
    Calls Try.prog 56 #[.pointer (some ⟨g, 0, none⟩)] w fun e w' => e = .returned (.tuple #[.agg #[.int .i64 ((capObj R : Nat) : Int), .int .u64 ((capHi R : Nat) : Int), .int .u64 ((capLo R : Nat) : Int)], .int .i64 (capE R)]) ∧ Rd w' g gb (R.drop (capN R)) ∧ But (· = g) w w' := by
  obtain ⟨o, cap, hl, hc, hcell⟩ := h.ex
  have hl0 := hl.alloc (Obj.cells #[.int .i64 0, .int .u64 0, .int .u64 0] 27)
  have hl1 := hl0.1
  have hl2 := hl0.2
  have HRow : Hid (Row w (some ⟨gb, o, none⟩) R.length cap R) := h.row hc hcell
  have hgl : g < w.heap.size := World.block_lt_of_cell? _ _ hl.1
  have HC : Hid (∀ i (hi : i < R.length), w.cell? ⟨gb, o + i, none⟩ = some (.int .u8 ((R[i] : Nat) : Int))) := hcell
  have hgb : 0 < R.length → gb < w.heap.size := fun h0 => World.block_lt_of_cell? _ _ (hcell 0 h0)
  clear hcell
  by_cases h24 : R.length < 24
  · have e1 : capE R = 17 := by unfold capE; rw [if_pos h24]
    obtain ⟨e2, e3, e4, e5⟩ := cap_bad (R := R) (by omega)
    rw [e1, e2, e3, e4, e5]
    have hd : decide ((R.length : Int) < 24) = true := by simp; omega
    go_enter Try.func56, Try.ntmps56
    go_wp2
    refine bodyPost_ret (v := .tuple #[.agg #[.int .i64 0, .int .u64 0, .int .u64 0], .int .i64 17]) (by simp [results, Try.results56, go_sem]) rfl ⟨rfl, ?_, But.of (below1 _ _)⟩
    rw [List.drop_zero]
    exact h.later (below1 _ _)
  have hd : decide ((R.length : Int) < 24) = false := decide_eq_false (by omega)
  have g1 : getV R 8 = loV R := (get_full (by omega)).1
  have g2 : getE R 8 = 0 := (get_full (by omega)).2
  by_cases hbig : 4611686018427387904 < loV R
  · have e1 : capE R = 5 := by unfold capE; rw [if_neg h24, if_pos hbig]
    obtain ⟨e2, e3, e4, e5⟩ := cap_bad (R := R) (by omega)
    rw [e1, e2, e3, e4, e5]
    have hd2 : decide (4611686018427387904 < ((loV R : Nat) : Int)) = true := decide_eq_true (by omega)
    go_enter Try.func56, Try.ntmps56
    go_wp2_with (first | (go_at_call 33; refine (rget_any _ _ _ R 8 _ (by omega) (by omega) (HRow.out.alloc _)).mono ?_; rintro e w1 ⟨rfl, rfl⟩; rw [g1, g2]))
    refine bodyPost_ret (v := .tuple #[.agg #[.int .i64 0, .int .u64 0, .int .u64 0], .int .i64 5]) (by simp [results, Try.results56, go_sem]) rfl ⟨rfl, ?_, But.of (below1 _ _)⟩
    rw [List.drop_zero]
    exact h.later (below1 _ _)
  have e1 : capE R = 0 := by unfold capE; rw [if_neg h24, if_neg hbig]
  obtain ⟨e2, e3, e4, e5⟩ := cap_ok e1
  rw [e1, e2, e3, e4, e5]
  have hd2 : decide (4611686018427387904 < ((loV R : Nat) : Int)) = false := decide_eq_false (by omega)
  have ewv : IntKind.i64.wrap ((loV R : Nat) : Int) = ((loV R : Nat) : Int) := by rw [IntKind.wrap_i64]; omega
  have hl8 : (8 : Int) ≤ (R.length : Int) := by omega
  have hc8 : (R.length : Int) ≤ (cap : Int) := by omega
  have hnb : (cap == 8) = false := by simp; omega
  have hne : ¬ cap = 8 := by omega
  have h8 : 8 ≤ R.length := by omega
  have hgb' := hgb (by omega)
  have hgw : ¬ w.heap.size = g := by omega
  have HH : Hid (Rd (w.setCell ⟨g, 0, none⟩ (.slice (some ⟨gb, o + 8, none⟩) (R.length - 8) (cap - 8))) g gb (R.drop 8)) := h.shift hl HC.out h8 (by omega) (.inl rfl)
  have HB : Hid (But (· = g) w (w.setCell ⟨g, 0, none⟩ (.slice (some ⟨gb, o + 8, none⟩) (R.length - 8) (cap - 8)))) := (But.refl (· = g) w).setCell (p := ⟨g, 0, none⟩) rfl _
  have q1 : wordHi (R.drop 8) = hiV (R.drop 8) := by unfold wordHi; rw [if_neg (by simp; omega)]
  have q2 : wordLo (R.drop 8) = loV (R.drop 8) := by unfold wordLo; rw [if_neg (by simp; omega)]
  have q3 : wordE (R.drop 8) = 0 := by unfold wordE; rw [if_neg (by simp; omega)]
  have q4 : wordN (R.drop 8) = 16 := by unfold wordN; rw [if_neg (by simp; omega)]
  have q5 : (R.drop 8).drop 16 = R.drop 24 := by rw [List.drop_drop]
  clear h24 hbig h
  go_enter Try.func56, Try.ntmps56
  go_upto_region 7 with (first | (go_at_call 33; refine (rget_any _ _ _ R 8 _ (by omega) (by omega) (HRow.out.alloc _)).mono ?_; rintro e w1 ⟨rfl, rfl⟩; rw [g1, g2]))
  have A0 : Lies ((w.setCell ⟨g, 0, none⟩ (.slice (some ⟨gb, o + 8, none⟩) (R.length - 8) (cap - 8))).alloc (Obj.cells #[.int .i64 0, .int .u64 0, .int .u64 0] 27)) ⟨w.heap.size, 0, none⟩ (.int .i64 0) := by
    have : w.heap.size = (w.setCell ⟨g, 0, none⟩ (.slice (some ⟨gb, o + 8, none⟩) (R.length - 8) (cap - 8))).heap.size := by simp
    rw [this]; exact ⟨by simp [go_sem], by simp [go_sem]⟩
  have A1 : Lies ((w.setCell ⟨g, 0, none⟩ (.slice (some ⟨gb, o + 8, none⟩) (R.length - 8) (cap - 8))).alloc (Obj.cells #[.int .i64 0, .int .u64 0, .int .u64 0] 27)) ⟨w.heap.size, 1, none⟩ (.int .u64 0) := by
    have : w.heap.size = (w.setCell ⟨g, 0, none⟩ (.slice (some ⟨gb, o + 8, none⟩) (R.length - 8) (cap - 8))).heap.size := by simp
    rw [this]; exact ⟨by simp [go_sem], by simp [go_sem]⟩
  have A2 : Lies ((w.setCell ⟨g, 0, none⟩ (.slice (some ⟨gb, o + 8, none⟩) (R.length - 8) (cap - 8))).alloc (Obj.cells #[.int .i64 0, .int .u64 0, .int .u64 0] 27)) ⟨w.heap.size, 2, none⟩ (.int .u64 0) := by
    have : w.heap.size = (w.setCell ⟨g, 0, none⟩ (.slice (some ⟨gb, o + 8, none⟩) (R.length - 8) (cap - 8))).heap.size := by simp
    rw [this]; exact ⟨by simp [go_sem], by simp [go_sem]⟩
  go_upto_region 8 with (first | (go_at_call 55; refine (rword_any g gb (R.drop 8) _ (HH.out.alloc _)).mono ?_; rintro e w1 ⟨rfl, hrd, hbut⟩; rw [q1, q2, q3]; rw [q4, q5] at hrd))
  replace A0 := (A0.but hbut (by simp; omega)).alloc (Obj.cells #[.int .u64 ((hiV (R.drop 8) : Nat) : Int), .int .u64 ((loV (R.drop 8) : Nat) : Int)] 25)
  replace A1 := (A1.but hbut (by simp; omega)).alloc (Obj.cells #[.int .u64 ((hiV (R.drop 8) : Nat) : Int), .int .u64 ((loV (R.drop 8) : Nat) : Int)] 25)
  replace A2 := (A2.but hbut (by simp; omega)).alloc (Obj.cells #[.int .u64 ((hiV (R.drop 8) : Nat) : Int), .int .u64 ((loV (R.drop 8) : Nat) : Int)] 25)
  have hb0 : But (· = g) w w1 := (HB.out.alloc _).trans hbut
  have hw1 := hbut.size
  have a0 := A0.1
  have a1 := A0.2
  have a2 := A1.1
  have a3 := A1.2
  have a4 := A2.1
  have a5 := A2.2
  clear hl1 hl2 hl0
  go_wp2
  refine bodyPost_ret (v := .tuple #[.agg #[.int .i64 ((loV R : Nat) : Int), .int .u64 ((hiV (R.drop 8) : Nat) : Int), .int .u64 ((loV (R.drop 8) : Nat) : Int)], .int .i64 0]) (by simp [results, Try.results56, go_sem, a0, a2, a4]) rfl ⟨rfl, ?_, ?_⟩
  · exact (hrd.alloc _).but (S := (· = w.heap.size)) ((((But.refl (· = w.heap.size) _).setCell (p := ⟨w.heap.size, 0, none⟩) rfl _).setCell (p := ⟨w.heap.size, 1, none⟩) rfl _).setCell (p := ⟨w.heap.size, 2, none⟩) rfl _) (by omega) (by omega)
  · exact (((hb0.alloc _).put (Nat.le_refl _) _).put (Nat.le_refl _) _).put (Nat.le_refl _) _
end Go.Proofs.Ytjncgpekmilpeaa
