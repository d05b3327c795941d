import Derived.Test.YtgdhdfmgfncdkaaV2
namespace Go.Proofs.Ytgdhdfmgfncdkaa
open Go.RowKit H
set_option linter.unusedVariables false

/-! ### Find -/
set_option maxRecDepth 100000 in
set_option maxHeartbeats 1000000 in
theorem find_of {w : World} {A : Ad} {kn mo : Nat} {T : List (Cp × Int)} {X : List Tk} {l : Fo} (h : Cm w A kn mo T X l) (o : Int) (hi lo : Nat) (v : Int) (b : Bool)
    (hG : ∀ W, Below w.heap.size w W → Calls Try.prog 49 #[.pointer (some ⟨A.tg, 0, none⟩), .agg #[.int .i64 o, .int .u64 (hi : Int), .int .u64 (lo : Int)]] W (fun e w' => e = .returned (.tuple #[.int .i64 v, .bool b]) ∧ Below W.heap.size W w')) :
    Calls Try.prog 11 #[.pointer (some ⟨A.g, 0, none⟩), .agg #[.int .i64 o, .int .u64 (hi : Int), .int .u64 (lo : Int)]] w fun e w' => e = .returned (.tuple #[.int .i64 v, .bool b]) ∧ Below w.heap.size w w' := by
  have hN : Hid (∀ W, Below w.heap.size w W → Calls Try.prog 28 #[.pointer (some ⟨A.g, 0, none⟩), .agg #[.int .i64 o, .int .u64 (hi : Int), .int .u64 (lo : Int)]] W (fun e w' => e = .returned (.tuple #[.int .i64 v, .bool b]) ∧ Below W.heap.size W w')) := by
    intro W hW
    have x0 := (h.later hW).c0
    clear h
    obtain ⟨w1, hw1⟩ : ∃ w1, w1 = W.alloc (Obj.cells #[.int .i64 o, .int .u64 (hi : Int), .int .u64 (lo : Int)] 33) := ⟨_, rfl⟩
    have hB1 : Below W.heap.size W w1 := by rw [hw1]; exact below1 _ _
    have hC : Hid (∀ U : World, Below w1.heap.size w1 U → (U.cell? ⟨W.heap.size, 0, none⟩ = some (.int .i64 o) ∧ U.cell? ⟨W.heap.size, 1, none⟩ = some (.int .u64 (hi : Int)) ∧ U.cell? ⟨W.heap.size, 2, none⟩ = some (.int .u64 (lo : Int)) ∧ U.cell? ⟨A.g, 0, none⟩ = some (.pointer (some ⟨A.tg, 0, none⟩))) ∧ Below w1.heap.size w1 U) := fun U hU =>
      ⟨⟨cell_later hU (by rw [hw1]; simp [go_sem]), cell_later hU (by rw [hw1]; simp [go_sem]), cell_later hU (by rw [hw1]; simp [go_sem]), cell_later hU (cell_later hB1 x0)⟩, hU⟩
    have HG := hid (fun (U : World) (hU : Below w1.heap.size w1 U) => hG U (below_call (below_call hW hB1) hU))
    have HB1 := hid hB1
    clear hG hB1 hW
    go_enter Try.func28, Try.ntmps28
    go_upto_region 1 with fail
    rw [← hw1]
    clear hw1
    go_region_held3 (fun U => (U.cell? ⟨W.heap.size, 0, none⟩ = some (.int .i64 o) ∧ U.cell? ⟨W.heap.size, 1, none⟩ = some (.int .u64 (hi : Int)) ∧ U.cell? ⟨W.heap.size, 2, none⟩ = some (.int .u64 (lo : Int)) ∧ U.cell? ⟨A.g, 0, none⟩ = some (.pointer (some ⟨A.tg, 0, none⟩))) ∧ Below w1.heap.size w1 U) (first | exact hC.out _ HB2.out | exact hC.out _ (Below.refl _ _).drew) (first
      | (go_at_call 49; refine (HG.out _ (Below.refl _ _).drew).mono ?_; rintro e w2 ⟨rfl, hb2⟩; have HB2 := hid (below_call (Below.refl w1.heap.size w1).drew hb2); clear hb2))
    go_wp2
    exact bodyPost_ret (v := .tuple #[.int .i64 v, .bool b]) (by simp [results, Try.results28, go_sem]) rfl ⟨rfl, below_call HB1.out HB2.out⟩
  obtain ⟨w1, hw1⟩ : ∃ w1, w1 = w.alloc (Obj.cells #[.int .i64 o, .int .u64 (hi : Int), .int .u64 (lo : Int)] 33) := ⟨_, rfl⟩
  have hB1 : Below w.heap.size w w1 := by rw [hw1]; exact below1 _ _
  have hC : Hid (∀ U : World, Below w1.heap.size w1 U → (U.cell? ⟨w.heap.size, 0, none⟩ = some (.int .i64 o) ∧ U.cell? ⟨w.heap.size, 1, none⟩ = some (.int .u64 (hi : Int)) ∧ U.cell? ⟨w.heap.size, 2, none⟩ = some (.int .u64 (lo : Int))) ∧ Below w1.heap.size w1 U) := fun U hU =>
    ⟨⟨cell_later hU (by rw [hw1]; simp [go_sem]), cell_later hU (by rw [hw1]; simp [go_sem]), cell_later hU (by rw [hw1]; simp [go_sem])⟩, hU⟩
  have HB1 := hid hB1
  clear hG hB1 h
  go_enter Try.func11, Try.ntmps11
  go_upto_region 1 with fail
  rw [← hw1]
  clear hw1
  go_region_held3 (fun U => (U.cell? ⟨w.heap.size, 0, none⟩ = some (.int .i64 o) ∧ U.cell? ⟨w.heap.size, 1, none⟩ = some (.int .u64 (hi : Int)) ∧ U.cell? ⟨w.heap.size, 2, none⟩ = some (.int .u64 (lo : Int))) ∧ Below w1.heap.size w1 U) (first | exact hC.out _ HB2.out | exact hC.out _ (Below.refl _ _).drew) (first
    | (go_at_call 28; refine (hN.out _ (below_call HB1.out (Below.refl _ _).drew)).mono ?_; rintro e w2 ⟨rfl, hb2⟩; have HB2 := hid (below_call (Below.refl w1.heap.size w1).drew hb2); clear hb2))
  go_wp2
  exact bodyPost_ret (v := .tuple #[.int .i64 v, .bool b]) (by simp [results, Try.results11, go_sem]) rfl ⟨rfl, below_call HB1.out HB2.out⟩

/-! ### note -/
set_option maxRecDepth 100000 in
set_option maxHeartbeats 1000000 in
theorem note_no {w : World} {A : Ad} {kn mo : Nat} {T : List (Cp × Int)} {X : List Tk} {l : Fo} (h : Cm w A kn mo T X l) (n o : Int) (hi lo : Nat) (r code : Int) (hc : code ≠ 0)
    (hG : ∀ W, Below w.heap.size w W → Calls Try.prog 72 #[.pointer (some ⟨A.tg, 0, none⟩), .agg #[.int .i64 o, .int .u64 (hi : Int), .int .u64 (lo : Int)], .int .i64 n] W (fun e w' => e = .returned (.int .i64 code) ∧ Below W.heap.size W w')) :
    Calls Try.prog 62 #[.pointer (some ⟨A.g, 0, none⟩), .int .i64 n, .agg #[.int .i64 o, .int .u64 (hi : Int), .int .u64 (lo : Int), .int .i64 r]] w fun e w' => e = .returned (.int .i64 code) ∧ Below w.heap.size w w' := by
  have x0 := h.c0
  clear h
  obtain ⟨w1, hw1⟩ : ∃ w1, w1 = w.alloc (Obj.cells #[.int .i64 o, .int .u64 (hi : Int), .int .u64 (lo : Int), .int .i64 r] 81) := ⟨_, rfl⟩
  have hB1 : Below w.heap.size w w1 := by rw [hw1]; exact below1 _ _
  have hC : Hid (∀ U : World, Below w1.heap.size w1 U → (U.cell? ⟨w.heap.size, 0, none⟩ = some (.int .i64 o) ∧ U.cell? ⟨w.heap.size, 1, none⟩ = some (.int .u64 (hi : Int)) ∧ U.cell? ⟨w.heap.size, 2, none⟩ = some (.int .u64 (lo : Int)) ∧ U.cell? ⟨A.g, 0, none⟩ = some (.pointer (some ⟨A.tg, 0, none⟩))) ∧ Below w1.heap.size w1 U) := fun U hU =>
    ⟨⟨cell_later hU (by rw [hw1]; simp [go_sem]), cell_later hU (by rw [hw1]; simp [go_sem]), cell_later hU (by rw [hw1]; simp [go_sem]), cell_later hU (cell_later hB1 x0)⟩, hU⟩
  have HG := hid (fun (U : World) (hU : Below w1.heap.size w1 U) => hG U (below_call hB1 hU))
  have HB1 := hid hB1
  clear hG hB1
  go_enter Try.func62, Try.ntmps62
  go_upto_region 1 with fail
  rw [← hw1]
  clear hw1
  go_region_held3 (fun U => (U.cell? ⟨w.heap.size, 0, none⟩ = some (.int .i64 o) ∧ U.cell? ⟨w.heap.size, 1, none⟩ = some (.int .u64 (hi : Int)) ∧ U.cell? ⟨w.heap.size, 2, none⟩ = some (.int .u64 (lo : Int)) ∧ U.cell? ⟨A.g, 0, none⟩ = some (.pointer (some ⟨A.tg, 0, none⟩))) ∧ Below w1.heap.size w1 U) (first | exact hC.out _ HB2.out | exact hC.out _ (Below.refl _ _).drew) (first
    | (go_at_call 72; refine (HG.out _ (Below.refl _ _).drew).mono ?_; rintro e w2 ⟨rfl, hb2⟩; have HB2 := hid (below_call (Below.refl w1.heap.size w1).drew hb2); clear hb2))
  go_wp2
  go_ret
  exact ⟨rfl, below_call HB1.out HB2.out⟩
set_option maxRecDepth 100000 in
set_option maxHeartbeats 2000000 in
theorem note_ok {w : World} {A : Ad} {kn mo : Nat} {T T' : List (Cp × Int)} {X : List Tk} {l : Fo} (h : Cm w A kn mo T X l) (n : Nat) (hn : n < mo) (o : Int) (hi lo : Nat) (r : Int)
    (hG : ∀ W, Below w.heap.size w W → Calls Try.prog 72 #[.pointer (some ⟨A.tg, 0, none⟩), .agg #[.int .i64 o, .int .u64 (hi : Int), .int .u64 (lo : Int)], .int .i64 (n : Int)] W (fun e w' => e = .returned (.int .i64 0) ∧ I.Tb w' A.tg A.tb kn mo A.N T' ∧ But (I.In A.tg A.tb) W w')) :
    Calls Try.prog 62 #[.pointer (some ⟨A.g, 0, none⟩), .int .i64 (n : Int), .agg #[.int .i64 o, .int .u64 (hi : Int), .int .u64 (lo : Int), .int .i64 r]] w fun e w' => e = .returned (.int .i64 0) ∧ Cm w' A kn mo T' (X.set n ((o, hi, lo), r)) l ∧ But A.Wr w w' := by
  have x0 := h.c0
  have hl := h.lt
  obtain ⟨w1, hw1⟩ : ∃ w1, w1 = w.alloc (Obj.cells #[.int .i64 o, .int .u64 (hi : Int), .int .u64 (lo : Int), .int .i64 r] 81) := ⟨_, rfl⟩
  have hB1 : Below w.heap.size w w1 := by rw [hw1]; exact below1 _ _
  have hni : ∀ k, I.In A.tg A.tb k → k < w.heap.size := by
    rintro k (rfl | rfl)
    · exact hl _ (.inr (.inr (.inl rfl)))
    · exact hl _ (.inr (.inr (.inr (.inl rfl))))
  have hng : ¬ I.In A.tg A.tb A.g := by rintro (e | e); exact h.dis.d1 e.symm; exact h.dis.d2 e.symm
  have hns : ¬ I.In A.tg A.tb w.heap.size := fun hs => by have := hni _ hs; omega
  have hC : Hid (∀ U : World, But (I.In A.tg A.tb) w1 U → (U.cell? ⟨w.heap.size, 0, none⟩ = some (.int .i64 o) ∧ U.cell? ⟨w.heap.size, 1, none⟩ = some (.int .u64 (hi : Int)) ∧ U.cell? ⟨w.heap.size, 2, none⟩ = some (.int .u64 (lo : Int)) ∧ U.cell? ⟨w.heap.size, 3, none⟩ = some (.int .i64 r) ∧ U.cell? ⟨A.g, 0, none⟩ = some (.pointer (some ⟨A.tg, 0, none⟩))) ∧ But (I.In A.tg A.tb) w1 U) := fun U hU =>
    ⟨⟨cell_but hU (by rw [hw1]; simp [go_sem]) hns, cell_but hU (by rw [hw1]; simp [go_sem]) hns, cell_but hU (by rw [hw1]; simp [go_sem]) hns, cell_but hU (by rw [hw1]; simp [go_sem]) hns, cell_but hU (cell_later hB1 x0) hng⟩, hU⟩
  have HG := hid (fun (U : World) (hU : Below w1.heap.size w1 U) => hG U (below_call hB1 hU))
  have HB1 := hid hB1
  have HH := hid h
  have hmo := h.small
  have hne := h.dis.d3
  have hse : ¬ w.heap.size = A.eb := by have := h.lte; omega
  clear hG hB1 h hni hng hns hl
  go_enter Try.func62, Try.ntmps62
  go_upto_region 1 with fail
  rw [← hw1]
  clear hw1
  go_region_held3 (fun U => (U.cell? ⟨w.heap.size, 0, none⟩ = some (.int .i64 o) ∧ U.cell? ⟨w.heap.size, 1, none⟩ = some (.int .u64 (hi : Int)) ∧ U.cell? ⟨w.heap.size, 2, none⟩ = some (.int .u64 (lo : Int)) ∧ U.cell? ⟨w.heap.size, 3, none⟩ = some (.int .i64 r) ∧ U.cell? ⟨A.g, 0, none⟩ = some (.pointer (some ⟨A.tg, 0, none⟩))) ∧ But (I.In A.tg A.tb) w1 U) (first | exact hC.out _ HB2.out | exact hC.out _ (But.of (Below.refl _ _).drew)) (first
    | (go_at_call 72; refine (HG.out _ (Below.refl _ _).drew).mono ?_; rintro e w2 ⟨rfl, ht2, hb2⟩; have HB2 := hid ((But.of (S := I.In A.tg A.tb) (Below.refl w1.heap.size w1).drew).trans hb2); have HT2 := hid ht2; clear hb2 ht2))
  obtain ⟨⟨y0, y1, y2, y3, _⟩, _⟩ := hC.out _ HB2.out
  have hM := (HH.out.later HB1.out).setT HB2.out HT2.out
  have z1 := hM.c1
  obtain ⟨p0, p1, p2, p3⟩ := hM.at_ hn
  have hfr := hM.fr
  have hfin : ∀ W : World, W = (setE w2 A.eb (n * 4) ((o, hi, lo), r)).drew → Cm W A kn mo T' (X.set n ((o, hi, lo), r)) l ∧ But A.Wr w W := by
    rintro W rfl
    refine ⟨(hM.setX hn _).later (Below.refl _ _).drew, (setE_but ((But.of HB1.out).trans (HB2.out.mono ?_)) (.inr (.inr (.inl rfl))) _ _).call (Below.refl _ _).drew⟩
    rintro k (rfl | rfl)
    · exact .inl rfl
    · exact .inr (.inl rfl)
  have HF := hid hfin
  clear hM hfin
  go_wp2
  go_region
  go_wp2
  go_ret
  exact ⟨rfl, HF.out _ rfl⟩
end Go.Proofs.Ytgdhdfmgfncdkaa
