import Derived.Test.YtlelglfdamakaaaMR
namespace Go.Proofs.Ytlelglfdamakaaa
open Go.RowKit Go.Shelf H
set_option linter.unusedVariables false

/-! ### At -/
set_option maxRecDepth 100000 in
set_option maxHeartbeats 2000000 in
theorem rat_any {w : World} {r b mo : Nat} {X : List Tk} {l : Fo} {wh : Int → Int} {ev : Nat} (h : Rf w r b mo X l wh ev) (hrg : ∀ x ∈ nums l, 0 ≤ x ∧ x < (mo : Int)) (n : Int) :
    Calls Try.prog 48 #[.pointer (some ⟨r, 0, none⟩), .int .i64 n] w fun e w' => e = .returned (tokV X l n) ∧ Below w.heap.size w w' := by
  obtain ⟨w0, hw0⟩ : ∃ w0, w0 = w.alloc (Obj.cells #[.int .i64 0, .int .u64 0, .int .u64 0, .int .i64 0, .int .i64 0] 83) := ⟨_, rfl⟩
  have hB0 : Below w.heap.size w w0 := by rw [hw0]; exact below1 _ _
  have h0 := h.later hB0
  have hh := hid (ris_any h0 hrg n)
  obtain ⟨⟨r0, f0⟩, ⟨r1, f1⟩, ⟨r2, f2⟩, ⟨r3, f3⟩, ⟨r4, f4⟩⟩ : Lies w0 ⟨w.heap.size, 0, none⟩ (.int .i64 0) ∧ Lies w0 ⟨w.heap.size, 1, none⟩ (.int .u64 0) ∧ Lies w0 ⟨w.heap.size, 2, none⟩ (.int .u64 0) ∧ Lies w0 ⟨w.heap.size, 3, none⟩ (.int .i64 0) ∧ Lies w0 ⟨w.heap.size, 4, none⟩ (.int .i64 0) := by
    rw [hw0]; exact ⟨⟨by simp [go_sem], by simp [go_sem]⟩, ⟨by simp [go_sem], by simp [go_sem]⟩, ⟨by simp [go_sem], by simp [go_sem]⟩, ⟨by simp [go_sem], by simp [go_sem]⟩, ⟨by simp [go_sem], by simp [go_sem]⟩⟩
  have HB : Hid (∀ W, But (· = w.heap.size) w0 W → Below w.heap.size w W) := fun W hW => But.below hB0 hW (fun k e => by omega)
  unfold tokV
  by_cases hn : n ∈ nums l
  · rw [if_pos hn]
    rw [decide_eq_true hn] at hh
    have hrn := hrg n hn
    obtain ⟨k, rfl⟩ : ∃ k : Nat, n = (k : Int) := ⟨n.toNat, by omega⟩
    have hk : k < mo := by omega
    have hbig := h.big
    have hP := h0.at_ k hk
    rw [plc_in hn] at hP
    obtain ⟨p0, p1, p2, p3, p4, p5, p6⟩ := hP
    simp only at p0 p1 p2 p3 p4 p5 p6
    obtain ⟨⟨ot, ht_, lt_⟩, rr0, hxx⟩ : ∃ c r, tk X (k : Int) = (c, r) := ⟨_, _, rfl⟩
    rw [hxx] at p1 p2 p3 ⊢
    simp only at p1 p2 p3
    have x0 := h0.c0
    have hnb : b ≠ w.heap.size := by have := h.ltb; omega
    have hnr : r ≠ w.heap.size := by have := h.ltr; omega
    generalize rg X (k : Int) = rt at *
    generalize par l (k : Int) = pt at *
    have hC : Hid (∀ U : World, But (· = w.heap.size) w0 U → (U.cell? ⟨r, 0, none⟩ = some (.slice (some ⟨b, 0, none⟩) mo mo) ∧ U.cell? ⟨b, k * 7 + 1, none⟩ = some (.int .i64 ot) ∧ U.cell? ⟨b, k * 7 + 2, none⟩ = some (.int .u64 (ht_ : Int)) ∧ U.cell? ⟨b, k * 7 + 3, none⟩ = some (.int .u64 (lt_ : Int)) ∧ U.cell? ⟨b, k * 7 + 4, none⟩ = some (.int .i64 rt) ∧ U.cell? ⟨b, k * 7 + 5, none⟩ = some (.int .i64 pt)) ∧ But (· = w.heap.size) w0 U) := fun U hU =>
      ⟨⟨cell_but hU x0 hnr, cell_but hU p1 hnb, cell_but hU p2 hnb, cell_but hU p3 hnb, cell_but hU p4 hnb, cell_but hU p5 hnb⟩, hU⟩
    have HST := hid (set5_but (S := (· = w.heap.size)) (But.of (S := (· = w.heap.size)) (Below.refl w0.heap.size w0).drew) (b := w.heap.size) rfl (ot, ht_, lt_) rt pt)
    clear h h0 hB0 hn hxx hrg p0 p6 hrn
    go_enter Try.func48, Try.ntmps48
    go_upto_region 1 with fail
    rw [← hw0]
    clear hw0
    go_upto_region 3 with (first | (go_at_call 67; refine hh.out.mono ?_; rintro e w9 ⟨rfl, hw9⟩; obtain rfl := hw9.symm; clear hw9))
    go_region_held3 (fun U => (U.cell? ⟨r, 0, none⟩ = some (.slice (some ⟨b, 0, none⟩) mo mo) ∧ U.cell? ⟨b, k * 7 + 1, none⟩ = some (.int .i64 ot) ∧ U.cell? ⟨b, k * 7 + 2, none⟩ = some (.int .u64 (ht_ : Int)) ∧ U.cell? ⟨b, k * 7 + 3, none⟩ = some (.int .u64 (lt_ : Int)) ∧ U.cell? ⟨b, k * 7 + 4, none⟩ = some (.int .i64 rt) ∧ U.cell? ⟨b, k * 7 + 5, none⟩ = some (.int .i64 pt)) ∧ But (· = w.heap.size) w0 U) (first | exact hC.out _ HST.out | exact hC.out _ (But.of (Below.refl _ _).drew)) (fail)
    go_wp2
    exact bodyPost_ret (v := .tuple #[tokA (ot, ht_, lt_) rt pt, .bool true]) (by simp [results, Try.results48, go_sem, r0, r1, r2, r3, r4]) rfl ⟨rfl, HB.out _ HST.out⟩
  · rw [if_neg hn]
    rw [decide_eq_false hn] at hh
    clear h h0 hB0 hn hrg
    go_enter Try.func48, Try.ntmps48
    go_upto_region 1 with fail
    rw [← hw0]
    clear hw0
    go_wp2_with (first | (go_at_call 67; refine hh.out.mono ?_; rintro e w9 ⟨rfl, hw9⟩; obtain rfl := hw9.symm; clear hw9))
    exact bodyPost_ret (v := .tuple #[tokA (0, 0, 0) 0 0, .bool false]) (by simp [results, Try.results48, go_sem, r0, r1, r2, r3, r4]) rfl ⟨rfl, HB.out _ (set5_but (S := (· = w.heap.size)) (But.refl _ _) (b := w.heap.size) rfl (0, 0, 0) 0 0)⟩

end Go.Proofs.Ytlelglfdamakaaa
