import Derived.Test.YtcagghfkomodlaaB3
import Derived.Test.YtcagghfkomodlaaR1
namespace Go.Proofs.Ytcagghfkomodlaa
open Go.RowKit
set_option linter.unusedVariables false
set_option linter.unusedSimpArgs false
variable {w w' : World} {base g : Nat} {m : Int} {pa : Option Addr} {cap : Nat} {K : List Cp}
set_option maxRecDepth 100000 in
set_option maxHeartbeats 1000000 in
theorem rat_ok (h : Dm w base g m pa cap K) (i : Nat) (c : Cp) (hc : K[i]? = some c) :
    Calls Try.prog 23 #[.pointer (some ⟨g, 0, none⟩), .int .i64 (i : Int)] w fun e w' => e = .returned (.tuple #[.agg #[.int .i64 c.1, .int .u64 (c.2.1 : Int), .int .u64 (c.2.2 : Int)], .int .i64 0]) ∧ Below w.heap.size w w' := by
  have hi : i < K.length := (List.getElem?_eq_some_iff.1 hc).1
  obtain ⟨w0, hw0⟩ : ∃ w0, w0 = w.alloc (Obj.cells #[.int .i64 0, .int .u64 0, .int .u64 0] 35) := ⟨_, rfl⟩
  have hB0 : Below w.heap.size w w0 := by rw [hw0]; exact below1 _ _
  obtain ⟨⟨r0, f0⟩, ⟨r1, f1⟩, ⟨r2, f2⟩⟩ : Bz w0 w.heap.size := by rw [hw0]; exact Bz.new w
  have h0 := h.later hB0
  have hd1 : decide ((i : Int) < 0) = false := decide_eq_false (by omega)
  have hd2 : decide ((i : Int) ≥ (K.length : Int)) = false := decide_eq_false (by omega)
  obtain ⟨b, o, rfl, hcel⟩ := h0.rd.at_ (by omega)
  obtain ⟨x0, x1, x2⟩ := hcel i c hc
  have y1 := h0.c1.1
  have HB : Hid (∀ W, But (· = w.heap.size) w0 W → Below w.heap.size w W) := fun W hW => But.below hB0 hW (fun k e => by omega)
  clear h h0 hB0 hc hcel
  go_enter Try.func23, Try.ntmps23
  go_upto_region 1 with fail
  rw [← hw0]
  clear hw0
  go_wp2
  exact bodyPost_ret (v := .tuple #[.agg #[.int .i64 c.1, .int .u64 (c.2.1 : Int), .int .u64 (c.2.2 : Int)], .int .i64 0]) (by simp [results, Try.results23, go_sem, r0, r1, r2]) rfl ⟨rfl, HB.out _ (setC_but (S := (· = w.heap.size)) (But.refl _ _) (b := w.heap.size) rfl 0 c)⟩
set_option maxRecDepth 100000 in
set_option maxHeartbeats 1000000 in
theorem rat_bad (h : Dm w base g m pa cap K) (i : Int) (hb : okI K i = false) :
    Calls Try.prog 23 #[.pointer (some ⟨g, 0, none⟩), .int .i64 i] w fun e w' => e = .returned (.tuple #[.agg #[.int .i64 0, .int .u64 0, .int .u64 0], .int .i64 15]) ∧ Below w.heap.size w w' := by
  obtain ⟨w0, hw0⟩ : ∃ w0, w0 = w.alloc (Obj.cells #[.int .i64 0, .int .u64 0, .int .u64 0] 35) := ⟨_, rfl⟩
  have hB0 : Below w.heap.size w w0 := by rw [hw0]; exact below1 _ _
  obtain ⟨⟨r0, f0⟩, ⟨r1, f1⟩, ⟨r2, f2⟩⟩ : Bz w0 w.heap.size := by rw [hw0]; exact Bz.new w
  have h0 := h.later hB0
  have y1 := h0.c1.1
  have HB : Hid (∀ W, But (· = w.heap.size) w0 W → Below w.heap.size w W) := fun W hW => But.below hB0 hW (fun k e => by omega)
  clear h h0 hB0
  by_cases h1 : i < 0
  · have hd1 : decide (i < 0) = true := decide_eq_true h1
    go_enter Try.func23, Try.ntmps23
    go_upto_region 1 with fail
    rw [← hw0]
    clear hw0
    go_wp2
    exact bodyPost_ret (v := .tuple #[.agg #[.int .i64 0, .int .u64 0, .int .u64 0], .int .i64 15]) (by simp [results, Try.results23, go_sem, r0, r1, r2]) rfl ⟨rfl, HB.out _ (setC_but (S := (· = w.heap.size)) (But.refl _ _) (b := w.heap.size) rfl 0 (0, 0, 0))⟩
  · have hd1 : decide (i < 0) = false := decide_eq_false h1
    have hd2 : decide (i ≥ (K.length : Int)) = true := decide_eq_true (by
      have := of_decide_eq_false hb
      omega)
    go_enter Try.func23, Try.ntmps23
    go_upto_region 1 with fail
    rw [← hw0]
    clear hw0
    go_wp2
    exact bodyPost_ret (v := .tuple #[.agg #[.int .i64 0, .int .u64 0, .int .u64 0], .int .i64 15]) (by simp [results, Try.results23, go_sem, r0, r1, r2]) rfl ⟨rfl, HB.out _ (setC_but (S := (· = w.heap.size)) (But.refl _ _) (b := w.heap.size) rfl 0 (0, 0, 0))⟩
end Go.Proofs.Ytcagghfkomodlaa
