import Derived.Test.YtciidjhadijhdaaIC
namespace Go.Proofs.Ytciidjhadijhdaa.D
open Go.RowKit
open Go.Proofs.Ytciidjhadijhdaa.H (B64)
set_option linter.unusedVariables false

set_option maxRecDepth 100000 in
set_option maxHeartbeats 1000000 in
/-- The document's Of. -/
theorem riof_any {w : World} {g gb n : Nat} {f : Nat → Nat} {W : Int} {t : Nat} (h : Dw w g gb n f W t) {r b mo : Nat} {X : List Tk} {l : Fo} {wh : Int → Int} {ev : Nat} (hr : Rf w r b mo X l wh ev) (hv : Inv mo X l) (ht : Tim l wh ev) (o : Int) :
    Calls Try.prog 24 #[.pointer (some ⟨g, 0, none⟩), .pointer (some ⟨r, 0, none⟩), .int .i64 o] w (RDrawn w g gb n f W t (ofP X l o)) := by
  obtain ⟨w1, hw1⟩ : ∃ w1, w1 = w.alloc (Obj.cells #[.int .u64 0, .int .u64 0] 31) := ⟨_, rfl⟩
  have hB1 : Below w.heap.size w w1 := by rw [hw1]; exact below1 _ _
  have l0 : Lies w1 ⟨w.heap.size, 0, none⟩ (.int .u64 0) := by rw [hw1]; exact ⟨by simp [go_sem], by simp [go_sem]⟩
  have l1 : Lies w1 ⟨w.heap.size, 1, none⟩ (.int .u64 0) := by rw [hw1]; exact ⟨by simp [go_sem], by simp [go_sem]⟩
  have hg := h.lt
  have HG := hid h.lt2
  have hlt1 : w.heap.size < w1.heap.size := World.block_lt_of_cell? _ _ l0.1
  have hc := hid (words_any (hr.later hB1) hv ht o)
  have hln := ofL_len hv o
  have hbig := hr.big
  have HSM : Hid (∀ i, tokW (ofL mo X l o) i < B64 * B64) := tokW_small hv o
  have HP : Hid (hasW (tokW (ofL mo X l o)) (ofL mo X l o).length = ofP X l o) := funext (words_has hv o)
  have HD1 := hid (h.later hB1)
  have HB1 : Hid (But (· = g) w w1) := But.of hB1
  have HL := hid (And.intro l0 l1)
  generalize ofL mo X l o = L at *
  clear h hr hv ht hB1 l0 l1
  go_enter Try.func24, Try.ntmps24
  go_upto_region 1 with fail
  rw [← hw1]
  clear hw1
  obtain ⟨R, hR⟩ : ∃ R, R = drawR (ofP X l o) (cutF f W) n 9 t := ⟨_, rfl⟩
  have HR := hid hR
  clear hR
  go_upto_region 2 with (first | (go_at_call 16; refine hd.out.mono ?_; rintro e w3 ⟨rfl, hD3, hB3⟩; have HD3 := hid hD3; have HB3 := hid ((HB1.out.call HB2.out).trans hB3); have HL2 : Hid (Lies w3 ⟨w.heap.size, 0, none⟩ (.int .u64 0) ∧ Lies w3 ⟨w.heap.size, 1, none⟩ (.int .u64 0)) := ⟨(HL.out.1.later HB2.out).but hB3 (by show ¬ (w.heap.size = g); omega), (HL.out.2.later HB2.out).but hB3 (by show ¬ (w.heap.size = g); omega)⟩; clear hD3 hB3; have x0 := HL2.out.1.1; have x1 := HL2.out.2.1; have f0 := HL2.out.1.2; have f1 := HL2.out.2.2) | (go_at_call 49; refine hc.out.mono ?_; rintro e w2 ⟨a, c, rfl, hO, hB⟩; have HO := hid hO; have HB2 := hid hB; clear hO hB; have hd := hid (rdraw_any (HD1.out.later HB2.out) (ow_ws HO.out HSM.out) (by omega) (fun h0 x hx => by have := (HO.out.blk x.block ⟨x, hx, rfl⟩).1; omega)); unfold RDrawn at hd; rw [HP.out, ← HR.out] at hd))
  have HQ := hid (two_set x0 x1 (.int .u64 (hiI R.1)) (.int .u64 (loI R.1)))
  refine bodyPost_ret (v := .tuple #[.agg #[.int .u64 (hiI R.1), .int .u64 (loI R.1)], .int .i64 R.2.1]) (by simp [results, Try.results24, go_sem, HQ.out.1, HQ.out.2]) rfl ?_
  show RDrawn _ _ _ _ _ _ _ _ _ _
  unfold RDrawn
  rw [← HR.out]
  refine ⟨rfl, ?_, ?_⟩
  · exact (HD3.out.fresh (b := w.heap.size) (by omega) (fun h0 => by have := HG.out h0; omega) 0 _).fresh (b := w.heap.size) (by omega) (fun h0 => by have := HG.out h0; omega) 1 _
  · exact (HB3.out.put (p := ⟨w.heap.size, 0, none⟩) (Nat.le_refl _) _).put (p := ⟨w.heap.size, 1, none⟩) (Nat.le_refl _) _
end Go.Proofs.Ytciidjhadijhdaa.D
