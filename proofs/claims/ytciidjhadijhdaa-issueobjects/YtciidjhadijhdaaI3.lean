import Derived.Test.YtciidjhadijhdaaI2
namespace Go.Proofs.Ytciidjhadijhdaa.D
open Go.RowKit
open Go.Proofs.Ytciidjhadijhdaa.H (B64)
set_option linter.unusedVariables false

set_option maxRecDepth 100000 in
set_option maxHeartbeats 1000000 in
/-- issue.Draw. -/
theorem idraw_any {w : World} {g gb n : Nat} {c : Nat → Nat} {t : Nat} (h : Dr w g gb n c t) (hcs : ∀ i, i < n → c i < B64 * B64) {a : Option Addr} {m cap : Nat} {f : Nat → Nat} (hw : Ws w a m cap f) (hm : m ≤ 9223372036854775807) (hn : 0 < m → ∀ x, a = some x → x.block ≠ g) :
    Calls Try.prog 9 #[.pointer (some ⟨g, 0, none⟩), .slice a m cap] w (Drawn w g gb n c t (hasW f m)) := by
  obtain ⟨w1, hw1⟩ : ∃ w1, w1 = (w.alloc (Obj.cells #[.slice a m cap] 22)).alloc (Obj.cells #[.int .u64 0, .int .u64 0] 31) := ⟨_, rfl⟩
  have hB1 : Below w.heap.size w w1 := by rw [hw1]; exact below2 _ _ _
  have x0 : w1.cell? ⟨w.heap.size, 0, none⟩ = some (.slice a m cap) := by rw [hw1]; simp [go_sem]
  have l0 : Lies w1 ⟨w.heap.size + 1, 0, none⟩ (.int .u64 0) := by rw [hw1]; exact ⟨by simp [go_sem], by simp [go_sem]⟩
  have l1 : Lies w1 ⟨w.heap.size + 1, 1, none⟩ (.int .u64 0) := by rw [hw1]; exact ⟨by simp [go_sem], by simp [go_sem]⟩
  have hg := h.lt
  have HG := hid h.lt2
  have hc := hid (fresh33 (h.later hB1) hcs (hasW f m) w.heap.size (fun W hW N hN => isIn_any (cell_but hW x0 (by show ¬ (w.heap.size = g); omega)) ((hw.later hB1).butN hW (fun h0 x hx => hn h0 x hx)) hm hN))
  have HB1 : Hid (But (· = g) w w1) := But.of hB1
  have HL := hid (And.intro l0 l1)
  clear h hw hB1 x0 l0 l1 hn
  go_enter Try.func9, Try.ntmps9
  go_upto_region 1 with fail
  rw [← hw1]
  clear hw1
  obtain ⟨R, hR⟩ : ∃ R, R = drawR (hasW f m) c n 9 t := ⟨_, rfl⟩
  unfold Drawn at hc
  rw [← hR] at hc
  have HR := hid hR
  clear hR
  go_upto_region 2 with (first | (go_at_call 32; refine hc.out.mono ?_; rintro e w2 ⟨rfl, hD, hB⟩; have HD := hid hD; have HB := hid (HB1.out.trans hB); have HL2 : Hid (Lies w2 ⟨w.heap.size + 1, 0, none⟩ (.int .u64 0) ∧ Lies w2 ⟨w.heap.size + 1, 1, none⟩ (.int .u64 0)) := ⟨HL.out.1.but hB (by show ¬ (w.heap.size + 1 = g); omega), HL.out.2.but hB (by show ¬ (w.heap.size + 1 = g); omega)⟩; clear hD hB; have x0 := HL2.out.1.1; have x1 := HL2.out.2.1; have f0 := HL2.out.1.2; have f1 := HL2.out.2.2))
  have HQ := hid (two_set x0 x1 (.int .u64 (hiI R.1)) (.int .u64 (loI R.1)))
  refine bodyPost_ret (v := .tuple #[.agg #[.int .u64 (hiI R.1), .int .u64 (loI R.1)], .int .i64 R.2.1]) (by simp [results, Try.results9, go_sem, HQ.out.1, HQ.out.2]) rfl ?_
  show Drawn _ _ _ _ _ _ _ _ _
  unfold Drawn
  rw [← HR.out]
  refine ⟨rfl, ?_, ?_⟩
  · exact (HD.out.freshN (b := w.heap.size + 1) (by omega) (fun h0 => by have := HG.out h0; omega) 0 _).freshN (b := w.heap.size + 1) (by omega) (fun h0 => by have := HG.out h0; omega) 1 _
  · exact (HB.out.put (p := ⟨w.heap.size + 1, 0, none⟩) (by show _ ≤ w.heap.size + 1; omega) _).put (p := ⟨w.heap.size + 1, 1, none⟩) (by show _ ≤ w.heap.size + 1; omega) _
end Go.Proofs.Ytciidjhadijhdaa.D
