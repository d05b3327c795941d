import Derived.Test.YtfibidfkhfkfpaaC4
namespace Go.Proofs.Ytfibidfkhfkfpaa
open Go.RowKit
set_option linter.unusedVariables false

theorem below_but {w W w1 : World} {g : Nat} (h : Below w.heap.size w W) (hb : But (· = g) W w1) (hg : w.heap.size ≤ g) : Below w.heap.size w w1 :=
  But.below h hb (fun k e => by rw [show k = g from e]; exact hg)
/-- The words that the document shows first. -/
def exF (i : Nat) : Nat := if i = 0 then 300 else if i = 1 then 5 * B64 + 1 else 0
theorem exF_small (i : Nat) : exF i < B64 * B64 := by
  unfold exF
  repeat' split
  all_goals decide
theorem exF_ws (w : World) : Ws (w.alloc (Obj.cells #[.int .u64 0, .int .u64 300, .int .u64 5, .int .u64 1] 25)) (some ⟨w.heap.size, 0, none⟩) 2 2 exF := by
  refine Ws.at (Nat.le_refl _) exF_small (fun i hi => ?_)
  have h0 : hiI 300 = 0 := rfl
  have h1 : loI 300 = 300 := rfl
  have h2 : hiI (5 * B64 + 1) = 5 := rfl
  have h3 : loI (5 * B64 + 1) = 1 := rfl
  rcases (by omega : i = 0 ∨ i = 1) with rfl | rfl
  · exact ⟨by simp [go_sem, exF, h0], by simp [go_sem, exF, h1]⟩
  · exact ⟨by simp [go_sem, exF, h2], by simp [go_sem, exF, h3]⟩
theorem new_ex (w : World) :
    Calls Try.prog 6 #[.slice (some ⟨w.heap.size, 0, none⟩) 2 2, .int .i64 8] (w.alloc (Obj.cells #[.int .u64 0, .int .u64 300, .int .u64 5, .int .u64 1] 25)) fun e w' => ∃ g gb c, e = .returned (.tuple #[.pointer (some ⟨g, 0, none⟩), .int .i64 0]) ∧ hiI (c 0) = 0 ∧ loI (c 0) = 44 ∧ hiI (c 1) = 0 ∧ loI (c 1) = 1 ∧ Dr w' g gb 2 c 0 ∧ w.heap.size ≤ g ∧ w.heap.size ≤ gb ∧ Below w.heap.size w w' := by
  refine (new_ok _ 2 2 exF 8 _ (exF_ws w) (by omega) (by omega) (by omega)).mono ?_
  rintro e w' ⟨g, gb, rfl, hD, h1, h2, _, hb⟩
  simp at h1 h2
  exact ⟨g, gb, _, rfl, by decide, by decide, by decide, by decide, hD, by omega, by omega, below_call (below1 _ _) hb⟩
set_option maxRecDepth 100000 in
set_option maxHeartbeats 2000000 in
theorem known_any (w : World) :
    Calls Try.prog 7 #[] w fun e w' => e = .returned (.bool true) ∧ Below w.heap.size w w' := by
  have heq := eqlW
  go_enter Try.func7, Try.ntmps7
  go_upto_region 4 with (first | (go_at_call 6; refine (new_ex _).mono ?_; rintro e w1 ⟨g, gb, c, rfl, c0, c1, c2, c3, D0, hg, hgb, hb1⟩))
  go_upto_region 5 with (first | (go_at_call 8; refine (draw_more g gb 2 c 0 _ D0 (by omega)).mono ?_; rintro e w2 ⟨rfl, D1, hb2⟩; rw [c0, c1]))
  have X1 := Box.new w2 0 44
  have hsz2 := hb2.size
  have hlt2 := D1.lt
  go_upto_region 6 with (first | (go_at_call 8; refine (draw_more g gb 2 c 1 _ (D1.alloc _) (by omega)).mono ?_; rintro e w3 ⟨rfl, D2, hb3⟩; rw [c2, c3]; replace X1 := X1.but hb3 (by omega)))
  have X2 := Box.new w3 0 1
  replace X1 := X1.alloc (.cells #[.int .u64 0, .int .u64 1] 25)
  go_upto_region 7 with (first | (go_at_call 8; refine (draw_end g gb 2 c _ (D2.alloc _)).mono ?_; rintro e w4 ⟨rfl, hb4⟩; replace X1 := X1.later hb4; replace X2 := X2.later hb4))
  have D3 := ((D2.alloc (.cells #[.int .u64 0, .int .u64 1] 25)).later hb4).alloc (.cells #[.int .u64 0, .int .u64 0] 25)
  obtain ⟨x0, x1⟩ := X1.alloc (.cells #[.int .u64 0, .int .u64 0] 25)
  obtain ⟨x2, x3⟩ := X2.alloc (.cells #[.int .u64 0, .int .u64 0] 25)
  have HD : Hid (Dr _ g gb 2 c 2) := D3
  clear D3 X1 X2
  go_wp2_with (first | (go_at_call 10; refine (left_any g gb 2 c 2 _ HD.out).mono ?_; rintro e w5 ⟨rfl, hb5⟩) | (go_at_call 9; refine (taken_any g gb 2 c 2 _ HD.out).mono ?_; rintro e w6 ⟨rfl, rfl⟩))
  go_ret
  have b2 := below_but hb1 hb2 hg
  have b3 := below_but (below_call b2 (below1 _ _)) hb3 hg
  exact ⟨rfl, below_call (below_call (below_call (below_call b3 (below1 _ _)) hb4) (below1 _ _)) hb5⟩
end Go.Proofs.Ytfibidfkhfkfpaa
