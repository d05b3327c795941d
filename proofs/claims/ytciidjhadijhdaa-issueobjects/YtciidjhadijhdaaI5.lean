import Derived.Test.YtciidjhadijhdaaI4
namespace Go.Proofs.Ytciidjhadijhdaa.D
open Go.RowKit
open Go.Proofs.Ytciidjhadijhdaa.H (B64)
set_option linter.unusedVariables false

def kF (i : Nat) : Nat := if i = 2 then 2 else 1
theorem kF_small (i : Nat) : kF i < B64 * B64 := by
  unfold kF
  repeat' split
  all_goals decide
theorem kF_ws (w : World) : Ws (w.alloc (Obj.cells #[.int .u64 0, .int .u64 1, .int .u64 0, .int .u64 1, .int .u64 0, .int .u64 2] 31)) (some ⟨w.heap.size, 0, none⟩) 3 3 kF := by
  refine Ws.at (Nat.le_refl _) kF_small (fun i hi => ?_)
  have h0 : hiI 1 = 0 := rfl
  have h1 : loI 1 = 1 := rfl
  have h2 : hiI 2 = 0 := rfl
  have h3 : loI 2 = 2 := rfl
  rcases (by omega : i = 0 ∨ i = 1 ∨ i = 2) with rfl | rfl | rfl
  · exact ⟨by simp [go_sem, kF, h0], by simp [go_sem, kF, h1]⟩
  · exact ⟨by simp [go_sem, kF, h0], by simp [go_sem, kF, h1]⟩
  · exact ⟨by simp [go_sem, kF, h2], by simp [go_sem, kF, h3]⟩
def kc (j : Nat) : Nat := cutN (kF j) 8
theorem kc_small (i : Nat) (h : i < 3) : kc i < B64 * B64 := cutN_lt (kF_small i) 8
theorem new_kn (w : World) :
    Calls Try.prog 6 #[.slice (some ⟨w.heap.size, 0, none⟩) 3 3, .int .i64 8] (w.alloc (Obj.cells #[.int .u64 0, .int .u64 1, .int .u64 0, .int .u64 1, .int .u64 0, .int .u64 2] 31)) fun e w' => ∃ g gb, e = .returned (.tuple #[.pointer (some ⟨g, 0, none⟩), .int .i64 0]) ∧ Dr w' g gb 3 kc 0 ∧ w.heap.size ≤ g ∧ Below w.heap.size w w' := by
  refine (new_ok _ 3 3 kF 8 _ (kF_ws w) (by omega) (by omega) (by omega)).mono ?_
  rintro e w' ⟨g, gb, rfl, hD, h1, h2, _, hb⟩
  simp at h1 h2
  exact ⟨g, gb, rfl, hD, by omega, below_call (below1 _ _) hb⟩
theorem ws_none (w : World) (f : Nat → Nat) (h : ∀ i, f i < B64 * B64) : Ws w none 0 0 f := ⟨Nat.le_refl _, fun _ => ⟨rfl, rfl⟩, fun x hx => (by cases hx), h⟩
theorem kd1 {w : World} {g gb : Nat} (h : Dr w g gb 3 kc 0) :
    Calls Try.prog 9 #[.pointer (some ⟨g, 0, none⟩), .slice none 0 0] w fun e w' => e = .returned (.tuple #[.agg #[.int .u64 0, .int .u64 1], .int .i64 0]) ∧ Dr w' g gb 3 kc 1 ∧ But (· = g) w w' := by
  refine (idraw_any h kc_small (ws_none w kF kF_small) (by omega) (fun h0 => by omega)).mono ?_
  rintro e w' ⟨rfl, hD, hB⟩
  exact ⟨rfl, hD, hB⟩
theorem kd2 {w : World} {g gb b : Nat} (h : Dr w g gb 3 kc 1) (hb : b = w.heap.size) :
    Calls Try.prog 9 #[.pointer (some ⟨g, 0, none⟩), .slice (some ⟨b, 0, none⟩) 1 1] (w.alloc (Obj.cells #[.int .u64 0, .int .u64 1] 31)) fun e w' => e = .returned (.tuple #[.agg #[.int .u64 0, .int .u64 2], .int .i64 0]) ∧ Dr w' g gb 3 kc 3 ∧ But (· = g) w w' := by
  subst hb
  have hlt := h.lt
  have hws : Ws (w.alloc (Obj.cells #[.int .u64 0, .int .u64 1] 31)) (some ⟨w.heap.size, 0, none⟩) 1 1 kF := by
    refine Ws.at (Nat.le_refl _) kF_small (fun i hi => ?_)
    have h0 : hiI 1 = 0 := rfl
    have h1 : loI 1 = 1 := rfl
    obtain rfl : i = 0 := by omega
    exact ⟨by simp [go_sem, kF, h0], by simp [go_sem, kF, h1]⟩
  refine (idraw_any (h.alloc _) kc_small hws (by omega) (fun h0 x hx => by cases hx; show w.heap.size ≠ g; omega)).mono ?_
  rintro e w' ⟨rfl, hD, hB⟩
  exact ⟨rfl, hD, (But.of (below1 _ _)).trans hB⟩
theorem kd3 {w : World} {g gb : Nat} (h : Dr w g gb 3 kc 3) :
    Calls Try.prog 9 #[.pointer (some ⟨g, 0, none⟩), .slice none 0 0] w fun e w' => e = .returned (.tuple #[.agg #[.int .u64 0, .int .u64 0], .int .i64 11]) ∧ Dr w' g gb 3 kc 3 ∧ But (· = g) w w' := by
  refine (idraw_any h kc_small (ws_none w kF kF_small) (by omega) (fun h0 => by omega)).mono ?_
  rintro e w' ⟨rfl, hD, hB⟩
  exact ⟨rfl, hD, hB⟩
set_option maxRecDepth 100000 in
set_option maxHeartbeats 2000000 in
theorem known_any (w : World) :
    Calls Try.prog 7 #[] w fun e w' => e = .returned (.bool true) ∧ Below w.heap.size w w' := by
  have heq := eqlW
  go_enter Try.func7, Try.ntmps7
  go_upto_region 4 with (first | (go_at_call 6; refine (new_kn _).mono ?_; rintro e w1 ⟨g, gb, rfl, D0, hg, hb1⟩; have HD0 := hid D0; have HB1 := hid hb1; clear D0 hb1))
  have hlt := HD0.out.lt
  go_upto_region 5 with (first | (go_at_call 9; refine (kd1 HD0.out).mono ?_; rintro e w2 ⟨rfl, D1, hb2⟩; have hsz2 := hb2.size; have HD1 := hid D1; have HB2 := hid (below_but HB1.out hb2 hg); clear D1 hb2))
  have X1 := hid (Box.new w2 0 1)
  go_upto_region 6 with (first | (go_at_call 9; refine (kd2 (HD1.out.alloc _) (by simp)).mono ?_; rintro e w3 ⟨rfl, D2, hb3⟩; have hsz3 := hb3.size; have HD2 := hid D2; have HB3 := hid (below_but (below_call HB2.out (below1 _ _)) hb3 hg); have X2 := hid (X1.out.but hb3 (by show ¬ (w2.heap.size = g); omega)); clear D2 hb3 X1))
  have Y1 := hid (Box.new w3 0 2)
  have X3 := hid (X2.out.alloc (.cells #[.int .u64 0, .int .u64 2] 31))
  simp at hsz3
  clear X2
  go_upto_region 7 with (first | (go_at_call 9; refine (kd3 (HD2.out.alloc _)).mono ?_; rintro e w4 ⟨rfl, D3, hb4⟩; have HD3 := hid D3; have HB4 := hid (below_but (below_call HB3.out (below1 _ _)) hb4 hg); have X4 := hid (X3.out.but hb4 (by show ¬ (w2.heap.size = g); omega)); have Y2 := hid (Y1.out.but hb4 (by show ¬ (w3.heap.size = g); omega)); clear D3 hb4 X3 Y1))
  obtain ⟨x0, x1⟩ := X4.out.alloc (.cells #[.int .u64 0, .int .u64 0] 31)
  obtain ⟨x2, x3⟩ := Y2.out.alloc (.cells #[.int .u64 0, .int .u64 0] 31)
  have HD4 := hid (HD3.out.alloc (.cells #[.int .u64 0, .int .u64 0] 31))
  clear X4 Y2
  go_wp2_with (first | (go_at_call 10; refine (taken_any g gb 3 kc 3 _ HD4.out).mono ?_; rintro e w6 ⟨rfl, rfl⟩))
  go_ret
  exact ⟨rfl, below_call HB4.out (below1 _ _)⟩
end Go.Proofs.Ytciidjhadijhdaa.D
