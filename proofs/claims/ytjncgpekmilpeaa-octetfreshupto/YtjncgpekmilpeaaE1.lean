import Derived.Test.YtjncgpekmilpeaaD3
import Derived.Test.YtjncgpekmilpeaaLP
namespace Go.Proofs.Ytjncgpekmilpeaa
open Go.RowKit
set_option linter.unusedVariables false

theorem eq25 (a b : Int) (w : World) : (binOp .eql 25 (.agg #[.int .u64 a, .int .u64 b]) (.agg #[.int .u64 a, .int .u64 b])).run Try.prog w = .ok (.bool true) w := by simp [go_sem]
theorem eq27 (o a b : Int) (w : World) : (binOp .eql 27 (.agg #[.int .i64 o, .int .u64 a, .int .u64 b]) (.agg #[.int .i64 o, .int .u64 a, .int .u64 b])).run Try.prog w = .ok (.bool true) w := by simp [go_sem]
/-- A call's box. -/
def OBox (w : World) (b : Nat) (k n m : Int) : Prop := w.cell? ⟨b, 0, none⟩ = some (.int .i64 k) ∧ w.cell? ⟨b, 1, none⟩ = some (.int .i64 n) ∧ w.cell? ⟨b, 2, none⟩ = some (.int .i64 m)
theorem OBox.new (w : World) (k n m : Int) : OBox (w.alloc (.cells #[.int .i64 k, .int .i64 n, .int .i64 m] 76)) w.heap.size k n m := ⟨by simp [go_sem], by simp [go_sem], by simp [go_sem]⟩
theorem OBox.but {S : Nat → Prop} {w w' : World} {b : Nat} {k n m : Int} (hb : But S w w') (h : OBox w b k n m) (hn : ¬ S b) : OBox w' b k n m := by
  have hk := hb.block b (World.block_lt_of_cell? _ _ h.1) hn
  exact ⟨by rw [World.cell?_of_block (w := w) hk]; exact h.1, by rw [World.cell?_of_block (w := w) hk]; exact h.2.1, by rw [World.cell?_of_block (w := w) hk]; exact h.2.2⟩

set_option maxRecDepth 100000 in
set_option maxHeartbeats 2000000 in
theorem step0 (g gb h hb : Nat) (R : List Nat) (k n m : Int) (w : World) (r : Rd w g gb R) (q : Rd w h hb R) (h1 : h ≠ g) (h2 : hb ≠ g) (h3 : gb ≠ h) (hm : m < 9223372036854775808) (hr : R.length ≤ 140737488355328) (hk : k = 0) :
    Calls Try.prog 34 #[.pointer (some ⟨g, 0, none⟩), .pointer (some ⟨h, 0, none⟩), .agg #[.int .i64 k, .int .i64 n, .int .i64 m]] w fun e w' => e = .returned (.bool true) ∧ (∃ R', Rd w' g gb R' ∧ Rd w' h hb R' ∧ R'.length ≤ R.length) ∧ But (fun b => b = g ∨ b = h) w w' := by
  have X := OBox.new w k n m
  have hg := r.lt
  have hh := q.lt
  replace r := r.alloc (.cells #[.int .i64 k, .int .i64 n, .int .i64 m] 76)
  replace q := q.alloc (.cells #[.int .i64 k, .int .i64 n, .int .i64 m] 76)
  have hb0 : But (fun b => b = g ∨ b = h) w (w.alloc (.cells #[.int .i64 k, .int .i64 n, .int .i64 m] 76)) := But.of (below1 _ _)
  have x0 := X.1
  have x1 := X.2.1
  have x2 := X.2.2
  have HR : Hid (R.length ≤ 140737488355328) := hr
  clear hr
  subst hk
  go_enter Try.func34, Try.ntmps34
  go_upto_region 4 with (first | (go_at_call 25; refine (number_any g gb R n _ r).mono ?_; rintro e w1 ⟨rfl, r1, hbut⟩; replace hb0 := hb0.trans (hbut.mono (fun b hb => Or.inl hb)); replace q := q.but hbut (by omega) (by omega); replace X := X.but hbut (by omega)))
  clear x0 x1 x2
  have x1 := X.2.1
  have x2 := X.2.2
  go_upto_region 5 with (first | (go_at_call 52; refine (rnumber_any h hb R n _ q).mono ?_; rintro e w2 ⟨rfl, q1, hbut2⟩; replace hb0 := hb0.trans (hbut2.mono (fun b hb => Or.inr hb)); replace r1 := r1.but hbut2 (by omega) (by omega)))
  go_wp2
  go_ret
  exact ⟨rfl, ⟨_, r1, q1, by simp⟩, hb0⟩

set_option maxRecDepth 100000 in
set_option maxHeartbeats 2000000 in
theorem step1 (g gb h hb : Nat) (R : List Nat) (k n m : Int) (w : World) (r : Rd w g gb R) (q : Rd w h hb R) (h1 : h ≠ g) (h2 : hb ≠ g) (h3 : gb ≠ h) (hm : m < 9223372036854775808) (hr : R.length ≤ 140737488355328) (hk : k = 1) :
    Calls Try.prog 34 #[.pointer (some ⟨g, 0, none⟩), .pointer (some ⟨h, 0, none⟩), .agg #[.int .i64 k, .int .i64 n, .int .i64 m]] w fun e w' => e = .returned (.bool true) ∧ (∃ R', Rd w' g gb R' ∧ Rd w' h hb R' ∧ R'.length ≤ R.length) ∧ But (fun b => b = g ∨ b = h) w w' := by
  have X := OBox.new w k n m
  have hg := r.lt
  have hh := q.lt
  replace r := r.alloc (.cells #[.int .i64 k, .int .i64 n, .int .i64 m] 76)
  replace q := q.alloc (.cells #[.int .i64 k, .int .i64 n, .int .i64 m] 76)
  have hb0 : But (fun b => b = g ∨ b = h) w (w.alloc (.cells #[.int .i64 k, .int .i64 n, .int .i64 m] 76)) := But.of (below1 _ _)
  have x0 := X.1
  have x1 := X.2.1
  have x2 := X.2.2
  have HR : Hid (R.length ≤ 140737488355328) := hr
  clear hr
  subst hk
  go_enter Try.func34, Try.ntmps34
  go_upto_region 8 with (first | (go_at_call 36; refine (int_any g gb R n m _ r hm).mono ?_; rintro e w1 ⟨rfl, r1, hbut⟩; replace hb0 := hb0.trans (hbut.mono (fun b hb => Or.inl hb)); replace q := q.but hbut (by omega) (by omega); replace X := X.but hbut (by omega)))
  clear x0 x1 x2
  have x1 := X.2.1
  have x2 := X.2.2
  go_upto_region 9 with (first | (go_at_call 53; refine (rint_any h hb R n m _ q hm).mono ?_; rintro e w2 ⟨rfl, q1, hbut2⟩; replace hb0 := hb0.trans (hbut2.mono (fun b hb => Or.inr hb)); replace r1 := r1.but hbut2 (by omega) (by omega)))
  go_wp2
  go_ret
  exact ⟨rfl, ⟨_, r1, q1, by simp⟩, hb0⟩

set_option maxRecDepth 100000 in
set_option maxHeartbeats 2000000 in
theorem step2 (g gb h hb : Nat) (R : List Nat) (k n m : Int) (w : World) (r : Rd w g gb R) (q : Rd w h hb R) (h1 : h ≠ g) (h2 : hb ≠ g) (h3 : gb ≠ h) (hm : m < 9223372036854775808) (hr : R.length ≤ 140737488355328) (hk : k = 2) :
    Calls Try.prog 34 #[.pointer (some ⟨g, 0, none⟩), .pointer (some ⟨h, 0, none⟩), .agg #[.int .i64 k, .int .i64 n, .int .i64 m]] w fun e w' => e = .returned (.bool true) ∧ (∃ R', Rd w' g gb R' ∧ Rd w' h hb R' ∧ R'.length ≤ R.length) ∧ But (fun b => b = g ∨ b = h) w w' := by
  have X := OBox.new w k n m
  have hg := r.lt
  have hh := q.lt
  replace r := r.alloc (.cells #[.int .i64 k, .int .i64 n, .int .i64 m] 76)
  replace q := q.alloc (.cells #[.int .i64 k, .int .i64 n, .int .i64 m] 76)
  have hb0 : But (fun b => b = g ∨ b = h) w (w.alloc (.cells #[.int .i64 k, .int .i64 n, .int .i64 m] 76)) := But.of (below1 _ _)
  have x0 := X.1
  have x1 := X.2.1
  have x2 := X.2.2
  have HR : Hid (R.length ≤ 140737488355328) := hr
  clear hr
  subst hk
  go_enter Try.func34, Try.ntmps34
  go_upto_region 12 with (first | (go_at_call 11; refine (row_any g gb R n _ r HR.out).mono ?_; rintro e w1 ⟨a1, m1, c1, rfl, o1, r1, hbut⟩; replace hb0 := hb0.trans (hbut.mono (fun b hb => Or.inl hb)); replace q := q.but hbut (by omega) (by omega); replace X := X.but hbut (by omega)))
  clear x0 x1 x2
  have x1 := X.2.1
  have x2 := X.2.2
  go_upto_region 13 with (first | (go_at_call 54; refine (rrow_any h hb R n _ q HR.out).mono ?_; rintro e w2 ⟨a2, m2, c2, rfl, o2, q1, hbut2⟩; replace hb0 := hb0.trans (hbut2.mono (fun b hb => Or.inr hb)); replace r1 := r1.but hbut2 (by omega) (by omega)))
  replace o1 := o1.but hbut2 (fun b hb e => by have := hbut.size; simp at this hb; omega)
  go_wp2_with (first | (go_at_call 18; refine (same_eq _ _ _ _ _ _ _ _ o1.read o2.read).mono ?_; rintro e ws ⟨rfl, rfl⟩))
  go_ret
  exact ⟨rfl, ⟨_, r1, q1, by simp⟩, hb0⟩

set_option maxRecDepth 100000 in
set_option maxHeartbeats 2000000 in
theorem step3 (g gb h hb : Nat) (R : List Nat) (k n m : Int) (w : World) (r : Rd w g gb R) (q : Rd w h hb R) (h1 : h ≠ g) (h2 : hb ≠ g) (h3 : gb ≠ h) (hm : m < 9223372036854775808) (hr : R.length ≤ 140737488355328) (hk : k = 3) :
    Calls Try.prog 34 #[.pointer (some ⟨g, 0, none⟩), .pointer (some ⟨h, 0, none⟩), .agg #[.int .i64 k, .int .i64 n, .int .i64 m]] w fun e w' => e = .returned (.bool true) ∧ (∃ R', Rd w' g gb R' ∧ Rd w' h hb R' ∧ R'.length ≤ R.length) ∧ But (fun b => b = g ∨ b = h) w w' := by
  have X := OBox.new w k n m
  have hg := r.lt
  have hh := q.lt
  replace r := r.alloc (.cells #[.int .i64 k, .int .i64 n, .int .i64 m] 76)
  replace q := q.alloc (.cells #[.int .i64 k, .int .i64 n, .int .i64 m] 76)
  have hb0 : But (fun b => b = g ∨ b = h) w (w.alloc (.cells #[.int .i64 k, .int .i64 n, .int .i64 m] 76)) := But.of (below1 _ _)
  have x0 := X.1
  have x1 := X.2.1
  have x2 := X.2.2
  have HR : Hid (R.length ≤ 140737488355328) := hr
  clear hr
  subst hk
  have heq := eq25
  go_enter Try.func34, Try.ntmps34
  go_upto_region 16 with (first | (go_at_call 49; refine (word_any g gb R _ r).mono ?_; rintro e w1 ⟨rfl, r1, hbut⟩; replace hb0 := hb0.trans (hbut.mono (fun b hb => Or.inl hb)); replace q := q.but hbut (by omega) (by omega); replace X := X.but hbut (by omega)))
  clear x0 x1 x2
  have hw1 := hb0.size
  replace r1 := r1.alloc (Obj.cells #[.int .u64 ((wordHi R : Nat) : Int), .int .u64 ((wordLo R : Nat) : Int)] 25)
  replace q := q.alloc (Obj.cells #[.int .u64 ((wordHi R : Nat) : Int), .int .u64 ((wordLo R : Nat) : Int)] 25)
  replace hb0 := hb0.alloc (Obj.cells #[.int .u64 ((wordHi R : Nat) : Int), .int .u64 ((wordLo R : Nat) : Int)] 25)
  have Y := Box.new w1 ((wordHi R : Nat) : Int) ((wordLo R : Nat) : Int)
  go_upto_region 17 with (first | (go_at_call 55; refine (rword_any h hb R _ q).mono ?_; rintro e w2 ⟨rfl, q1, hbut2⟩; replace hb0 := hb0.trans (hbut2.mono (fun b hb => Or.inr hb)); replace r1 := r1.but hbut2 (by omega) (by omega); replace Y := Y.but hbut2 (by omega)))
  replace r1 := r1.alloc (Obj.cells #[.int .u64 ((wordHi R : Nat) : Int), .int .u64 ((wordLo R : Nat) : Int)] 25)
  replace q1 := q1.alloc (Obj.cells #[.int .u64 ((wordHi R : Nat) : Int), .int .u64 ((wordLo R : Nat) : Int)] 25)
  replace hb0 := hb0.alloc (Obj.cells #[.int .u64 ((wordHi R : Nat) : Int), .int .u64 ((wordLo R : Nat) : Int)] 25)
  replace Y := Y.later (below1 w2 (Obj.cells #[.int .u64 ((wordHi R : Nat) : Int), .int .u64 ((wordLo R : Nat) : Int)] 25))
  have Z := Box.new w2 ((wordHi R : Nat) : Int) ((wordLo R : Nat) : Int)
  have y0 := Y.1
  have y1 := Y.2
  have z0 := Z.1
  have z1 := Z.2
  go_wp2
  go_ret
  exact ⟨rfl, ⟨_, r1, q1, by simp⟩, hb0⟩

set_option maxRecDepth 100000 in
set_option maxHeartbeats 2000000 in
theorem step4 (g gb h hb : Nat) (R : List Nat) (k n m : Int) (w : World) (r : Rd w g gb R) (q : Rd w h hb R) (h1 : h ≠ g) (h2 : hb ≠ g) (h3 : gb ≠ h) (hm : m < 9223372036854775808) (hr : R.length ≤ 140737488355328) (hk : k = 4) :
    Calls Try.prog 34 #[.pointer (some ⟨g, 0, none⟩), .pointer (some ⟨h, 0, none⟩), .agg #[.int .i64 k, .int .i64 n, .int .i64 m]] w fun e w' => e = .returned (.bool true) ∧ (∃ R', Rd w' g gb R' ∧ Rd w' h hb R' ∧ R'.length ≤ R.length) ∧ But (fun b => b = g ∨ b = h) w w' := by
  have X := OBox.new w k n m
  have hg := r.lt
  have hh := q.lt
  replace r := r.alloc (.cells #[.int .i64 k, .int .i64 n, .int .i64 m] 76)
  replace q := q.alloc (.cells #[.int .i64 k, .int .i64 n, .int .i64 m] 76)
  have hb0 : But (fun b => b = g ∨ b = h) w (w.alloc (.cells #[.int .i64 k, .int .i64 n, .int .i64 m] 76)) := But.of (below1 _ _)
  have x0 := X.1
  have x1 := X.2.1
  have x2 := X.2.2
  have HR : Hid (R.length ≤ 140737488355328) := hr
  clear hr
  subst hk
  have heq := eq27
  go_enter Try.func34, Try.ntmps34
  go_upto_region 20 with (first | (go_at_call 50; refine (cap_any g gb R _ r).mono ?_; rintro e w1 ⟨rfl, r1, hbut⟩; replace hb0 := hb0.trans (hbut.mono (fun b hb => Or.inl hb)); replace q := q.but hbut (by omega) (by omega); replace X := X.but hbut (by omega)))
  clear x0 x1 x2
  have hw1 := hb0.size
  replace r1 := r1.alloc (Obj.cells #[.int .i64 ((capObj R : Nat) : Int), .int .u64 ((capHi R : Nat) : Int), .int .u64 ((capLo R : Nat) : Int)] 27)
  replace q := q.alloc (Obj.cells #[.int .i64 ((capObj R : Nat) : Int), .int .u64 ((capHi R : Nat) : Int), .int .u64 ((capLo R : Nat) : Int)] 27)
  replace hb0 := hb0.alloc (Obj.cells #[.int .i64 ((capObj R : Nat) : Int), .int .u64 ((capHi R : Nat) : Int), .int .u64 ((capLo R : Nat) : Int)] 27)
  have Y := CBox.new w1 ((capObj R : Nat) : Int) ((capHi R : Nat) : Int) ((capLo R : Nat) : Int)
  go_upto_region 21 with (first | (go_at_call 56; refine (rcap_any h hb R _ q).mono ?_; rintro e w2 ⟨rfl, q1, hbut2⟩; replace hb0 := hb0.trans (hbut2.mono (fun b hb => Or.inr hb)); replace r1 := r1.but hbut2 (by omega) (by omega); replace Y := Y.but hbut2 (by omega)))
  replace r1 := r1.alloc (Obj.cells #[.int .i64 ((capObj R : Nat) : Int), .int .u64 ((capHi R : Nat) : Int), .int .u64 ((capLo R : Nat) : Int)] 27)
  replace q1 := q1.alloc (Obj.cells #[.int .i64 ((capObj R : Nat) : Int), .int .u64 ((capHi R : Nat) : Int), .int .u64 ((capLo R : Nat) : Int)] 27)
  replace hb0 := hb0.alloc (Obj.cells #[.int .i64 ((capObj R : Nat) : Int), .int .u64 ((capHi R : Nat) : Int), .int .u64 ((capLo R : Nat) : Int)] 27)
  replace Y := Y.later (below1 w2 (Obj.cells #[.int .i64 ((capObj R : Nat) : Int), .int .u64 ((capHi R : Nat) : Int), .int .u64 ((capLo R : Nat) : Int)] 27))
  have Z := CBox.new w2 ((capObj R : Nat) : Int) ((capHi R : Nat) : Int) ((capLo R : Nat) : Int)
  have y0 := Y.1
  have y1 := Y.2.1
  have y2 := Y.2.2
  have z0 := Z.1
  have z1 := Z.2.1
  have z2 := Z.2.2
  go_wp2
  go_ret
  exact ⟨rfl, ⟨_, r1, q1, by simp⟩, hb0⟩

set_option maxRecDepth 100000 in
set_option maxHeartbeats 2000000 in
theorem stepN (g gb h hb : Nat) (R : List Nat) (k n m : Int) (w : World) (r : Rd w g gb R) (q : Rd w h hb R) (h1 : h ≠ g) (h2 : hb ≠ g) (h3 : gb ≠ h) (hm : m < 9223372036854775808) (hr : R.length ≤ 140737488355328) (hk : ¬ (k = 0 ∨ k = 1 ∨ k = 2 ∨ k = 3 ∨ k = 4)) :
    Calls Try.prog 34 #[.pointer (some ⟨g, 0, none⟩), .pointer (some ⟨h, 0, none⟩), .agg #[.int .i64 k, .int .i64 n, .int .i64 m]] w fun e w' => e = .returned (.bool true) ∧ (∃ R', Rd w' g gb R' ∧ Rd w' h hb R' ∧ R'.length ≤ R.length) ∧ But (fun b => b = g ∨ b = h) w w' := by
  have X := OBox.new w k n m
  have hg := r.lt
  have hh := q.lt
  replace r := r.alloc (.cells #[.int .i64 k, .int .i64 n, .int .i64 m] 76)
  replace q := q.alloc (.cells #[.int .i64 k, .int .i64 n, .int .i64 m] 76)
  have hb0 : But (fun b => b = g ∨ b = h) w (w.alloc (.cells #[.int .i64 k, .int .i64 n, .int .i64 m] 76)) := But.of (below1 _ _)
  have x0 := X.1
  have x1 := X.2.1
  have x2 := X.2.2
  have HR : Hid (R.length ≤ 140737488355328) := hr
  clear hr
  have b0 : (k == 0) = false := by simp; omega
  have b1 : (k == 1) = false := by simp; omega
  have b2 : (k == 2) = false := by simp; omega
  have b3 : (k == 3) = false := by simp; omega
  have b4 : (k == 4) = false := by simp; omega
  clear hk
  go_enter Try.func34, Try.ntmps34
  go_wp2
  go_ret
  exact ⟨rfl, ⟨_, r, q, Nat.le_refl _⟩, hb0⟩
theorem step_any (g gb h hb : Nat) (R : List Nat) (k n m : Int) (w : World) (r : Rd w g gb R) (q : Rd w h hb R) (h1 : h ≠ g) (h2 : hb ≠ g) (h3 : gb ≠ h) (hm : m < 9223372036854775808) (hr : R.length ≤ 140737488355328) :
    Calls Try.prog 34 #[.pointer (some ⟨g, 0, none⟩), .pointer (some ⟨h, 0, none⟩), .agg #[.int .i64 k, .int .i64 n, .int .i64 m]] w fun e w' => e = .returned (.bool true) ∧ (∃ R', Rd w' g gb R' ∧ Rd w' h hb R' ∧ R'.length ≤ R.length) ∧ But (fun b => b = g ∨ b = h) w w' := by
  by_cases c0 : k = 0
  · exact step0 g gb h hb R k n m w r q h1 h2 h3 hm hr c0
  by_cases c1 : k = 1
  · exact step1 g gb h hb R k n m w r q h1 h2 h3 hm hr c1
  by_cases c2 : k = 2
  · exact step2 g gb h hb R k n m w r q h1 h2 h3 hm hr c2
  by_cases c3 : k = 3
  · exact step3 g gb h hb R k n m w r q h1 h2 h3 hm hr c3
  by_cases c4 : k = 4
  · exact step4 g gb h hb R k n m w r q h1 h2 h3 hm hr c4
  exact stepN g gb h hb R k n m w r q h1 h2 h3 hm hr (by omega)
end Go.Proofs.Ytjncgpekmilpeaa
