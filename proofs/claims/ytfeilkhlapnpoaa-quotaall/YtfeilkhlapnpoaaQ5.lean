import Derived.Test.YtfeilkhlapnpoaaQ4
namespace Go.Proofs.Ytfeilkhlapnpoaa
open Go.RowKit Go.Maps
set_option linter.unusedVariables false

theorem add_at {w W : World} {g b : Nat} {e a : Int} {L M : List Int} {m : Int} (hbb : w.heap.size ≤ b) (h : Qu W g b e a L) (hB : Below w.heap.size w W) (x : Int) (hx : (Lit.int .i64 x).wf = true) (hm : may e a L x = m) (hM : addL e a L x = M) :
    Calls Try.prog 11 #[.pointer (some ⟨g, 0, none⟩), .int .i64 x] W fun r w' => r = .returned (.int .i64 m) ∧ Qu w' g b e a M ∧ Below w.heap.size w w' := by
  refine (add_any h x hx).mono ?_
  rintro r w' ⟨rfl, h1, h2⟩
  rw [hm]
  rw [hM] at h1
  exact ⟨rfl, h1, But.below hB h2 (fun k hk => by omega)⟩
theorem ob_head : ob [7, 7, -1] = [-1, 7] := lt_one (ob_lt _) (by decide) (fun x => by rw [ob_mem]; simp; omega)
theorem Row.two (w : World) (x y : Int) : Row (w.alloc (Obj.cells #[.int .i64 x, .int .i64 y] 3)) (some ⟨w.heap.size, 0, none⟩) 2 2 (ints [x, y]) :=
  Row.at rfl (Nat.le_refl _) (ints_one _) (fun i u hu => by
    match i with
    | 0 => simp [ints] at hu; subst hu; simp [go_sem]
    | 1 => simp [ints] at hu; subst hu; simp [go_sem]
    | i + 2 => simp [ints] at hu)
set_option maxRecDepth 100000 in
set_option maxHeartbeats 2000000 in
theorem head_any (w : World) : Calls Try.prog 6 #[] w fun r w' => r = .returned (.bool true) ∧ Below w.heap.size w w' := by
  go_enter Try.func6, Try.ntmps6
  go_upto_region 4 with (first | (go_at_call 7; refine (new_ok 2 3 w (by unfold okB; omega)).mono ?_; rintro e w1 ⟨g, b, rfl, hq, hg, hb, hbl⟩; have HQ := hid hq; have HB := hid hbl; clear hq hbl))
  have hA1 : Hid (∀ W, Qu W g b 2 3 [] → Below w.heap.size w W → Calls Try.prog 11 #[.pointer (some ⟨g, 0, none⟩), .int .i64 7] W fun r w' => r = .returned (.int .i64 0) ∧ Qu w' g b 2 3 [7] ∧ Below w.heap.size w w') := fun W h hB => add_at hb h hB 7 (by decide) (by decide) (by decide)
  have hA2 : Hid (∀ W, Qu W g b 2 3 [7] → Below w.heap.size w W → Calls Try.prog 11 #[.pointer (some ⟨g, 0, none⟩), .int .i64 7] W fun r w' => r = .returned (.int .i64 0) ∧ Qu w' g b 2 3 [7, 7] ∧ Below w.heap.size w w') := fun W h hB => add_at hb h hB 7 (by decide) (by decide) (by decide)
  have hA3 : Hid (∀ W, Qu W g b 2 3 [7, 7] → Below w.heap.size w W → Calls Try.prog 11 #[.pointer (some ⟨g, 0, none⟩), .int .i64 7] W fun r w' => r = .returned (.int .i64 9) ∧ Qu w' g b 2 3 [7, 7] ∧ Below w.heap.size w w') := fun W h hB => add_at hb h hB 7 (by decide) (by decide) (by decide)
  have hA4 : Hid (∀ W, Qu W g b 2 3 [7, 7] → Below w.heap.size w W → Calls Try.prog 11 #[.pointer (some ⟨g, 0, none⟩), .int .i64 (-1)] W fun r w' => r = .returned (.int .i64 0) ∧ Qu w' g b 2 3 [7, 7, -1] ∧ Below w.heap.size w w') := fun W h hB => add_at hb h hB (-1) (by decide) (by decide) (by decide)
  have hA5 : Hid (∀ W, Qu W g b 2 3 [7, 7, -1] → Below w.heap.size w W → Calls Try.prog 11 #[.pointer (some ⟨g, 0, none⟩), .int .i64 8] W fun r w' => r = .returned (.int .i64 10) ∧ Qu w' g b 2 3 [7, 7, -1] ∧ Below w.heap.size w w') := fun W h hB => add_at hb h hB 8 (by decide) (by decide) (by decide)
  go_upto_region 5 with (first
    | (go_at_call 11; have hc := hA1.out _ HQ.out HB.out; refine hc.mono ?_; clear hc; rintro e w2 ⟨rfl, hq, hbl⟩; have HQ := hid hq; have HB := hid hbl; clear hq hbl)
    | (go_at_call 11; have hc := hA2.out _ HQ.out HB.out; refine hc.mono ?_; clear hc; rintro e w2 ⟨rfl, hq, hbl⟩; have HQ := hid hq; have HB := hid hbl; clear hq hbl)
    | (go_at_call 11; have hc := hA3.out _ HQ.out HB.out; refine hc.mono ?_; clear hc; rintro e w2 ⟨rfl, hq, hbl⟩; have HQ := hid hq; have HB := hid hbl; clear hq hbl))
  go_upto_region 6 with (first
    | (go_at_call 11; have hc := hA4.out _ HQ.out HB.out; refine hc.mono ?_; clear hc; rintro e w2 ⟨rfl, hq, hbl⟩; have HQ := hid hq; have HB := hid hbl; clear hq hbl)
    | (go_at_call 11; have hc := hA5.out _ HQ.out HB.out; refine hc.mono ?_; clear hc; rintro e w2 ⟨rfl, hq, hbl⟩; have HQ := hid hq; have HB := hid hbl; clear hq hbl))
  clear hA1 hA2 hA3 hA4 hA5
  have hof : Hid (Calls Try.prog 8 #[.pointer (some ⟨g, 0, none⟩), .int .i64 7] w2 fun r w' => r = .returned (.int .i64 2) ∧ w' = w2) := of_any HQ.out 7 (by decide)
  have hal : Hid (Calls Try.prog 9 #[.pointer (some ⟨g, 0, none⟩)] w2 fun r w' => r = .returned (.int .i64 3) ∧ Below w2.heap.size w2 w') := all_any HQ.out
  have hobj : Hid (∀ U, Below w2.heap.size w2 U → Calls Try.prog 12 #[.pointer (some ⟨g, 0, none⟩)] U fun r w' => ∃ p cap, r = .returned (.slice p 2 cap) ∧ Own w' U.heap.size 3 p 2 cap (ints [-1, 7]) ∧ Below U.heap.size U w') := fun U hU => by
    have := objects_any (HQ.out.later hU)
    rw [ob_head] at this
    exact this
  have HBw := hid HB.out
  clear HB HQ
  go_wp2_with (first
    | (go_at_call 8; refine hof.out.mono ?_; rintro e w9 ⟨rfl, hw9⟩; obtain rfl := hw9.symm; clear hw9)
    | (go_at_call 9; refine hal.out.mono ?_; rintro e w3 ⟨rfl, hb3⟩; have HB3 := hid hb3; clear hb3)
    | (go_at_call 12; refine (hobj.out _ HB3.out).mono ?_; rintro e w4 ⟨p, cap, rfl, ho4, hb4⟩; have HO4 := hid ho4; have HB4 := hid (below_call HB3.out hb4); clear ho4 hb4)
    | (go_at_call 16; refine (same_any p (some ⟨w4.heap.size, 0, none⟩) 2 2 cap 2 [-1, 7] [-1, 7] _ (HO4.out.alloc _).read (Row.two _ _ _) (by omega)).mono ?_; rintro e w5 ⟨rfl, hw5⟩; have HB5 : Hid (Below w.heap.size w w5) := (by obtain ⟨k, rfl⟩ := hw5; exact below_drewN (below_call (below_call HBw.out HB4.out) (below1 _ _)) k); clear hw5))
  go_ret
  exact ⟨ret_bool (by decide), HB5.out⟩
end Go.Proofs.Ytfeilkhlapnpoaa
