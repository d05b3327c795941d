import Derived.Test.YtlkjieophdabpaaO2
namespace Go.Proofs.Ytlkjieophdabpaa
open Go.RowKit
set_option linter.unusedVariables false

theorem Row.two (w : World) (x y : Int) : Row (w.alloc (Obj.cells #[.int .i64 x, .int .i64 y] 3)) (some ⟨w.heap.size, 0, .none⟩) 2 2 (ints [x, y]) :=
  Row.at (L := ints [x, y]) rfl (Nat.le_refl _) (ints_one _) (fun i u hu => by
    match i, hu with
    | 0, hu => simp [ints] at hu; subst hu; simp [go_sem]
    | 1, hu => simp [ints] at hu; subst hu; simp [go_sem]
    | (i + 2), hu => simp [ints] at hu)
set_option maxRecDepth 100000 in
set_option maxHeartbeats 2000000 in
theorem alive_any (w : World) : Calls Try.prog 8 #[] w fun e w' => e = .returned (.bool true) ∧ Below w.heap.size w w' := by
  have hn := hid (new_ok 2 w (by decide) (by decide))
  have i0 : Hid (Iv 2 1 [0]) := Iv.start (by decide) (by decide)
  have i1 : Hid (Iv 2 2 [0, 1]) := i0.out.spawn
  go_enter Try.func8, Try.ntmps8
  go_upto_region 2 with (first | (go_at_call 6; refine hn.out.mono ?_; rintro e w1 ⟨g, pa, cap, rfl, ho, hb⟩; have HO1 := hid ho; have HB1 := hid hb; clear ho hb))
  clear hn
  have hli := hid (live_any HO1.out i0.out 0)
  go_upto_region 4 with (first
    | (go_at_call 7; refine (num_any _ _).mono ?_; rintro e w9 ⟨rfl, hw9⟩; obtain rfl := hw9.symm; clear hw9)
    | (go_at_call 10; refine hli.out.mono ?_; rintro e w2 ⟨rfl, hq⟩; have HB2 : Hid (Below w1.heap.size w1 w2) := (by obtain ⟨q, rfl⟩ := hq; exact below_drewN (Below.refl _ _) q); clear hq))
  clear hli
  have HO2 := hid (HO1.out.later HB2.out)
  have hsp : Hid (Calls Try.prog 9 #[.pointer (some ⟨g, 0, none⟩)] w2 fun e w' => ∃ pa' cap', e = .returned (.tuple #[.int .i64 1, .int .i64 0]) ∧ Ob w' w.heap.size g 2 2 pa' cap' [0, 1] ∧ Rd w2 w' g pa pa') := spawn_any HO2.out i0.out
  go_upto_region 5 with (first | (go_at_call 9; refine hsp.out.mono ?_; rintro e w3 ⟨pa3, cap3, rfl, ho, hr⟩; have HO3 := hid ho; have HB3 := hid (hr.below HO2.out (below_call HB1.out HB2.out)); clear ho hr))
  clear hsp HO1 HO2 HB1 HB2
  have hnu : Hid (Calls Try.prog 12 #[.pointer (some ⟨g, 0, none⟩)] w3 fun e w' => ∃ p c, e = .returned (.slice p 2 c) ∧ Own w' w3.heap.size 3 p 2 c (ints [0, 1]) ∧ Below w3.heap.size w3 w') := numb_any HO3.out i1.out
  have hne := hid (fun (U : World) (hU : Below w3.heap.size w3 U) => next_any (HO3.out.later hU))
  have hex : Hid (∀ U, Below w3.heap.size w3 U → Calls Try.prog 11 #[.pointer (some ⟨g, 0, none⟩), .int .i64 9] U fun e w' => e = .returned (.int .i64 20) ∧ Below w.heap.size w w') := fun U hU => by
    refine (exit_any (HO3.out.later hU) i1.out 9).mono ?_
    rintro e w' ⟨cap', rfl, ho, hr⟩
    exact ⟨rfl, hr.below (HO3.out.later hU) (below_call HB3.out hU)⟩
  go_wp2_with (first
    | (go_at_call 7; refine (num_any _ _).mono ?_; rintro e w9 ⟨rfl, hw9⟩; obtain rfl := hw9.symm; clear hw9)
    | (go_at_call 12; refine hnu.out.mono ?_; rintro e w4 ⟨p, c, rfl, ho4, hb4⟩; have HO4 := hid ho4; have HB4 := hid hb4; clear ho4 hb4)
    | (go_at_call 16; refine (numbers_same p (some ⟨w4.heap.size, 0, none⟩) 2 2 c 2 [0, 1] _ (HO4.out.alloc _).read (Row.two _ _ _) (by omega)).mono ?_; rintro e w5 ⟨rfl, hw5⟩; have HB5 : Hid (Below w3.heap.size w3 w5) := (by obtain ⟨k, rfl⟩ := hw5; exact below_drewN (below_call HB4.out (below1 _ _)) k); clear hw5)
    | (go_at_call 13; refine (hne.out _ HB5.out).mono ?_; rintro e w9 ⟨rfl, hw9⟩; obtain rfl := hw9.symm; clear hw9)
    | (go_at_call 11; refine (hex.out _ HB5.out).mono ?_; rintro e w6 ⟨rfl, hb6⟩; have HB6 := hid hb6; clear hb6))
  go_ret
  exact ⟨ret_bool (by decide), HB6.out⟩
end Go.Proofs.Ytlkjieophdabpaa
