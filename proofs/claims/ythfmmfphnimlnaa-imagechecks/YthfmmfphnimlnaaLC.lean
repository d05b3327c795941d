import Derived.Test.YthfmmfphnimlnaaRK
import Derived.Test.YthfmmfphnimlnaaIU
import Derived.Test.YthfmmfphnimlnaaRG
namespace Go.Proofs.Ythfmmfphnimlnaa
open Go.RowKit
set_option linter.unusedVariables false
set_option linter.unusedSimpArgs false
/-- What the head's own witness answers. -/
def Kno : Prop := ∀ w : World, Calls Try.prog 8 #[] w fun e w' => e = .returned (.bool true) ∧ Below w.heap.size w w'
set_option maxRecDepth 100000 in
set_option maxHeartbeats 4000000 in
theorem checks_law (hK : Kno) (c : Cf) (s : St) (a b d : Sl) (Q : List (Ob × Sl)) (R : List (Pc × Sl)) (w : World) (h : Sm w s a b d Q R) (dr : Int) :
    Calls Try.prog 3 #[c.v, stV a b d s.nx s.px s.ta, .int .i64 dr] w fun e w' => e = .returned (.bool true) ∧ Below w.heap.size w w' := by
  obtain ⟨W, hW⟩ : ∃ W, W = (w.alloc (Obj.cells #[.int .i64 c.w, .int .i64 c.o, .int .i64 c.p, .int .i64 c.e, .int .i64 c.q, .int .i64 c.r, .int .i64 c.l, .int .i64 c.s, .int .i64 c.y, .int .i64 c.k] 23)).alloc (Obj.cells #[.slice a.a a.n a.c, .slice b.a b.n b.c, .slice d.a d.n d.c, .int .i64 s.nx, .int .i64 s.px, .int .i64 s.ta] 28) := ⟨_, rfl⟩
  have hB : Below w.heap.size w W := by rw [hW]; exact below2 _ _ _
  have HXr : Hid (W.rangeAt w.heap.size 0 c.L) := by rw [hW]; exact rangeAt_later (below1 _ _) (rangeAt_new w c.L _)
  have HYr : Hid (W.rangeAt (w.heap.size + 1) 0 [.slice a.a a.n a.c, .slice b.a b.n b.c, .slice d.a d.n d.c, .int .i64 s.nx, .int .i64 s.px, .int .i64 s.ta]) := by
    rw [hW]
    have := rangeAt_new (w.alloc (Obj.cells #[.int .i64 c.w, .int .i64 c.o, .int .i64 c.p, .int .i64 c.e, .int .i64 c.q, .int .i64 c.r, .int .i64 c.l, .int .i64 c.s, .int .i64 c.y, .int .i64 c.k] 23)) [.slice a.a a.n a.c, .slice b.a b.n b.c, .slice d.a d.n d.c, .int .i64 s.nx, .int .i64 s.px, .int .i64 s.ta] 28
    simp at this
    exact this
  have HLf : Hid (∀ U, Below W.heap.size W U → (Instr.loadAt 23 (.pointer (some ⟨w.heap.size, 0, none⟩))).run Try.prog U = .ok c.v U) := fun U hU => ldF (rangeAt_later hU HXr.out) rfl
  have HLs : Hid (∀ U, Below W.heap.size W U → (Instr.loadAt 28 (.pointer (some ⟨w.heap.size + 1, 0, none⟩))).run Try.prog U = .ok (stV a b d s.nx s.px s.ta) U) := fun U hU => ldS (rangeAt_later hU HYr.out) rfl
  have HSm := hid (h.later hB)
  have HB := hid hB
  have HW := hid hW
  have HK := hid hK
  have HF0 := hid (HLf.out W (Below.refl _ _))
  have HS0 := hid (HLs.out W (Below.refl _ _))
  clear h hB hW hK HXr HYr
  go_enter Try.func3, Try.ntmps3
  go_upto_region 1 with fail
  rw [← HW.out]
  go_upto_region 2 with (first | ((with_reducible refine ld_arm HF0.out ?_ ?_); (· rfl)) | ((with_reducible refine ld_arm HS0.out ?_ ?_); (· rfl)) | (go_at_call 5; refine (rcheck_any c s a b d Q R W HSm.out dr).mono ?_; rintro e w1 ⟨rfl, hb1⟩; have HB1 := hid hb1; have HF1 := hid (HLf.out w1 hb1); have HS1 := hid (HLs.out w1 hb1); clear hb1))
  go_upto_region 3 with (first | ((with_reducible refine ld_arm HF1.out ?_ ?_); (· rfl)) | ((with_reducible refine ld_arm HS1.out ?_ ?_); (· rfl)) | (go_at_call 6; refine (rbytes_any c s a b d Q R w1 (HSm.out.later HB1.out)).mono ?_; rintro e w2 ⟨a2, n2, c2, rfl, ho2, hb2⟩; have HO2 := hid ho2; have HB2 := hid (below_call HB1.out hb2); have HF2 := hid (HLf.out w2 HB2.out); have HS2 := hid (HLs.out w2 HB2.out); clear ho2 hb2))
  go_upto_region 4 with (first | ((with_reducible refine ld_arm HF2.out ?_ ?_); (· rfl)) | ((with_reducible refine ld_arm HS2.out ?_ ?_); (· rfl)) | (go_at_call 7; refine (bytes_any c s a b d Q R w2 (HSm.out.later HB2.out)).mono ?_; rintro e w3 ⟨a3, n3, c3, rfl, ho3, hb3⟩; have HO3 := hid ho3; have HO2b := hid (HO2.out.later hb3); have HB3 := hid (below_call HB2.out hb3); clear ho3 hb3))
  go_wp2_with (first
    | (go_at_call 8; refine (HK.out w3).mono ?_; rintro e w4 ⟨rfl, hb4⟩; have HB4 := hid (below_call HB3.out hb4); have HO3c := hid (HO3.out.later hb4); have HO2c := hid (HO2b.out.later hb4); have HF4 := hid (HLf.out w4 HB4.out); have HS4 := hid (HLs.out w4 HB4.out); clear hb4)
    | ((with_reducible refine ld_armg HF4.out ?_ ?_ ?_); (· rfl); (· rfl)) | ((with_reducible refine ld_armg HS4.out ?_ ?_ ?_); (· rfl); (· rfl))
    | (go_at_call 9; refine (check_any c s a b d Q R w4 (HSm.out.later HB4.out) dr).mono ?_; rintro e w5 ⟨rfl, hb5⟩; have HB5 := hid (below_call HB4.out hb5); have hcv3 := (HO3c.out.later hb5).read.conv; have hcv2 := (HO2c.out.later hb5).read.conv; clear hb5))
  go_ret
  exact ⟨rfl, below_call HB.out HB5.out⟩
end Go.Proofs.Ythfmmfphnimlnaa
