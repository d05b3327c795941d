import Derived.Test.YthfmmfphnimlnaaRI
import Derived.Test.YthfmmfphnimlnaaRG
import Derived.Test.YthfmmfphnimlnaaIU
namespace Go.Proofs.Ythfmmfphnimlnaa
open Go.RowKit
set_option linter.unusedVariables false
set_option linter.unusedSimpArgs false
set_option maxRecDepth 100000 in
set_option maxHeartbeats 8000000 in
theorem rbytes_any (c : Cf) (s : St) (a b d : Sl) (Q : List (Ob × Sl)) (R : List (Pc × Sl)) (w : World) (h : Sm w s a b d Q R) :
    Calls Try.prog 6 #[c.v, stV a b d s.nx s.px s.ta] w fun e w' => ∃ a n c', e = .returned (.tuple #[.slice a n c', .int .i64 (bysE c s)]) ∧ Own w' w.heap.size a n c' (bysL c s) ∧ Below w.heap.size w w' := by
  obtain ⟨W, hW⟩ : ∃ W, W = (w.alloc (Obj.cells #[.int .i64 c.w, .int .i64 c.o, .int .i64 c.p, .int .i64 c.e, .int .i64 c.q, .int .i64 c.r, .int .i64 c.l, .int .i64 c.s, .int .i64 c.y, .int .i64 c.k] 23)).alloc (Obj.cells #[.slice a.a a.n a.c, .slice b.a b.n b.c, .slice d.a d.n d.c, .int .i64 s.nx, .int .i64 s.px, .int .i64 s.ta] 28) := ⟨_, rfl⟩
  have hB : Below w.heap.size w W := by rw [hW]; exact below2 _ _ _
  have hsz : W.heap.size = w.heap.size + 1 + 1 := by rw [hW]; simp
  have HXr : Hid (W.rangeAt w.heap.size 0 c.L) := by rw [hW]; exact rangeAt_later (below1 _ _) (rangeAt_new w c.L _)
  have HYr : Hid (W.rangeAt (w.heap.size + 1) 0 [.slice a.a a.n a.c, .slice b.a b.n b.c, .slice d.a d.n d.c, .int .i64 s.nx, .int .i64 s.px, .int .i64 s.ta]) := by
    have := rangeAt_new (w.alloc (Obj.cells #[.int .i64 c.w, .int .i64 c.o, .int .i64 c.p, .int .i64 c.e, .int .i64 c.q, .int .i64 c.r, .int .i64 c.l, .int .i64 c.s, .int .i64 c.y, .int .i64 c.k] 23)) [.slice a.a a.n a.c, .slice b.a b.n b.c, .slice d.a d.n d.c, .int .i64 s.nx, .int .i64 s.px, .int .i64 s.ta] 28
    rw [World.size_alloc] at this
    rw [hW]; exact this
  have HM := hid (h.later hB)
  have HB := hid hB
  have HW := hid hW
  have HLF : Hid (∀ U, Below W.heap.size W U → (Instr.loadAt 23 (.pointer (some ⟨w.heap.size, 0, none⟩))).run Try.prog U = .ok c.v U) := fun U hU => ldF (rangeAt_later hU HXr.out) rfl
  have HLS : Hid (∀ U, Below W.heap.size W U → (Instr.loadAt 28 (.pointer (some ⟨w.heap.size + 1, 0, none⟩))).run Try.prog U = .ok (stV a b d s.nx s.px s.ta) U) := fun U hU => ldS (rangeAt_later hU HYr.out) rfl
  have HC := hid (rcheck_any c s a b d Q R W HM.out 4096)
  clear h hB hW hsz HXr HYr
  by_cases hk : chk c s 4096 = 0
  · have e1 : bysE c s = 0 := if_pos hk
    have e2 : bysL c s = layL c s := if_pos hk
    rw [e1, e2]
    rw [hk] at HC
    have HLay := hid (fun U (hU : Below W.heap.size W U) => rlaid_any c s a b d Q R U (HM.out.later hU) (good_of hk).1 (good_of hk).2.1)
    clear e1 e2 hk
    go_enter Try.func6, Try.ntmps6
    go_upto_region 1 with fail
    rw [← HW.out]
    go_upto_region 3 with (first | ((with_reducible refine ld_arm (HLF.out _ (Below.refl _ _)) ?_ ?_); (· rfl)) | ((with_reducible refine ld_arm (HLS.out _ (Below.refl _ _)) ?_ ?_); (· rfl)) | (go_at_call 5; refine HC.out.mono ?_; rintro e w2 ⟨rfl, hb2⟩; have HB2 := hid hb2; clear hb2))
    go_wp2_with (first | ((with_reducible refine ld_arm (HLF.out _ HB2.out) ?_ ?_); (· rfl)) | ((with_reducible refine ld_arm (HLS.out _ HB2.out) ?_ ?_); (· rfl)) | (go_at_call 21; refine (HLay.out _ HB2.out).mono ?_; rintro e w3 ⟨a3, n3, c3, rfl, ho3, hb3⟩; have HO3 := hid (ho3.mono (below_call HB.out HB2.out).size); have HB3 := hid (below_call (below_call HB.out HB2.out) hb3); clear ho3 hb3))
    exact bodyPost_ret (v := .tuple #[.slice a3 n3 c3, .int .i64 0]) (by simp [results, Try.results6, go_sem]) rfl ⟨a3, n3, c3, rfl, HO3.out, HB3.out⟩
  · have e1 : bysE c s = 21 := if_neg hk
    have e2 : bysL c s = [] := if_neg hk
    rw [e1, e2]
    have hk2 : ((chk c s 4096 : Int) != 0) = true := by simp; omega
    generalize (chk c s 4096 : Int) = ck at HC hk2
    clear e1 e2 hk
    go_enter Try.func6, Try.ntmps6
    go_upto_region 1 with fail
    rw [← HW.out]
    go_wp2_with (first | ((with_reducible refine ld_arm (HLF.out _ (Below.refl _ _)) ?_ ?_); (· rfl)) | ((with_reducible refine ld_arm (HLS.out _ (Below.refl _ _)) ?_ ?_); (· rfl)) | (go_at_call 5; refine HC.out.mono ?_; rintro e w2 ⟨rfl, hb2⟩; have HB2 := hid hb2; clear hb2))
    exact bodyPost_ret (v := .tuple #[.slice none 0 0, .int .i64 21]) (by simp [results, Try.results6, go_sem]) rfl ⟨none, 0, 0, rfl, Own.nil _ _, below_call HB.out HB2.out⟩
end Go.Proofs.Ythfmmfphnimlnaa
