import Derived.Test.YtgdhdfmgfncdkaaVF
namespace Go.Proofs.Ytgdhdfmgfncdkaa
open Go.RowKit Go.Shelf H
set_option linter.unusedVariables false

/-! ### known -/
def kX1 : List Tk := [((7, 0, 1), 31), tz, tz]
def kX2 : List Tk := [((7, 0, 1), 31), ((7, 0, 2), 3), tz]
def kl2 : Fo := [(0, -1), (1, 0)]
theorem k_root : rootR 3 (List.replicate 3 tz) [] (7, 0, 1) 31 = ⟨0, 0, kX1, [(0, -1)]⟩ := by rfl
theorem k_child : childR 3 kX1 [(0, -1)] 0 (7, 0, 2) 3 = ⟨1, 0, kX2, kl2⟩ := by rfl
theorem k_at : tokV kX2 kl2 1 = .tuple #[tokA (7, 0, 2) 3 0, .bool true] := by rfl
theorem k_in : inN kX2 kl2 7 = 2 := by rfl
theorem k_G : G true kl2 0 = [0, 1] := by decide
theorem k_cuts : cuts kl2 [0, 1] = [] := by decide
theorem cell_drewN (w : World) (q : Nat) (p : Addr) : (w.drewN q).cell? p = w.cell? p := rfl
theorem rd_lit2 (w : World) (c d : Cp) : Rd (w.alloc (Obj.cells #[.int .i64 c.1, .int .u64 (c.2.1 : Int), .int .u64 (c.2.2 : Int), .int .i64 d.1, .int .u64 (d.2.1 : Int), .int .u64 (d.2.2 : Int)] 33)) (some ⟨w.heap.size, 0, none⟩) 2 [c, d] :=
  ⟨rfl, fun _ => ⟨w.heap.size, 0, rfl, fun i x hi => by
    have hl : i < 2 := (List.getElem?_eq_some_iff.1 hi).1
    rcases (show i = 0 ∨ i = 1 by omega) with rfl | rfl
    · simp at hi
      subst hi
      exact ⟨by simp [go_sem], by simp [go_sem], by simp [go_sem]⟩
    · simp at hi
      subst hi
      exact ⟨by simp [go_sem], by simp [go_sem], by simp [go_sem]⟩⟩⟩
set_option maxRecDepth 100000 in
set_option maxHeartbeats 4000000 in
theorem known_any (w : World) : Calls Try.prog 8 #[] w fun e w' => e = .returned (.bool true) ∧ Below w.heap.size w w' := by
  have h64 : (7 : Nat) < B64 := by decide
  go_enter Try.func8, Try.ntmps8
  go_upto_region 4 with (first | (go_at_call 19; refine (cnew_ok _ 3 64 (by omega) (by omega) (by omega)).mono ?_; rintro e w1 ⟨A, rfl, hc1, hA1, hb1⟩; have HC1 := hid hc1; have HA := hid hA1; have HB1 := hid hb1; clear hc1 hA1 hb1))
  obtain ⟨w2, hw2⟩ : ∃ w2, w2 = w1.alloc (Obj.cells #[.int .i64 7, .int .u64 0, .int .u64 1] 33) := ⟨_, rfl⟩
  have hB2 : Below w1.heap.size w1 w2 := by rw [hw2]; exact below1 _ _
  have a0 : w2.cell? ⟨w1.heap.size, 0, none⟩ = some (.int .i64 7) := by rw [hw2]; simp [go_sem]
  have a1 : w2.cell? ⟨w1.heap.size, 1, none⟩ = some (.int .u64 0) := by rw [hw2]; simp [go_sem]
  have a2 : w2.cell? ⟨w1.heap.size, 2, none⟩ = some (.int .u64 1) := by rw [hw2]; simp [go_sem]
  go_upto_region 5 with fail
  rw [← hw2]
  clear hw2
  obtain ⟨w3, hw3⟩ : ∃ w3, w3 = w2.alloc (Obj.cells #[.int .i64 7, .int .u64 0, .int .u64 2] 33) := ⟨_, rfl⟩
  have hB3 : Below w2.heap.size w2 w3 := by rw [hw3]; exact below1 _ _
  have b0 : w3.cell? ⟨w2.heap.size, 0, none⟩ = some (.int .i64 7) := by rw [hw3]; simp [go_sem]
  have b1 : w3.cell? ⟨w2.heap.size, 1, none⟩ = some (.int .u64 0) := by rw [hw3]; simp [go_sem]
  have b2 : w3.cell? ⟨w2.heap.size, 2, none⟩ = some (.int .u64 2) := by rw [hw3]; simp [go_sem]
  have c0 := cell_later hB3 a0
  have c1 := cell_later hB3 a1
  have c2 := cell_later hB3 a2
  go_upto_region 6 with fail
  rw [← hw3]
  clear hw3
  have hB13 := below_call hB2 hB3
  have hCat3 := HC1.out.later hB13
  have hwr3 : Hid (∀ k, A.Wr k → k < w1.heap.size) := HC1.out.lt'
  have hlt12 : w1.heap.size < w2.heap.size := World.block_lt_of_cell? _ _ a0
  have hro := hid (croot_of hCat3 (7, 0, 1) 31 ⟨by decide, by decide⟩)
  rw [k_root] at hro
  have hab : Hid (∀ W, But A.Wr w3 W → (W.cell? ⟨w1.heap.size, 0, none⟩ = some (.int .i64 7) ∧ W.cell? ⟨w1.heap.size, 1, none⟩ = some (.int .u64 0) ∧ W.cell? ⟨w1.heap.size, 2, none⟩ = some (.int .u64 1)) ∧ W.cell? ⟨w2.heap.size, 0, none⟩ = some (.int .i64 7) ∧ W.cell? ⟨w2.heap.size, 1, none⟩ = some (.int .u64 0) ∧ W.cell? ⟨w2.heap.size, 2, none⟩ = some (.int .u64 2)) := fun W hW =>
    ⟨⟨cell_but hW c0 (fun hk => by have := hwr3.out _ hk; simp at this), cell_but hW c1 (fun hk => by have := hwr3.out _ hk; simp at this), cell_but hW c2 (fun hk => by have := hwr3.out _ hk; simp at this)⟩, cell_but hW b0 (fun hk => by have := hwr3.out _ hk; simp at this; omega), cell_but hW b1 (fun hk => by have := hwr3.out _ hk; simp at this; omega), cell_but hW b2 (fun hk => by have := hwr3.out _ hk; simp at this; omega)⟩
  clear a0 a1 a2
  go_upto_region 7 with (first | (go_at_call 23; refine hro.out.mono ?_; rintro e w4 ⟨rfl, hc4, hb4⟩; have HC4 := hid hc4; have HB4 := hid hb4; clear hc4 hb4))
  obtain ⟨⟨x0, x1, x2⟩, y0, y1, y2⟩ := hab.out _ HB4.out
  have hch := hid (child_of HC4.out 0 (7, 0, 2) 3 ⟨by decide, by decide⟩)
  rw [k_child] at hch
  clear c0 c1 c2 b0 b1 b2
  go_upto_region 8 with (first | (go_at_call 24; refine hch.out.mono ?_; rintro e w5 ⟨rfl, hc5, hb5⟩; have HC5 := hid hc5; have HB5 := hid (HB4.out.trans hb5); clear hc5 hb5))
  clear x0 x1 x2 y0 y1 y2
  have hat := hid (at_any HC5.out.cm 1)
  rw [k_at] at hat
  go_upto_region 9 with (first | (go_at_call 9; refine hat.out.mono ?_; rintro e w6 ⟨rfl, hb6⟩; have HB6 := hid hb6; clear hb6))
  obtain ⟨w7, hw7⟩ : ∃ w7, w7 = w6.alloc (Obj.cells #[.int .i64 7, .int .u64 0, .int .u64 2, .int .i64 3, .int .i64 0] 35) := ⟨_, rfl⟩
  have hB7 : Below w6.heap.size w6 w7 := by rw [hw7]; exact below1 _ _
  have t0 : w7.cell? ⟨w6.heap.size, 0, none⟩ = some (.int .i64 7) := by rw [hw7]; simp [go_sem]
  have t1 : w7.cell? ⟨w6.heap.size, 1, none⟩ = some (.int .u64 0) := by rw [hw7]; simp [go_sem]
  have t2 : w7.cell? ⟨w6.heap.size, 2, none⟩ = some (.int .u64 2) := by rw [hw7]; simp [go_sem]
  have t3 : w7.cell? ⟨w6.heap.size, 3, none⟩ = some (.int .i64 3) := by rw [hw7]; simp [go_sem]
  have t4 : w7.cell? ⟨w6.heap.size, 4, none⟩ = some (.int .i64 0) := by rw [hw7]; simp [go_sem]
  rw [← hw7]
  clear hw7
  have hB57 := below_call HB6.out hB7
  obtain ⟨⟨x0, x1, x2⟩, y0, y1, y2⟩ := hab.out _ (HB5.out.trans (But.of hB57))
  have hC7 := HC5.out.later hB57
  have hin := hid (cin_any hC7.cm 7)
  rw [k_in] at hin
  have heq := fun W => neqT 7 0 2 3 0 7 0 2 3 0 W
  simp only [show tEq 7 0 2 3 0 7 0 2 3 0 = true by decide] at heq
  go_upto_region 11 with (first | (go_at_call 25; refine hin.out.mono ?_; rintro e w8 ⟨rfl, hb8⟩; have HB8 := hid hb8; clear hb8))
  clear x0 x1 x2 y0 y1 y2 heq
  have hC8 := hC7.later HB8.out
  have hdr := hid (cdrop_any hC8 0)
  unfold Dropped at hdr
  simp only [show (0 : Int) ∈ nums kl2 from by decide, if_true, k_G] at hdr
  have HB58 := hid (below_call hB57 HB8.out)
  go_upto_region 12 with (first | (go_at_call 14; refine hdr.out.mono ?_; rintro e w9 ⟨a9, c9, rfl, hO9, hc9, hb9⟩; have HO9 := hid hO9; have HC9 := hid hc9; have HB9 := hid ((HB5.out.trans (But.of HB58.out)).trans hb9); clear hO9 hc9 hb9))
  obtain ⟨⟨x0, x1, x2⟩, y0, y1, y2⟩ := hab.out _ HB9.out
  have hrd : Rd w9 a9 2 [(7, 0, 1), (7, 0, 2)] := Ow.rd (K := [(7, 0, 1), (7, 0, 2)]) HO9.out rfl
  obtain ⟨w10, hw10⟩ : ∃ w10, w10 = w9.alloc (Obj.cells #[.int .i64 7, .int .u64 0, .int .u64 1, .int .i64 7, .int .u64 0, .int .u64 2] 33) := ⟨_, rfl⟩
  have hB10 : Below w9.heap.size w9 w10 := by rw [hw10]; exact below1 _ _
  have hr2 : Rd w10 (some ⟨w9.heap.size, 0, none⟩) 2 [(7, 0, 1), (7, 0, 2)] := by rw [hw10]; exact rd_lit2 w9 (7, 0, 1) (7, 0, 2)
  have hsm := hid (sameC_any c9 2 (hrd.later hB10) hr2 (by omega) (by omega))
  rw [decide_eq_true rfl] at hsm
  have hct := hid (fun W (hW : Below w9.heap.size w9 W) => ccount_any (HC9.out.later hW))
  have HF : Hid (Below w.heap.size w w9) := by
    have h13 := below_call HB1.out hB13
    refine But.below h13 HB9.out (fun k hk => HA.out k (.inr (.inr hk)))
  have HB10 := hid hB10
  clear hrd hr2 hB10
  rw [hw10] at hsm
  have hDl : (dropS ⟨kX2, kl2⟩ 0).l.length = 0 := by decide
  rw [hDl] at hct
  go_wp2_with (first | (go_at_call 13; refine (hct.out _ HBX.out).mono ?_; rintro e w12 ⟨rfl, hw12⟩; obtain rfl := hw12.symm; clear hw12) | (go_at_call 17; refine hsm.out.mono ?_; rintro e w11 ⟨rfl, q, hw11⟩; have HBX : Hid (Below w9.heap.size w9 w11) := (by unfold Hid; rw [hw11]; exact below_drewN (below1 _ _) _); clear hw11))
  go_ret
  exact ⟨rfl, below_call HF.out HBX.out⟩
end Go.Proofs.Ytgdhdfmgfncdkaa
