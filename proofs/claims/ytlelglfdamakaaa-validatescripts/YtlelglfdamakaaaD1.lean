import Derived.Test.YtlelglfdamakaaaN7
namespace Go.Proofs.Ytlelglfdamakaaa
open Go.RowKit H
set_option linter.unusedVariables false
set_option linter.unusedSimpArgs false
variable {w w' : World} {H : Hv} {X : List Tk} {l : Fo} {T : Nat → List K.Pu}

/-! ### num, cut -/
theorem num_any (x : Int) (w : World) : Calls Try.prog 12 #[.int .i64 x] w fun e w' => e = .returned (.int .i64 x) ∧ w' = w := by
  go_enter Try.func12, Try.ntmps12
  go_wp2
  go_ret
  exact ⟨rfl, rfl⟩
/-- A number's rest. -/
def modN (x : Int) (m : Int) : Nat := ((x.tmod m + m).tmod m).toNat
theorem modN_lt (x m : Int) (h0 : 0 < m) : (modN x m : Int) < m := by
  unfold modN
  have h3 := Int.lt_tmod_of_pos x h0
  have := Int.tmod_lt_of_pos (x.tmod m + m) h0
  have := Int.tmod_nonneg m (show 0 ≤ x.tmod m + m by omega)
  omega
theorem modN_eq (x m : Int) (h0 : 0 < m) : (x.tmod m + m).tmod m = (modN x m : Int) := by
  unfold modN
  have h3 := Int.lt_tmod_of_pos x h0
  have := Int.tmod_nonneg m (show 0 ≤ x.tmod m + m by omega)
  omega
/-- The two remainders of a cut, as letters. -/
theorem rests (x m : Int) (h0 : 0 < m) : ∃ r : Int, x.tmod m = r ∧ -m < r ∧ r < m ∧ (r + m).tmod m = (modN x m : Int) ∧ (modN x m : Int) < m :=
  ⟨x.tmod m, rfl, Int.lt_tmod_of_pos x h0, Int.tmod_lt_of_pos x h0, modN_eq x m h0, modN_lt x m h0⟩
set_option maxRecDepth 100000 in
set_option maxHeartbeats 1000000 in
theorem ncut_any (a b c : Int) (w : World) :
    Calls Try.prog 23 #[.agg #[.int .i64 a, .int .i64 b, .int .i64 c]] w fun e w' => e = .returned (.agg #[.int .i64 (modN a 17 : Int), .int .i64 (1 + (modN b 4 : Int)), .int .i64 (modN c 65 : Int)]) ∧ Below w.heap.size w w' := by
  obtain ⟨a1, ha1, ha2, ha3, ha4, ha5⟩ := rests a 17 (by decide)
  obtain ⟨b1, hb1, hb2, hb3, hb4, hb5⟩ := rests b 4 (by decide)
  obtain ⟨c1, hc1, hc2, hc3, hc4, hc5⟩ := rests c 65 (by decide)
  generalize modN a 17 = a2 at *
  generalize modN b 4 = b2 at *
  generalize modN c 65 = c2 at *
  obtain ⟨w0, hw0⟩ : ∃ w0, w0 = (w.alloc (Obj.cells #[.int .i64 a, .int .i64 b, .int .i64 c] 23)).alloc (Obj.cells #[.int .i64 0, .int .i64 0, .int .i64 0] 23) := ⟨_, rfl⟩
  have hB0 : Below w.heap.size w w0 := by rw [hw0]; exact below2 _ _ _
  have y0 : w0.cell? ⟨w.heap.size, 0, none⟩ = some (.int .i64 a) := by rw [hw0]; simp [go_sem]
  have y1 : w0.cell? ⟨w.heap.size, 1, none⟩ = some (.int .i64 b) := by rw [hw0]; simp [go_sem]
  have y2 : w0.cell? ⟨w.heap.size, 2, none⟩ = some (.int .i64 c) := by rw [hw0]; simp [go_sem]
  obtain ⟨⟨r0, f0⟩, ⟨r1, f1⟩, ⟨r2, f2⟩⟩ : Lies w0 ⟨w.heap.size + 1, 0, none⟩ (.int .i64 0) ∧ Lies w0 ⟨w.heap.size + 1, 1, none⟩ (.int .i64 0) ∧ Lies w0 ⟨w.heap.size + 1, 2, none⟩ (.int .i64 0) := by
    rw [hw0]; exact ⟨⟨by simp [go_sem], by simp [go_sem]⟩, ⟨by simp [go_sem], by simp [go_sem]⟩, ⟨by simp [go_sem], by simp [go_sem]⟩⟩
  have HBe : Hid (∀ x y z : Value, Below w.heap.size w (((w0.setCell ⟨w.heap.size + 1, 0, none⟩ x).setCell ⟨w.heap.size + 1, 1, none⟩ y).setCell ⟨w.heap.size + 1, 2, none⟩ z)) := fun x y z => But.below hB0 (((((But.refl (fun k => k = w.heap.size + 1) w0).setCell (p := ⟨w.heap.size + 1, 0, none⟩) rfl x).setCell (p := ⟨w.heap.size + 1, 1, none⟩) rfl y).setCell (p := ⟨w.heap.size + 1, 2, none⟩) rfl z)) (fun k hk => by omega)
  clear hB0
  go_enter Try.func23, Try.ntmps23
  go_upto_region 1 with fail
  rw [← hw0]
  clear hw0
  go_wp2
  exact bodyPost_ret (v := .agg #[.int .i64 (a2 : Int), .int .i64 (1 + (b2 : Int)), .int .i64 (c2 : Int)]) (by simp [results, Try.results23, go_sem, r0, r1, r2]) rfl ⟨rfl, HBe.out _ _ _⟩
end Go.Proofs.Ytlelglfdamakaaa
