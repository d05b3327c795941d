import Derived.Test.YticgammbjcdobaaNJ
namespace Go.Proofs.Yticgammbjcdobaa
open Go.RowKit
set_option linter.unusedVariables false
set_option linter.unusedSimpArgs false
abbrev m0 (s : Nat) : Bm := ⟨s + 5, s, s + 1, s + 2, s + 3, s + 4, 0, [], [], [], [], []⟩
def mp0 : Obj := .map #[] 0
theorem new_bw (w : World) : Bw ((((((w.alloc mp0).alloc mp0).alloc mp0).alloc mp0).alloc mp0).alloc (Obj.cells #[.int .i64 0, .map (some w.heap.size), .map (some (w.heap.size + 1)), .map (some (w.heap.size + 2)), .map (some (w.heap.size + 3)), .map (some (w.heap.size + 4))] 65)) (m0 w.heap.size) := by
  obtain ⟨w1, h1⟩ : ∃ U, U = w.alloc mp0 := ⟨_, rfl⟩
  obtain ⟨w2, h2⟩ : ∃ U, U = w1.alloc mp0 := ⟨_, rfl⟩
  obtain ⟨w3, h3⟩ : ∃ U, U = w2.alloc mp0 := ⟨_, rfl⟩
  obtain ⟨w4, h4⟩ : ∃ U, U = w3.alloc mp0 := ⟨_, rfl⟩
  obtain ⟨w5, h5⟩ : ∃ U, U = w4.alloc mp0 := ⟨_, rfl⟩
  have z1 : w1.heap.size = w.heap.size + 1 := by rw [h1]; simp
  have z2 : w2.heap.size = w.heap.size + 2 := by rw [h2]; simp [z1]
  have z3 : w3.heap.size = w.heap.size + 3 := by rw [h3]; simp [z2]
  have z4 : w4.heap.size = w.heap.size + 4 := by rw [h4]; simp [z3]
  have z5 : w5.heap.size = w.heap.size + 5 := by rw [h5]; simp [z4]
  have b2 : Below w1.heap.size w1 w2 := by rw [h2]; exact below1 _ _
  have b3 : Below w2.heap.size w2 w3 := by rw [h3]; exact below1 _ _
  have b4 : Below w3.heap.size w3 w4 := by rw [h4]; exact below1 _ _
  have b5 : Below w4.heap.size w4 w5 := by rw [h5]; exact below1 _ _
  rw [← h1, ← h2, ← h3, ← h4, ← h5]
  obtain ⟨W, hW⟩ : ∃ U, U = w5.alloc (Obj.cells #[.int .i64 0, .map (some w.heap.size), .map (some (w.heap.size + 1)), .map (some (w.heap.size + 2)), .map (some (w.heap.size + 3)), .map (some (w.heap.size + 4))] 65) := ⟨_, rfl⟩
  have b6 : Below w5.heap.size w5 W := by rw [hW]; exact below1 _ _
  have c5 : Below w4.heap.size w4 W := below_call b5 b6
  have c4 : Below w3.heap.size w3 W := below_call b4 c5
  have c3 : Below w2.heap.size w2 W := below_call b3 c4
  have c2 : Below w1.heap.size w1 W := below_call b2 c3
  rw [← hW]
  have hbx : Bx W (w.heap.size + 5) (m0 w.heap.size).cells := by
    have := Bx.new w5 (m0 w.heap.size).cells 65
    rw [z5] at this
    rw [hW]
    exact this
  have g1 : Mm W 29 w.heap.size [] := by have := Mm.new w 29; rw [show w.alloc (.map #[] 0) = w1 from h1.symm] at this; exact this.later c2
  have g2 : Mc W (w.heap.size + 6) (w.heap.size + 1) [] := by have := Mc.new w1 (w.heap.size + 6); rw [show w1.alloc (.map #[] 0) = w2 from h2.symm, z1] at this; exact this.later c3
  have g3 : Mm W 3 (w.heap.size + 2) [] := by have := Mm.new w2 3; rw [show w2.alloc (.map #[] 0) = w3 from h3.symm, z2] at this; exact this.later c4
  have g4 : Mm W 95 (w.heap.size + 3) [] := by have := Mm.new w3 95; rw [show w3.alloc (.map #[] 0) = w4 from h4.symm, z3] at this; exact this.later c5
  have g5 : Mc W (w.heap.size + 6) (w.heap.size + 4) [] := by have := Mc.new w4 (w.heap.size + 6); rw [show w4.alloc (.map #[] 0) = w5 from h5.symm, z4] at this; exact this.later b6
  have zW : W.heap.size = w.heap.size + 6 := by rw [hW]; simp [z5]
  refine ⟨hbx, g1, g3, g4, g2, g5, ?_, ?_, fun x hx => by cases hx⟩
  · simp [Bm.blks]
  · intro j hj
    simp [Bm.blks] at hj
    omega
set_option maxRecDepth 100000 in
set_option maxHeartbeats 2000000 in
theorem new_any (w : World) : Calls Try.prog 5 #[] w fun e w' => e = .returned (.pointer (some ⟨w.heap.size + 5, 0, none⟩)) ∧ Bw w' (m0 w.heap.size) ∧ Below w.heap.size w w' := by
  have k1 := fun U => run_mkMap (t := 60) Try.underlying60 U
  have k2 := fun U => run_mkMap (t := 61) Try.underlying61 U
  have k3 := fun U => run_mkMap (t := 62) Try.underlying62 U
  have k4 := fun U => run_mkMap (t := 63) Try.underlying63 U
  go_enter Try.func5, Try.ntmps5
  go_wp2
  go_ret
  refine ⟨rfl, new_bw w, ?_⟩
  exact ((((((Below.refl _ _).alloc (Nat.le_refl _) _).alloc (by simp) _).alloc (by simp; omega) _).alloc (by simp; omega) _).alloc (by simp; omega) _).alloc (by simp; omega) _
end Go.Proofs.Yticgammbjcdobaa
