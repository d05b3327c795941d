import Derived.Test.YtaffgoacbiedlaaY0
namespace Go.Proofs.Ytaffgoacbiedlaa
set_option linter.unusedVariables false
set_option linter.unusedSimpArgs false

theorem fm_op {c : Cl} (h : fm c = true) : 1 ≤ c.op ∧ c.op ≤ 10 := by
  simp only [fm, Bool.and_eq_true] at h
  exact wi_iff.1 h.1.1.1
theorem fm_inB {c : Cl} (h : fm c = true) : inB c = true := by
  simp only [fm, Bool.and_eq_true] at h
  exact h.1.1.2
theorem fm_data {c : Cl} (h : fm c = true) : c.data.length ≤ 1025 := by
  have := fm_inB h
  simp only [inB, Bool.and_eq_true, decide_eq_true_eq] at this
  exact this.1.2
theorem fm_gifts {c : Cl} (h : fm c = true) : c.gifts.length ≤ 255 := by
  have := fm_inB h
  simp only [inB, gfB, Bool.and_eq_true, decide_eq_true_eq] at this
  exact this.2.1
theorem ly_zero (c : Cl) (h : 0 ≤ c.op ∧ c.op ≤ 255) : (ly c)[0]? = some c.op.toNat := by
  unfold ly leL
  simp
  omega
theorem ly_three (c : Cl) (h9 : c.op = 9) (hg : c.gifts.length ≤ 255) : (ly c)[3]? = some c.gifts.length := by
  unfold ly
  rw [h9]
  simp [partsL, layA, layP, leL, List.range_succ]
  omega
/-- Two calls' bytes of other lengths that agree as far as both go are not both a call's, but for a write. -/
theorem psc_not {o : Cl} {R : List Nat} (hs : ∀ x ∈ R, x < 256) (ho : fm o = true) (h6 : o.op ≠ 6) (hl : R.length ≠ (ly o).length) (hp : ∀ i, i < R.length → i < (ly o).length → R[i]? = (ly o)[i]?) : psC R = none := by
  cases h : psC R with
  | none => rfl
  | some r =>
    exfalso
    obtain ⟨hf, hr, _, _⟩ := ps_some hs h
    have l1 := ly_len r
    have l2 := ly_len o
    rw [hr] at l1
    have r1 := fm_op hf
    have o1 := fm_op ho
    have rl : 3 ≤ R.length := by rw [l1]; unfold lenC; repeat' split
                                 all_goals omega
    have ol : 3 ≤ (ly o).length := by rw [l2]; unfold lenC; repeat' split
                                      all_goals omega
    have e0 := hp 0 (by omega) (by omega)
    have a0 := ly_zero r (by omega)
    rw [hr] at a0
    rw [a0, ly_zero o (by omega)] at e0
    have e1 := Option.some.inj e0
    have e2 : r.op = o.op := by omega
    apply hl
    rw [l1, l2]
    unfold lenC at l1 l2 ⊢
    rw [e2] at l1 ⊢
    by_cases h9 : o.op = 9
    · have e3 := hp 3 (by rw [l1]; simp [h9]; omega) (by rw [l2]; simp [h9]; omega)
      have a3 := ly_three r (by omega) (fm_gifts hf)
      rw [hr] at a3
      rw [a3, ly_three o h9 (fm_gifts ho)] at e3
      rw [Option.some.inj e3]
      simp [h9]
    · simp [h9, h6]
theorem psc_write {o : Cl} {R : List Nat} (hs : ∀ x ∈ R, x < 256) (h6 : o.op = 6) (hp : ∀ i, i < R.length → i < (ly o).length → R[i]? = (ly o)[i]?) (hl : R.length < 32 ∨ 32 + 1025 < R.length) : psC R = none := by
  cases h : psC R with
  | none => rfl
  | some r =>
    exfalso
    obtain ⟨hf, hr, _, _⟩ := ps_some hs h
    have l1 := ly_len r
    have l2 := ly_len o
    rw [hr] at l1
    have r1 := fm_op hf
    have rl : 3 ≤ R.length := by rw [l1]; unfold lenC; repeat' split
                                 all_goals omega
    have ol : 32 ≤ (ly o).length := by rw [l2]; unfold lenC; simp [h6]
    have e0 := hp 0 (by omega) (by omega)
    have a0 := ly_zero r (by omega)
    rw [hr] at a0
    rw [a0, ly_zero o (by omega)] at e0
    have e1 := Option.some.inj e0
    have e2 : r.op = 6 := by omega
    have hd := fm_data hf
    unfold lenC at l1
    simp [e2] at l1
    omega
theorem ly6 {o : Cl} (h6 : o.op = 6) : ∃ P : List Nat, P.length = 32 ∧ ∀ D, ly { o with data := D } = P ++ D := by
  refine ⟨leL 6 1 ++ leL o.by_.toNat 2 ++ (leL o.obj.toNat 8 ++ (leL (if o.given then 1 else 0) 1 ++ (leL o.lo 8 ++ leL o.hi 8 ++ leL (sg o.off) 4))), by simp [leL_length], fun D => ?_⟩
  unfold ly
  simp only [h6]
  simp [partsL, layA, layP]
theorem fm6 {o : Cl} (h6 : o.op = 6) (h : fm o = true) {D : List Nat} (hD : D.length ≤ 1025) : fm { o with data := D } = true := by
  obtain ⟨op, by_, size, obj, hi, lo, given, rights, off, n, data, index, gifts⟩ := o
  simp only at h6
  subst h6
  simp [fm, inB, wmB, unu, partsL, wo, mv, clz, blB] at h ⊢
  simp_all
  exact ⟨⟨⟨rfl, rfl⟩, rfl⟩, rfl⟩
theorem head_bad {x : Nat} {T : List Nat} (hx : 10 < x) (hx2 : x < 256) (hs : ∀ y ∈ T, y < 256) : psC (x :: T) = none := by
  cases h : psC (x :: T) with
  | none => rfl
  | some r =>
    exfalso
    obtain ⟨hf, hr, _, _⟩ := ps_some (fun y hy => by rcases List.mem_cons.1 hy with rfl | h; exact hx2; exact hs y h) h
    have r1 := fm_op hf
    have a0 := ly_zero r (by omega)
    rw [hr] at a0
    have := Option.some.inj a0
    omega
end Go.Proofs.Ytaffgoacbiedlaa
