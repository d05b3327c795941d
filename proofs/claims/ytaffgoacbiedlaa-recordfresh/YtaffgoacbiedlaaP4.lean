import Derived.Test.YtaffgoacbiedlaaT1
namespace Go.Proofs.Ytaffgoacbiedlaa
set_option linter.unusedSimpArgs false

/-- The document's Kept. -/
def kp (c : Cl) : Cl := if (c.op = 5 ∨ c.op = 6) ∧ c.given = false then { kp0 c with hi := 0, lo := 0 } else kp0 c
theorem kp_56 {c : Cl} (h : c.op = 5 ∨ c.op = 6) : (kp0 c).hi = c.hi ∧ (kp0 c).lo = c.lo := by
  obtain ⟨op, by_, size, obj, hi, lo, given, rights, off, n, data, index, gifts⟩ := c
  simp only at h
  unfold kp0 partsL
  rcases h with rfl | rfl <;> exact ⟨rfl, rfl⟩
theorem fm_ref (c : Cl) : (wi c.op 1 10 && inB c && smB c (kp c)) = fm c := by
  have key : smB c (kp c) = (wmB c && blB (unu c)) := by
    rw [Bool.eq_iff_iff, smB_iff, Bool.and_eq_true, ← kp0_iff]
    unfold kp wmB
    by_cases h : c.op = 5 ∨ c.op = 6
    · rw [if_pos h]
      cases hg : c.given with
      | true =>
        rw [if_neg (by simp)]
        simp only [Bool.true_or, true_and]
        exact ⟨fun e => e.symm, fun e => e.symm⟩
      | false =>
        rw [if_pos ⟨h, rfl⟩]
        simp only [Bool.false_or, decide_eq_true_eq]
        constructor
        · intro e
          have h1 : c.hi = 0 := by rw [e]
          have h2 : c.lo = 0 := by rw [e]
          refine ⟨⟨h1, h2⟩, ?_⟩
          have k := kp_56 h
          conv => rhs; rw [e]
          have : (kp0 c) = { kp0 c with hi := (kp0 c).hi, lo := (kp0 c).lo } := rfl
          rw [this, k.1, k.2, h1, h2]
        · rintro ⟨⟨h1, h2⟩, e⟩
          have k := kp_56 h
          conv => lhs; rw [← e]
          have : (kp0 c) = { kp0 c with hi := (kp0 c).hi, lo := (kp0 c).lo } := rfl
          conv => lhs; rw [this, k.1, k.2, h1, h2]
    · rw [if_neg h, if_neg (fun e => h e.1)]
      simp only [true_and]
      exact ⟨fun e => e.symm, fun e => e.symm⟩
  rw [key]
  unfold fm
  simp only [Bool.and_assoc]
end Go.Proofs.Ytaffgoacbiedlaa
