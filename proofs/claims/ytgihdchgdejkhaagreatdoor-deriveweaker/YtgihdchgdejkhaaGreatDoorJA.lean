import Derived.Test.YtgihdchgdejkhaaGreatDoorMI
import Derived.Test.YtgihdchgdejkhaaGreatDoorMN
namespace Go.Proofs.YtgihdchgdejkhaaGreatDoor.D
open Go.RowKit
open Go.Proofs.YtgihdchgdejkhaaGreatDoor.H (B64)
set_option linter.unusedVariables false

/-- What is said of a draw: how many were drawn, and why it ended. -/
def Spec (P : Nat → Bool) (c : Nat → Nat) (n k t : Nat) (R : Nat × Int × Nat) : Prop :=
  ∃ q : Nat, R.2.2 = t + q ∧ q ≤ k ∧ t + q ≤ n ∧
    ((R.2.1 = 0 ∧ 0 < q ∧ R.1 = c (t + q - 1) ∧ P R.1 = false ∧ ∀ j, j < q - 1 → P (c (t + j)) = true) ∨
     (R.2.1 = 11 ∧ R.1 = 0 ∧ t + q = n ∧ q < k ∧ ∀ j, j < q → P (c (t + j)) = true) ∨
     (R.2.1 = 12 ∧ R.1 = 0 ∧ q = k ∧ ∀ j, j < q → P (c (t + j)) = true))
theorem drawR_spec {P : Nat → Bool} {c : Nat → Nat} {n : Nat} : ∀ {k t : Nat}, t ≤ n → Spec P c n k t (drawR P c n k t)
  | 0, t, h => ⟨0, rfl, Nat.le_refl _, h, .inr (.inr ⟨rfl, rfl, rfl, fun j hj => by omega⟩)⟩
  | k + 1, t, h => by
    by_cases ht : t < n
    · cases hp : P (c t) with
      | false =>
        rw [drawR_new ht hp]
        exact ⟨1, rfl, by omega, by omega, .inl ⟨rfl, by omega, rfl, hp, fun j hj => by omega⟩⟩
      | true =>
        rw [drawR_old ht hp]
        obtain ⟨q, h1, h2, h3, hc⟩ := drawR_spec (P := P) (c := c) (n := n) (k := k) (t := t + 1) (by omega)
        have hall : ∀ s, (∀ j, j < s → P (c (t + 1 + j)) = true) → ∀ j, j < s + 1 → P (c (t + j)) = true := fun s hs j hj => by
          cases j with
          | zero => exact hp
          | succ j =>
            have := hs j (by omega)
            rwa [show t + 1 + j = t + (j + 1) by omega] at this
        refine ⟨q + 1, by rw [h1]; omega, by omega, by omega, ?_⟩
        rcases hc with ⟨e1, e2, e3, e4, e5⟩ | ⟨e1, e2, e3, e4, e5⟩ | ⟨e1, e2, e3, e5⟩
        · refine .inl ⟨e1, by omega, by rw [e3]; congr 1; omega, e4, ?_⟩
          have := hall (q - 1) e5
          rwa [show q - 1 + 1 = q + 1 - 1 by omega] at this
        · exact .inr (.inl ⟨e1, e2, by omega, by omega, hall q e5⟩)
        · exact .inr (.inr ⟨e1, e2, by omega, hall q e5⟩)
    · rw [drawR_end ht]
      exact ⟨0, rfl, by omega, by omega, .inr (.inl ⟨rfl, rfl, by omega, by omega, fun j hj => by omega⟩)⟩
end Go.Proofs.YtgihdchgdejkhaaGreatDoor.D
