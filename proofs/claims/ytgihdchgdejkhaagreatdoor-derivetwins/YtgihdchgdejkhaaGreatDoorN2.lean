import Derived.Test.YtgihdchgdejkhaaGreatDoorF3
namespace Go.Proofs.YtgihdchgdejkhaaGreatDoor.D
open Go.RowKit
open Go.Proofs.YtgihdchgdejkhaaGreatDoor.H (B64 Cp)
set_option linter.unusedVariables false

/-! ### DeriveTwins, as plain numbers -/
def twW (at_ many j : Nat) : Nat := if at_ < many ∧ j = 1 + at_ then 0 else 1
theorem twW_small (at_ many j : Nat) : twW at_ many j < B64 * B64 := by unfold twW; split <;> decide
theorem cut_one {wd : Int} (h : 1 ≤ wd) : cutN 1 wd = 1 := Nat.mod_eq_of_lt (by
  have h1 : 2 ^ 1 ≤ 2 ^ wd.toNat := Nat.pow_le_pow_right (by omega) (by omega)
  omega)
theorem tw_cut {wd : Int} (h : 1 ≤ wd) (at_ many j : Nat) : cutF (twW at_ many) wd j = twW at_ many j := by
  unfold cutF twW
  split
  · exact Nat.zero_mod _
  · exact cut_one h
def TP (wd : Int) (at_ many : Nat) : Par := ⟨9, 9, 9, many + 1, cutF (twW at_ many) wd⟩
def y1 : Sta := addS (s0 9) 5 1 (-1) 31 1
theorem cap50 : cap 5 0 = (5, 0, 0) := by kernel_rfl
theorem cap51 : cap 5 1 = (5, 0, 1) := by kernel_rfl
theorem y1_has : hasC y1.X y1.l (5, 0, 1) = true := by kernel_rfl
theorem y1_rgt : rgt y1 (5, 0, 1) = 31 := by kernel_rfl
theorem y1_may : Q.may 9 9 y1.L 5 = 0 := by kernel_rfl
theorem y1_one : ofP y1.X y1.l 5 1 = true := by kernel_rfl
theorem y1_two : ofP y1.X y1.l 5 0 = false := by kernel_rfl
theorem y1_cnt : y1.L.count 5 = 1 := by kernel_rfl
theorem tp_fit {wd : Int} (h : 1 ≤ wd) (at_ many : Nat) : Fit (TP wd at_ many) (s0 9) := Fit.start _ (fun i _ => by show cutF (twW at_ many) wd i < _; rw [tw_cut h]; exact twW_small _ _ _) (by show (9 : Int) ≤ ((9 : Nat) : Int); decide)
theorem tw_root {wd : Int} (h : 1 ≤ wd) (at_ many : Nat) : rootA (TP wd at_ many) (s0 9) 5 = ⟨(5, 0, 1), 0, y1⟩ := by
  have hc : drawD (TP wd at_ many) (s0 9).t = (1, 0, 1) := by
    unfold drawD
    rw [if_pos (show (s0 9).t < (TP wd at_ many).n from Nat.succ_pos _)]
    show (cutF (twW at_ many) wd 0, _, _) = _
    rw [tw_cut h]
    have : twW at_ many 0 = 1 := by unfold twW; rw [if_neg (by omega)]
    rw [this]; rfl
  unfold rootA
  rw [hc, if_neg (by decide)]
  unfold tokR
  rw [if_neg (show ¬ (Q.may (TP wd at_ many).e (TP wd at_ many).a (s0 9).L 5 ≠ 0) from by show ¬ (Q.may 9 9 [] 5 ≠ 0); decide), if_neg (by decide)]
  show (⟨cap 5 1, 0, y1⟩ : Ans) = _
  rw [cap51]
theorem tw_fit1 {wd : Int} (h : 1 ≤ wd) (at_ many : Nat) : Fit (TP wd at_ many) y1 := by
  have := (tp_fit h at_ many).root 5
  rwa [tw_root h] at this
theorem tw_draw {wd : Int} (h : 1 ≤ wd) (at_ many : Nat) : childD (TP wd at_ many) y1 5 = if at_ < many ∧ at_ < 9 then (0, 0, at_ + 2) else if 9 ≤ many then (0, 12, 10) else (0, 11, many + 1) := by
  obtain ⟨q, h1, h2, h3, hc⟩ := childD_spec (tw_fit1 h at_ many) 5
  generalize childD (TP wd at_ many) y1 5 = R at *
  obtain ⟨r1, r2, r3⟩ := R
  have hy : y1.t = 1 := rfl
  rw [hy] at h1 h3 hc
  change 1 + q ≤ many + 1 at h3
  simp only at h1
  subst h1
  have hcc : ∀ j, (TP wd at_ many).c j = twW at_ many j := fun j => tw_cut h at_ many j
  simp only [hcc] at hc
  have hall : ∀ m, (∀ j, j < m → ofP y1.X y1.l 5 (twW at_ many (1 + j)) = true) → ∀ j, j < m → ¬ (at_ < many ∧ j = at_) := fun m hm j hj he => by
    have := hm j hj
    have e : twW at_ many (1 + j) = 0 := by unfold twW; rw [if_pos ⟨he.1, by omega⟩]
    rw [e, y1_two] at this
    cases this
  rcases hc with ⟨e1, e2, e3, e4, e5⟩ | ⟨e1, e2, e3, e4, e5⟩ | ⟨e1, e2, e3, e5⟩
  · change r2 = 0 at e1
    change r1 = _ at e3
    change ofP _ _ 5 r1 = false at e4
    subst e1
    have hq : at_ < many ∧ q = 1 + at_ := by
      by_cases hx : at_ < many ∧ 1 + q - 1 = 1 + at_
      · exact ⟨hx.1, by omega⟩
      · have : twW at_ many (1 + q - 1) = 1 := by unfold twW; rw [if_neg hx]
        rw [e3, this, y1_one] at e4
        cases e4
    have e6 : r1 = 0 := by rw [e3]; unfold twW; rw [if_pos ⟨hq.1, by omega⟩]
    rw [if_pos ⟨hq.1, by omega⟩, e6]
    congr 2
    omega
  · change r2 = 11 at e1
    change r1 = 0 at e2
    subst e1 e2
    change 1 + q = many + 1 at e3
    have hn : ¬ at_ < many := fun hx => hall q e5 at_ (by omega) ⟨hx, rfl⟩
    rw [if_neg (by omega), if_neg (by omega)]
    congr 2
  · change r2 = 12 at e1
    change r1 = 0 at e2
    subst e1 e2
    have hn : ¬ (at_ < many ∧ at_ < 9) := fun hx => hall q e5 at_ (by omega) ⟨hx.1, rfl⟩
    rw [if_neg hn, if_pos (by omega)]
    congr 2
    omega
/-- What Child answers there. -/
theorem tw_child {wd : Int} (h : 1 ≤ wd) (at_ many : Nat) :
    (at_ < many ∧ at_ < 9 ∧ ∃ s, childA (TP wd at_ many) y1 (5, 0, 1) 31 = ⟨(5, 0, 0), 0, s⟩ ∧ s.t = at_ + 2) ∨
    (¬ (at_ < many ∧ at_ < 9) ∧ 9 ≤ many ∧ ∃ s, childA (TP wd at_ many) y1 (5, 0, 1) 31 = ⟨(0, 0, 0), 12, s⟩ ∧ s.t = 10 ∧ s.L.count 5 = 1) ∨
    (¬ (at_ < many ∧ at_ < 9) ∧ ¬ 9 ≤ many ∧ ∃ s, childA (TP wd at_ many) y1 (5, 0, 1) 31 = ⟨(0, 0, 0), 11, s⟩ ∧ s.t = many + 1 ∧ s.L.count 5 = 1) := by
  have hA : childA (TP wd at_ many) y1 (5, 0, 1) 31 = (if (childD (TP wd at_ many) y1 5).2.1 ≠ 0 then no { y1 with t := (childD (TP wd at_ many) y1 5).2.2 } (childD (TP wd at_ many) y1 5).2.1 else ⟨cap 5 (childD (TP wd at_ many) y1 5).1, 0, addS y1 5 (childD (TP wd at_ many) y1 5).1 (findN y1.X y1.l (5, 0, 1)) 31 (childD (TP wd at_ many) y1 5).2.2⟩) := by
    unfold childA
    rw [if_neg (by rw [y1_has]; decide), y1_rgt, if_neg (by decide)]
    unfold tokR
    rw [if_neg (by show ¬ (Q.may 9 9 y1.L 5 ≠ 0); rw [y1_may]; decide)]
  rw [hA, tw_draw h]
  by_cases h1 : at_ < many ∧ at_ < 9
  · rw [if_pos h1]
    exact .inl ⟨h1.1, h1.2, addS y1 5 0 (findN y1.X y1.l (5, 0, 1)) 31 (at_ + 2), by rw [if_neg (show ¬ (0 : Int) ≠ 0 by decide)]; show (⟨cap 5 0, 0, _⟩ : Ans) = _; rw [cap50], rfl⟩
  · rw [if_neg h1]
    by_cases h2 : 9 ≤ many
    · rw [if_pos h2]
      exact .inr (.inl ⟨h1, h2, { y1 with t := 10 }, by rw [if_pos (by decide)]; rfl, rfl, y1_cnt⟩)
    · rw [if_neg h2]
      exact .inr (.inr ⟨h1, h2, { y1 with t := many + 1 }, by rw [if_pos (show (11 : Int) ≠ 0 by decide)]; rfl, rfl, y1_cnt⟩)
end Go.Proofs.YtgihdchgdejkhaaGreatDoor.D
