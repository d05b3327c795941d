import Derived.Laws.BitsAllLaws
import Derived.Laws.ShiftsVarLaws
import Derived.WalkKit
import Derived.WalkSpells
namespace Go.Proofs.Ytlelglfdamakaaa.H
open Go.RowKit

/-- 2 to the 64th, kept behind a name. -/
def B64 : Nat := 18446744073709551616
/-- The factor. -/
def KF : Nat := 11400714819323198485
/-- h times the factor, at 64 bits. -/
def mulN (h : Nat) : Nat := h * KF % B64
/-- h xor (h moved by 29). -/
def foldN (h : Nat) : Nat := h ^^^ (h / 2 ^ 29)
/-- One number taken in. -/
def stepN (h v : Nat) : Nat := foldN (mulN (h ^^^ v))
/-- All three. -/
def hashN (o a b : Nat) : Nat := stepN (stepN (stepN 5903417616801668165 o) a) b
/-- The lowest bits. -/
def lowN (h : Nat) (k : Int) : Nat := if k ≤ 0 then 0 else if 64 ≤ k then h else h % 2 ^ k.toNat

theorem xor_lt {a b : Nat} (ha : a < B64) (hb : b < B64) : a ^^^ b < B64 := Nat.xor_lt_two_pow (n := 64) ha hb
theorem mulN_lt (h : Nat) : mulN h < B64 := Nat.mod_lt _ (by decide)
theorem foldN_lt {h : Nat} (hh : h < B64) : foldN h < B64 := xor_lt hh (Nat.lt_of_le_of_lt (Nat.div_le_self _ _) hh)
theorem stepN_lt (h v : Nat) : stepN h v < B64 := foldN_lt (mulN_lt _)
theorem hashN_lt (o a b : Nat) : hashN o a b < B64 := stepN_lt _ _
theorem lowN_lt {h : Nat} (k : Int) (hh : h < B64) : lowN h k < B64 := by
  unfold lowN
  split
  · decide
  · split
    · exact hh
    · exact Nat.lt_of_le_of_lt (Nat.mod_le _ _) hh

end Go.Proofs.Ytlelglfdamakaaa.H
namespace Go.Proofs.Ytlelglfdamakaaa.H
set_option linter.unusedVariables false

/-- A capability: object, the word's halves. -/
abbrev Cp := Int × Nat × Nat
/-- A place: what stands there, the key, the value. -/
structure Pl (V : Type) where
  k : Int
  c : Cp
  v : V
variable {V : Type}
/-- What a place holds. -/
def ent (p : Pl V) : Option (Cp × V) := if p.k = 1 ∨ p.k = 3 then some (p.c, p.v) else none
def ents (L : List (Pl V)) : List (Cp × V) := L.filterMap ent
/-- From its first place on no used one comes behind a place that is not good. -/
def Way (h : Cp → Nat) (good : Int → Prop) (L : List (Pl V)) : Prop :=
  ∀ (i : Nat) (p : Pl V), L[i]? = some p → p.k = 1 → ∃ d, d < L.length ∧ i = (h p.c + d) % L.length ∧ ∀ e, e < d → ∀ (q : Pl V), L[(h p.c + e) % L.length]? = some q → good q.k

theorem get_set {L : List (Pl V)} {i j : Nat} {x p : Pl V} (h : (L.set i x)[j]? = some p) : (j = i ∧ p = x) ∨ (j ≠ i ∧ L[j]? = some p) := by
  rw [List.getElem?_set] at h
  split at h
  · split at h
    · next h1 h2 => exact .inl ⟨h1.symm, (Option.some.inj h).symm⟩
    · cases h
  · next h1 => exact .inr ⟨fun e => h1 e.symm, h⟩
theorem get_some {L : List (Pl V)} {i : Nat} (h : i < L.length) : ∃ p : Pl V, L[i]? = some p := ⟨_, List.getElem?_eq_getElem h⟩
theorem get_lt {L : List (Pl V)} {i : Nat} {p : Pl V} (h : L[i]? = some p) : i < L.length := (List.getElem?_eq_some_iff.1 h).1

theorem Way.set {h : Cp → Nat} {good : Int → Prop} {L : List (Pl V)} {i : Nat} {x : Pl V} (hw : Way h good L) (hold : ∀ (q : Pl V), L[i]? = some q → good q.k → good x.k)
    (hx : x.k = 1 → ∃ d, d < L.length ∧ i = (h x.c + d) % L.length ∧ ∀ e, e < d → ∀ (q : Pl V), L[(h x.c + e) % L.length]? = some q → good q.k) : Way h good (L.set i x) := by
  have key : ∀ (m : Nat) (q' : Pl V), (L.set i x)[m]? = some q' → (∀ (q : Pl V), L[m]? = some q → good q.k) → good q'.k := by
    intro m q' h1 h2
    rcases get_set h1 with ⟨rfl, rfl⟩ | ⟨_, h3⟩
    · have hm := get_lt h1
      rw [List.length_set] at hm
      obtain ⟨q, hq⟩ := get_some hm
      exact hold q hq (h2 q hq)
    · exact h2 q' h3
  intro j p hp hk
  rw [List.length_set]
  rcases get_set hp with ⟨rfl, rfl⟩ | ⟨_, h3⟩
  · obtain ⟨d, h1, h2, h3⟩ := hx hk
    exact ⟨d, h1, h2, fun e he q hq => key _ _ hq (h3 e he)⟩
  · obtain ⟨d, h1, h2, h4⟩ := hw j p h3 hk
    exact ⟨d, h1, h2, fun e he q hq => key _ _ hq (h4 e he)⟩
/-- Not there, as a free place came first. -/
theorem Way.none {h : Cp → Nat} {L : List (Pl V)} (hw : Way h (· ≠ 0) L) {c : Cp} {d : Nat} {q : Pl V} (hb : ∀ e, e < d → ∀ (p : Pl V), L[(h c + e) % L.length]? = some p → p.k = 1 → p.c ≠ c) (hq : L[(h c + d) % L.length]? = some q) (h0 : q.k = 0) :
    ∀ (i : Nat) (p : Pl V), L[i]? = some p → p.k = 1 → p.c ≠ c := by
  intro i p hp hk hc
  obtain ⟨d', h1, h2, h3⟩ := hw i p hp hk
  rw [hc] at h2 h3
  rcases Nat.lt_trichotomy d' d with h4 | h4 | h4
  · exact hb d' h4 p (by rw [← h2]; exact hp) hk hc
  · subst h4
    rw [← h2, hp] at hq
    cases hq
    omega
  · exact h3 d h4 q hq h0
/-- Not there, as all were looked at. -/
theorem Way.none' {h : Cp → Nat} {L : List (Pl V)} (hw : Way h (· ≠ 0) L) {c : Cp} (hb : ∀ e, e < L.length → ∀ (p : Pl V), L[(h c + e) % L.length]? = some p → p.k = 1 → p.c ≠ c) :
    ∀ (i : Nat) (p : Pl V), L[i]? = some p → p.k = 1 → p.c ≠ c := by
  intro i p hp hk hc
  obtain ⟨d', h1, h2, h3⟩ := hw i p hp hk
  rw [hc] at h2 h3
  exact hb d' h1 p (by rw [← h2]; exact hp) hk hc

theorem ents_add {L : List (Pl V)} {i : Nat} {q x : Pl V} {y : Cp × V} (h : L[i]? = some q) (hq : ent q = none) (hx : ent x = some y) : (ents (L.set i x)).Perm (y :: ents L) := by
  induction L generalizing i with
  | nil => cases h
  | cons a r ih =>
    cases i with
    | zero =>
      simp only [List.getElem?_cons_zero, Option.some.injEq] at h
      subst h
      simp [ents, hq, hx]
    | succ i =>
      simp only [List.getElem?_cons_succ] at h
      have := ih h
      unfold ents at this ⊢
      rw [List.set_cons_succ, List.filterMap_cons, List.filterMap_cons]
      cases ent a with
      | none => exact this
      | some z => exact (this.cons z).trans (List.Perm.swap _ _ _)
theorem ents_del {L : List (Pl V)} {i : Nat} {q x : Pl V} {y : Cp × V} (h : L[i]? = some q) (hq : ent q = some y) (hx : ent x = none) : (ents L).Perm (y :: ents (L.set i x)) := by
  have h2 : (L.set i x)[i]? = some x := by rw [List.getElem?_set]; simp [get_lt h]
  have := ents_add (L := L.set i x) (i := i) (x := q) h2 hx hq
  rw [List.set_set] at this
  have e : L.set i q = L := by
    apply List.ext_getElem?
    intro j
    rw [List.getElem?_set]
    split
    · next hj => subst hj; rw [if_pos (get_lt h), h]
    · rfl
  rwa [e] at this
theorem ents_swap {L : List (Pl V)} {i j : Nat} {p q x : Pl V} (hp : L[i]? = some p) (hq : L[j]? = some q) (hx : ent x = ent p) : (ents ((L.set i q).set j x)).Perm (ents L) := by
  have e : ∀ M : List (Pl V), ents M = (M.map ent).filterMap id := fun M => by rw [List.filterMap_map]; rfl
  rw [e, e, List.map_set, List.map_set, hx]
  refine List.Perm.filterMap id ?_
  have hi : i < (L.map ent).length := by rw [List.length_map]; exact get_lt hp
  have hj : j < (L.map ent).length := by rw [List.length_map]; exact get_lt hq
  have h1 : ent p = (L.map ent)[i] := by
    rw [List.getElem_map]
    have := (List.getElem?_eq_some_iff.1 hp).2
    rw [this]
  have h2 : ent q = (L.map ent)[j] := by
    rw [List.getElem_map]
    have := (List.getElem?_eq_some_iff.1 hq).2
    rw [this]
  rw [h1, h2]
  exact List.set_set_perm hi hj
theorem ents_mem {L : List (Pl V)} {i : Nat} {p : Pl V} (h : L[i]? = some p) (hk : p.k = 1) : (p.c, p.v) ∈ ents L :=
  List.mem_filterMap.2 ⟨p, List.mem_of_getElem? h, by unfold ent; rw [if_pos (.inl hk)]⟩
theorem mem_ents {L : List (Pl V)} {y : Cp × V} (h : y ∈ ents L) (hk : ∀ (i : Nat) (p : Pl V), L[i]? = some p → p.k = 0 ∨ p.k = 1 ∨ p.k = 2) : ∃ (i : Nat) (p : Pl V), L[i]? = some p ∧ p.k = 1 ∧ y = (p.c, p.v) := by
  obtain ⟨p, hp, he⟩ := List.mem_filterMap.1 h
  obtain ⟨i, hi⟩ := List.getElem?_of_mem hp
  unfold ent at he
  split at he
  · next h1 =>
    refine ⟨i, p, hi, ?_, (Option.some.inj he).symm⟩
    rcases hk i p hi with h2 | h2 | h2 <;> omega
  · cases he

/-- How many are free. -/
def fre (L : List (Pl V)) : Nat := L.countP (fun p => decide (p.k = 0))
theorem fre_put {L : List (Pl V)} {i : Nat} {q x : Pl V} (h : L[i]? = some q) (hq : q.k = 0) (hx : x.k ≠ 0) : fre L = fre (L.set i x) + 1 := by
  induction L generalizing i with
  | nil => cases h
  | cons a r ih =>
    cases i with
    | zero =>
      simp only [List.getElem?_cons_zero, Option.some.injEq] at h
      subst h
      simp [fre, hq, hx]
    | succ i =>
      simp only [List.getElem?_cons_succ] at h
      have := ih h
      unfold fre at this ⊢
      rw [List.set_cons_succ, List.countP_cons, List.countP_cons, this]
      omega
theorem fre_same {L : List (Pl V)} {i : Nat} {q x : Pl V} (h : L[i]? = some q) (hq : q.k ≠ 0) (hx : x.k ≠ 0) : fre (L.set i x) = fre L := by
  induction L generalizing i with
  | nil => cases h
  | cons a r ih =>
    cases i with
    | zero =>
      simp only [List.getElem?_cons_zero, Option.some.injEq] at h
      subst h
      simp [fre, hq, hx]
    | succ i =>
      simp only [List.getElem?_cons_succ] at h
      have := ih h
      unfold fre at this ⊢
      rw [List.set_cons_succ, List.countP_cons, List.countP_cons, this]
theorem fre_all {L : List (Pl V)} (h : ∀ (i : Nat) (p : Pl V), L[i]? = some p → p.k = 0 ∨ p.k = 1) : fre L + (ents L).length = L.length := by
  induction L with
  | nil => rfl
  | cons a r ih =>
    have h0 := h 0 a rfl
    have h1 := ih (fun i p hp => h (i + 1) p hp)
    unfold fre ents at h1 ⊢
    rw [List.countP_cons, List.filterMap_cons]
    rcases h0 with h0 | h0
    · simp [h0, ent]; omega
    · simp [h0, ent]; omega
theorem fre_some {L : List (Pl V)} (h : 0 < fre L) : ∃ (i : Nat) (p : Pl V), L[i]? = some p ∧ p.k = 0 := by
  obtain ⟨p, hp, hk⟩ := List.countP_pos_iff.1 h
  obtain ⟨i, hi⟩ := List.getElem?_of_mem hp
  exact ⟨i, p, hi, of_decide_eq_true hk⟩
theorem fre_le (L : List (Pl V)) : fre L ≤ L.length := List.countP_le_length
/-- Around: a place is so far from a first place. -/
theorem far {h i N : Nat} (hh : h < N) (hi : i < N) : ∃ d, d < N ∧ i = (h + d) % N := by
  by_cases hle : h ≤ i
  · exact ⟨i - h, by omega, by rw [Nat.add_sub_cancel' hle, Nat.mod_eq_of_lt hi]⟩
  · refine ⟨i + N - h, by omega, ?_⟩
    have : h + (i + N - h) = i + N := by omega
    rw [this, Nat.add_mod_right, Nat.mod_eq_of_lt hi]
theorem next_far (h d N : Nat) : ((h + d) % N + 1) % N = (h + (d + 1)) % N := by rw [Nat.mod_add_mod, Nat.add_assoc]

/-- How many are loose. -/
def loo (L : List (Pl V)) : Nat := L.countP (fun p => decide (p.k = 3))
theorem loo_set {L : List (Pl V)} {i : Nat} {q x : Pl V} (h : L[i]? = some q) : loo (L.set i x) + (if q.k = 3 then 1 else 0) = loo L + (if x.k = 3 then 1 else 0) := by
  induction L generalizing i with
  | nil => cases h
  | cons a r ih =>
    cases i with
    | zero =>
      simp only [List.getElem?_cons_zero, Option.some.injEq] at h
      subst h
      simp [loo, List.countP_cons]
      omega
    | succ i =>
      simp only [List.getElem?_cons_succ] at h
      have := ih h
      unfold loo at this ⊢
      rw [List.set_cons_succ, List.countP_cons, List.countP_cons]
      omega
end Go.Proofs.Ytlelglfdamakaaa.H
