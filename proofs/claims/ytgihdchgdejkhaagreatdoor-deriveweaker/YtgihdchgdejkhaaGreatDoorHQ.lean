import Derived.Test.YtgihdchgdejkhaaGreatDoorMO
namespace Go.Proofs.YtgihdchgdejkhaaGreatDoor.H
set_option linter.unusedVariables false
variable {V : Type}

/-- A capability has one value. -/
theorem one_val {E : List (Cp × V)} (h : (E.map Prod.fst).Nodup) {c : Cp} {u v : V} (hu : (c, u) ∈ E) (hv : (c, v) ∈ E) : u = v := by
  induction E with
  | nil => cases hu
  | cons a r ih =>
    rw [List.map_cons, List.nodup_cons] at h
    rcases List.mem_cons.1 hu with h1 | h1
    · rcases List.mem_cons.1 hv with h2 | h2
      · rw [← h1] at h2; exact (Prod.mk.inj h2).2.symm
      · exact absurd (List.mem_map.2 ⟨_, h2, by rw [← h1]⟩) h.1
    · rcases List.mem_cons.1 hv with h2 | h2
      · exact absurd (List.mem_map.2 ⟨_, h1, by rw [← h2]⟩) h.1
      · exact ih h.2 h1 h2
/-- A used place becomes loose, a tombstone free. -/
def relabel (p : Pl V) : Pl V := if p.k = 1 then ⟨3, p.c, p.v⟩ else if p.k = 2 then ⟨0, p.c, p.v⟩ else p
theorem relab_used {p : Pl V} (h : p.k = 1) : relabel p = ⟨3, p.c, p.v⟩ := by unfold relabel; rw [if_pos h]
theorem relab_tomb {p : Pl V} (h : p.k = 2) : relabel p = ⟨0, p.c, p.v⟩ := by unfold relabel; rw [if_neg (by omega), if_pos h]
theorem relab_same {p : Pl V} (h : p.k ≠ 1) (h2 : p.k ≠ 2) : relabel p = p := by unfold relabel; rw [if_neg h, if_neg h2]
theorem ent_relabel {p : Pl V} (h : p.k = 0 ∨ p.k = 1 ∨ p.k = 2) : ent (relabel p) = ent p := by
  rcases h with h | h | h
  · rw [relab_same (by omega) (by omega)]
  · rw [relab_used h]; simp [ent, h]
  · rw [relab_tomb h]; simp [ent, h]
theorem ents_relabel {L : List (Pl V)} (h : ∀ (i : Nat) (p : Pl V), L[i]? = some p → p.k = 0 ∨ p.k = 1 ∨ p.k = 2) : ents (L.map relabel) = ents L := by
  induction L with
  | nil => rfl
  | cons a r ih =>
    have h0 := ent_relabel (h 0 a rfl)
    have h1 := ih (fun i p hp => h (i + 1) p hp)
    unfold ents at h1 ⊢
    rw [List.map_cons, List.filterMap_cons, List.filterMap_cons, h0, h1]
/-- The first i are done. -/
def Up (i : Nat) (L M : List (Pl V)) : Prop := M.length = L.length ∧ ∀ j : Nat, M[j]? = if j < i then (L[j]?).map relabel else L[j]?
theorem Up.zero (L : List (Pl V)) : Up 0 L L := ⟨rfl, fun j => by simp⟩
theorem Up.at_ {i : Nat} {L M : List (Pl V)} (h : Up i L M) : M[i]? = L[i]? := by rw [h.2 i, if_neg (Nat.lt_irrefl _)]
theorem Up.step {i : Nat} {L M : List (Pl V)} (h : Up i L M) {p x : Pl V} (hp : L[i]? = some p) (hx : x = relabel p) : Up (i + 1) L (M.set i x) := by
  refine ⟨by rw [List.length_set]; exact h.1, fun j => ?_⟩
  rw [List.getElem?_set]
  by_cases he : i = j
  · subst he
    rw [if_pos rfl, if_pos (by rw [h.1]; exact get_lt hp), if_pos (by omega), hp, hx]
    rfl
  · rw [if_neg he, h.2 j]
    by_cases h1 : j < i
    · rw [if_pos h1, if_pos (by omega)]
    · rw [if_neg h1, if_neg (by omega)]
theorem Up.same {i : Nat} {L M : List (Pl V)} (h : Up i L M) {p : Pl V} (hp : L[i]? = some p) (hx : relabel p = p) : Up (i + 1) L M := by
  refine ⟨h.1, fun j => ?_⟩
  rw [h.2 j]
  by_cases h1 : j < i
  · rw [if_pos h1, if_pos (by omega)]
  · rw [if_neg h1]
    by_cases h2 : j = i
    · subst h2
      rw [if_pos (by omega), hp]
      simp [hx]
    · rw [if_neg (by omega)]
theorem Up.fin_ {i : Nat} {L M : List (Pl V)} (h : Up i L M) (hi : L.length ≤ i) : M = L.map relabel := by
  apply List.ext_getElem?
  intro j
  rw [h.2 j, List.getElem?_map]
  by_cases h1 : j < i
  · rw [if_pos h1]
  · rw [if_neg h1, List.getElem?_eq_none (by omega)]
    rfl
/-- While the table is made anew. -/
structure Mid (h : Cp → Nat) (L M : List (Pl V)) (i : Nat) : Prop where
  kinds : ∀ (j : Nat) (p : Pl V), M[j]? = some p → p.k = 0 ∨ p.k = 1 ∨ p.k = 3
  way : Way h (· = 1) M
  perm : (ents M).Perm (ents L)
  gone : ∀ (j : Nat) (p : Pl V), j < i → M[j]? = some p → p.k ≠ 3
theorem Mid.start (h : Cp → Nat) {L : List (Pl V)} (hk : ∀ (i : Nat) (p : Pl V), L[i]? = some p → p.k = 0 ∨ p.k = 1 ∨ p.k = 2) : Mid h L (L.map relabel) 0 := by
  have key : ∀ (j : Nat) (p : Pl V), (L.map relabel)[j]? = some p → p.k = 0 ∨ p.k = 3 := by
    intro j p hp
    rw [List.getElem?_map] at hp
    cases hq : L[j]? with
    | none => rw [hq] at hp; cases hp
    | some q =>
      rw [hq] at hp
      simp only [Option.map_some, Option.some.injEq] at hp
      subst hp
      rcases hk j q hq with h1 | h1 | h1
      · rw [relab_same (by omega) (by omega)]; exact .inl h1
      · rw [relab_used h1]; exact .inr rfl
      · rw [relab_tomb h1]; exact .inl rfl
  refine ⟨fun j p hp => ?_, fun j p hp h1 => ?_, by rw [ents_relabel hk], fun j p hj => absurd hj (Nat.not_lt_zero _)⟩
  · rcases key j p hp with h1 | h1
    · exact .inl h1
    · exact .inr (.inr h1)
  · rcases key j p hp with h2 | h2 <;> omega
theorem Mid.next {h : Cp → Nat} {L M : List (Pl V)} {i : Nat} (m : Mid h L M i) {p : Pl V} (hp : M[i]? = some p) (hk : p.k ≠ 3) : Mid h L M (i + 1) :=
  ⟨m.kinds, m.way, m.perm, fun j q hj hq => by
    rcases Nat.lt_or_ge j i with h1 | h1
    · exact m.gone j q h1 hq
    · obtain rfl : j = i := by omega
      rw [hp] at hq
      cases hq
      exact hk⟩
theorem Mid.settle {h : Cp → Nat} {L M : List (Pl V)} {i : Nat} (m : Mid h L M i) {p q : Pl V} (hp : M[i]? = some p) (hk : p.k = 3) {to_ d : Nat} (hd : d < M.length) (hto : to_ = (h p.c + d) % M.length) (hq : M[to_]? = some q) (h1 : q.k ≠ 1) (h2 : q.k ≠ 2)
    (hpath : ∀ e, e < d → ∀ p' : Pl V, M[(h p.c + e) % M.length]? = some p' → p'.k = 1 ∨ p'.k = 2) : Mid h L ((M.set i q).set to_ ⟨1, p.c, p.v⟩) i ∧ loo ((M.set i q).set to_ ⟨1, p.c, p.v⟩) < loo M := by
  have e1 : (M.set i q)[to_]? = some q := by
    rw [List.getElem?_set]
    split
    · rw [if_pos (get_lt hp)]
    · exact hq
  refine ⟨⟨?_, ?_, ?_, ?_⟩, ?_⟩
  · intro j x hx
    rcases get_set hx with ⟨rfl, rfl⟩ | ⟨_, h3⟩
    · exact .inr (.inl rfl)
    · rcases get_set h3 with ⟨rfl, rfl⟩ | ⟨_, h4⟩
      · exact m.kinds _ _ hq
      · exact m.kinds _ _ h4
  · have w1 : Way h (· = 1) (M.set i q) := m.way.set (fun x hx hx1 => by rw [hp] at hx; cases hx; omega) (fun hx => absurd hx h1)
    refine w1.set (fun _ _ _ => rfl) (fun _ => ?_)
    rw [List.length_set]
    refine ⟨d, hd, hto, fun e he x hx => ?_⟩
    rcases get_set hx with ⟨h3, rfl⟩ | ⟨_, h3⟩
    · have := hpath e he p (by rw [h3]; exact hp)
      omega
    · rcases hpath e he x h3 with h4 | h4
      · exact h4
      · have := m.kinds _ _ h3
        omega
  · refine List.Perm.trans (ents_swap hp hq (x := ⟨1, p.c, p.v⟩) ?_) m.perm
    simp [ent, hk]
  · intro j x hj hx
    rcases get_set hx with ⟨rfl, rfl⟩ | ⟨_, h3⟩
    · simp
    · rcases get_set h3 with ⟨rfl, rfl⟩ | ⟨_, h4⟩
      · omega
      · exact m.gone _ _ hj h4
  · have a1 := loo_set (x := q) hp
    have a2 := loo_set (x := (⟨1, p.c, p.v⟩ : Pl V)) e1
    simp only [hk, if_true] at a1
    simp only [show ¬ ((1 : Int) = 3) by omega, if_false] at a2
    omega
theorem Mid.fin_ {h : Cp → Nat} {L M : List (Pl V)} {i : Nat} (m : Mid h L M i) (hi : M.length ≤ i) : (∀ (j : Nat) (p : Pl V), M[j]? = some p → p.k = 0 ∨ p.k = 1) ∧ Way h (· ≠ 0) M := by
  have hk : ∀ (j : Nat) (p : Pl V), M[j]? = some p → p.k = 0 ∨ p.k = 1 := fun j p hp => by
    have h1 := m.gone j p (by have := get_lt hp; omega) hp
    rcases m.kinds j p hp with h2 | h2 | h2
    · exact .inl h2
    · exact .inr h2
    · exact absurd h2 h1
  refine ⟨hk, fun j p hp h1 => ?_⟩
  obtain ⟨d, a, b, c⟩ := m.way j p hp h1
  exact ⟨d, a, b, fun e he q hq => by rw [c e he q hq]; decide⟩
end Go.Proofs.YtgihdchgdejkhaaGreatDoor.H
