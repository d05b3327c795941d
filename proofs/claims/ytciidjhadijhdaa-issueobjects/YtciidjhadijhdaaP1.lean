import Init
namespace Go.Proofs.Ytciidjhadijhdaa

/-- The nodes that are there, in the order in which they were made: number, parent. -/
abbrev Fo := List (Int × Int)
def nums (l : Fo) : List Int := l.map (·.1)
def ch (l : Fo) (p : Int) : List Int := (l.filter (fun x => decide (x.2 = p))).map (·.1)
/-- A forest that is made node by node: each new, each root or child of one that is there. -/
def Ok (m : Nat) (l : Fo) : Prop := ∀ P : Fo → Prop, P [] → (∀ (l : Fo) (n p : Int), P l → 0 ≤ n → n < m → n ∉ nums l → (p = -1 ∨ p ∈ nums l) → P (l ++ [(n, p)])) → P l
theorem Ok.nil {m : Nat} : Ok m [] := fun _ h0 _ => h0
theorem Ok.add {m : Nat} {l : Fo} {n p : Int} (h : Ok m l) (h0 : 0 ≤ n) (h1 : n < m) (h2 : n ∉ nums l) (h3 : p = -1 ∨ p ∈ nums l) : Ok m (l ++ [(n, p)]) := fun P hn ha => ha l n p (h P hn ha) h0 h1 h2 h3
theorem Ok.ind {m : Nat} {P : Fo → Prop} {l : Fo} (h : Ok m l) (hn : P []) (ha : ∀ (l : Fo) (n p : Int), Ok m l → P l → 0 ≤ n → n < m → n ∉ nums l → (p = -1 ∨ p ∈ nums l) → P (l ++ [(n, p)])) : P l :=
  (h (fun l => Ok m l ∧ P l) ⟨Ok.nil, hn⟩ (fun l n p ih h0 h1 h2 h3 => ⟨ih.1.add h0 h1 h2 h3, ha l n p ih.1 ih.2 h0 h1 h2 h3⟩)).2
theorem nums_app (l : Fo) (n p : Int) : nums (l ++ [(n, p)]) = nums l ++ [n] := by simp [nums]
theorem ch_app (l : Fo) (n p q : Int) : ch (l ++ [(n, p)]) q = ch l q ++ (if p = q then [n] else []) := by
  unfold ch
  rw [List.filter_append, List.map_append]
  congr 1
  by_cases h : p = q <;> simp [h]
theorem mem_ch {l : Fo} {p k : Int} : k ∈ ch l p ↔ (k, p) ∈ l := by
  unfold ch
  simp only [List.mem_map, List.mem_filter, decide_eq_true_eq]
  constructor
  · rintro ⟨⟨a, b⟩, ⟨h1, h2⟩, h3⟩
    simp only at h2 h3
    subst h2 h3
    exact h1
  · intro h
    exact ⟨(k, p), ⟨h, rfl⟩, rfl⟩
theorem mem_nums {l : Fo} {k : Int} : k ∈ nums l ↔ ∃ p, (k, p) ∈ l := by
  unfold nums
  simp only [List.mem_map]
  constructor
  · rintro ⟨⟨a, b⟩, h1, h2⟩
    simp only at h2
    subst h2
    exact ⟨b, h1⟩
  · rintro ⟨p, h⟩
    exact ⟨_, h, rfl⟩
theorem Ok.range {m : Nat} {l : Fo} (h : Ok m l) : ∀ k ∈ nums l, 0 ≤ k ∧ k < m := by
  refine Ok.ind (P := fun l => ∀ k ∈ nums l, 0 ≤ k ∧ k < m) h ?_ ?_
  · intro k hk; cases hk
  · intro l n p h ih h0 h1 h2 h3
    intro k hk
    rw [nums_app, List.mem_append, List.mem_singleton] at hk
    rcases hk with hk | rfl
    · exact ih k hk
    · exact ⟨h0, h1⟩
theorem Ok.nodup {m : Nat} {l : Fo} (h : Ok m l) : (nums l).Nodup := by
  refine Ok.ind (P := fun l => (nums l).Nodup) h ?_ ?_
  · exact List.nodup_nil
  · intro l n p h ih h0 h1 h2 h3
    rw [nums_app, List.nodup_append]
    refine ⟨ih, by simp, fun a ha b hb => ?_⟩
    rw [List.mem_singleton] at hb
    subst hb
    intro e
    subst e
    exact h2 ha
/-- Parents stand ahead. -/
theorem Ok.par {m : Nat} {l : Fo} (h : Ok m l) : ∀ (j : Nat) (k p : Int), l[j]? = some (k, p) → p = -1 ∨ ∃ (i : Nat) (q : Int), i < j ∧ l[i]? = some (p, q) := by
  refine Ok.ind (P := fun l => ∀ (j : Nat) (k p : Int), l[j]? = some (k, p) → p = -1 ∨ ∃ (i : Nat) (q : Int), i < j ∧ l[i]? = some (p, q)) h ?_ ?_
  · intro j k p hj; simp at hj
  · intro l n p h ih h0 h1 h2 h3
    intro j k q hj
    by_cases hlt : j < l.length
    · rw [List.getElem?_append_left hlt] at hj
      rcases ih j k q hj with h | ⟨i, r, hi, hr⟩
      · exact .inl h
      · exact .inr ⟨i, r, hi, by rw [List.getElem?_append_left (by omega)]; exact hr⟩
    · rw [List.getElem?_append_right (by omega)] at hj
      have hj0 : j - l.length = 0 := by
        rcases Nat.eq_zero_or_pos (j - l.length) with h | h
        · exact h
        · rw [List.getElem?_eq_none (by simp; omega)] at hj; cases hj
      rw [hj0] at hj
      simp only [List.getElem?_cons_zero, Option.some.injEq, Prod.mk.injEq] at hj
      obtain ⟨rfl, rfl⟩ := hj
      rcases h3 with h3 | h3
      · exact .inl h3
      · obtain ⟨r, hr⟩ := mem_nums.1 h3
        obtain ⟨i, hi⟩ := List.getElem?_of_mem hr
        have : i < l.length := (List.getElem?_eq_some_iff.1 hi).1
        exact .inr ⟨i, r, by omega, by rw [List.getElem?_append_left this]; exact hi⟩
theorem Ok.up {m : Nat} {l : Fo} (h : Ok m l) {k p : Int} (hk : (k, p) ∈ l) : p = -1 ∨ p ∈ nums l := by
  obtain ⟨j, hj⟩ := List.getElem?_of_mem hk
  rcases h.par j k p hj with h | ⟨i, q, _, hi⟩
  · exact .inl h
  · exact .inr (mem_nums.2 ⟨q, List.mem_of_getElem? hi⟩)
theorem Ok.uniq {m : Nat} {l : Fo} (h : Ok m l) : ∀ {k p q : Int}, (k, p) ∈ l → (k, q) ∈ l → p = q := by
  refine Ok.ind (P := fun l => ∀ {k p q : Int}, (k, p) ∈ l → (k, q) ∈ l → p = q) h ?_ ?_
  · intro k p q hk; cases hk
  · intro l n p h ih h0 h1 h2 h3
    intro k p q h4 h5
    rw [List.mem_append, List.mem_singleton, Prod.mk.injEq] at h4 h5
    rcases h4 with h4 | ⟨rfl, rfl⟩ <;> rcases h5 with h5 | ⟨h5, rfl⟩
    · exact ih h4 h5
    · subst h5; exact absurd (mem_nums.2 ⟨_, h4⟩) h2
    · exact absurd (mem_nums.2 ⟨_, h5⟩) h2
    · rfl
theorem ch_sub (l : Fo) (p : Int) : (ch l p).Sublist (nums l) := (List.filter_sublist).map _
theorem Ok.chNodup {m : Nat} {l : Fo} (h : Ok m l) (p : Int) : (ch l p).Nodup := List.Nodup.sublist (ch_sub l p) h.nodup
theorem ch_mem {l : Fo} {p k : Int} (h : k ∈ ch l p) : k ∈ nums l := (ch_sub l p).subset h
/-- Who is not there has no children. -/
theorem Ok.none {m : Nat} {l : Fo} (h : Ok m l) {p : Int} (h0 : 0 ≤ p) (hp : p ∉ nums l) : ch l p = [] := by
  apply List.eq_nil_iff_forall_not_mem.2
  intro k hk
  rcases h.up (mem_ch.1 hk) with h1 | h1
  · omega
  · exact hp h1
theorem pigeon : ∀ (m : Nat) (L : List Int), L.Nodup → (∀ x ∈ L, 0 ≤ x ∧ x < m) → L.length ≤ m
  | 0, L, _, h => by
    cases L with
    | nil => simp
    | cons a t => have := h a (by simp); omega
  | m + 1, L, hn, h => by
    have h1 := pigeon m (L.erase (m : Int)) (hn.erase _) (fun x hx => by
      have h2 := (hn.mem_erase_iff).1 hx
      have h3 := h x h2.2
      have h4 := h2.1
      exact ⟨h3.1, by omega⟩)
    by_cases hm : (m : Int) ∈ L
    · rw [List.length_erase_of_mem hm] at h1
      omega
    · rw [List.erase_of_not_mem hm] at h1
      omega
theorem Ok.len {m : Nat} {l : Fo} (h : Ok m l) : l.length ≤ m := by
  have := pigeon m (nums l) h.nodup h.range
  simpa [nums] using this
end Go.Proofs.Ytciidjhadijhdaa
