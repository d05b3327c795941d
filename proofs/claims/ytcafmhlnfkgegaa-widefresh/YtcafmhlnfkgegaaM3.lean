import Derived.Test.YtcafmhlnfkgegaaW9
namespace Go.Proofs.Ytcafmhlnfkgegaa

/-! ### Texts come back -/
theorem strB_natsOf (s : ByteArray) : strB (natsOf s) = s := by
  unfold strB natsOf
  apply ByteArray.ext
  apply Array.toList_inj.1
  simp only [List.map_map]
  conv => rhs; rw [← List.map_id s.data.toList]
  apply List.map_congr_left
  intro x _
  simp
theorem natsOf_strB {l : List Nat} (h : ∀ x ∈ l, x < 256) : natsOf (strB l) = l := by
  unfold natsOf strB
  simp only [List.map_map]
  conv => rhs; rw [← List.map_id l]
  apply List.map_congr_left
  intro x hx
  have := h x hx
  simp only [Function.comp, id]
  rw [UInt8.toNat_ofNat']
  exact Nat.mod_eq_of_lt this
theorem hexC_isHex {d : Nat} (h : d < 16) : isHex (hexC d) = true := by
  unfold isHex hexC
  by_cases h1 : d < 10
  · rw [if_pos h1, decide_eq_true (by omega)]; rfl
  · rw [if_neg h1, decide_eq_true (p := 97 ≤ 87 + d ∧ 87 + d ≤ 102) (by omega), Bool.or_true]
theorem digit_hexC {d : Nat} (h : d < 16) : digitV (hexC d) = d := by
  unfold digitV hexC
  by_cases h1 : d < 10
  · rw [if_pos h1, if_pos (by omega)]; omega
  · rw [if_neg h1, if_neg (by omega), if_pos (by omega)]; omega
theorem hexC_digit {c : Nat} (h : isHex c = true) : hexC (digitV c) = c := by
  unfold isHex at h
  simp only [Bool.or_eq_true, decide_eq_true_eq] at h
  rcases h with h | h
  · have e : digitV c = c - 48 := by unfold digitV; rw [if_pos h]
    rw [e]; unfold hexC; rw [if_pos (by omega)]; omega
  · have e : digitV c = c - 87 := by unfold digitV; rw [if_neg (by omega), if_pos h]
    rw [e]; unfold hexC; rw [if_neg (by omega)]; omega
theorem hexC_zero {d : Nat} (h : hexC d = 48) : d = 0 := by
  unfold hexC at h
  split at h <;> omega
theorem lowL_length (N m : Nat) : (lowL N m).length = m := by simp [lowL]
theorem lowL_snoc (N v m : Nat) (hv : v < 16) : lowL (N * 16 + v) (m + 1) = lowL N m ++ [hexC v] := by
  unfold lowL
  rw [List.range_succ, List.map_append]
  congr 1
  · apply List.map_congr_left
    intro i hi
    rw [List.mem_range] at hi
    have e1 : m + 1 - 1 - i = (m - 1 - i) + 1 := by omega
    rw [e1, Nat.pow_succ, Nat.mul_comm (16 ^ (m - 1 - i)), ← Nat.div_div_eq_div_mul]
    have e2 : (N * 16 + v) / 16 = N := by omega
    rw [e2]
  · simp only [List.map_cons, List.map_nil, Nat.add_sub_cancel, Nat.sub_self, Nat.pow_zero, Nat.div_one]
    have e3 : (N * 16 + v) % 16 = v := by omega
    rw [e3]
theorem lowL_succ (N m : Nat) : lowL N (m + 1) = lowL (N / 16) m ++ [hexC (N % 16)] := by
  have := lowL_snoc (N / 16) (N % 16) m (Nat.mod_lt _ (by omega))
  rw [show N / 16 * 16 + N % 16 = N by omega] at this
  exact this
theorem hexVal_lowL (m : Nat) : ∀ N, N < 16 ^ m → hexVal (lowL N m) = N := by
  induction m with
  | zero => intro N h; simp at h; subst h; rfl
  | succ m ih =>
    intro N h
    rw [lowL_succ, hexVal_snoc, ih (N / 16) (by rw [Nat.pow_succ] at h; omega), digit_hexC (Nat.mod_lt _ (by omega))]
    omega
theorem all_lowL (N m : Nat) : (lowL N m).all isHex = true := by
  rw [List.all_eq_true]
  intro x hx
  unfold lowL at hx
  rw [List.mem_map] at hx
  obtain ⟨i, _, rfl⟩ := hx
  exact hexC_isHex (Nat.mod_lt _ (by omega))
theorem lowL_256 (N m : Nat) : ∀ x ∈ lowL N m, x < 256 := by
  intro x hx
  unfold lowL at hx
  rw [List.mem_map] at hx
  obtain ⟨i, _, rfl⟩ := hx
  exact hexC_lt _ (Nat.mod_lt _ (by omega))
theorem ndig_ex {N : Nat} (h : N < B64 * B64) : ∃ m, 1 ≤ m ∧ m ≤ 32 ∧ N / 16 ^ m = 0 ∧ (m = 1 ∨ N / 16 ^ (m - 1) ≠ 0) := by
  have h32 : N / 16 ^ 32 = 0 := Nat.div_eq_of_lt (by rw [show (16 : Nat) ^ 32 = B64 * B64 by decide]; exact h)
  have : ∀ k, k ≤ 32 → 1 ≤ k → N / 16 ^ k = 0 → ∃ m, 1 ≤ m ∧ m ≤ k ∧ N / 16 ^ m = 0 ∧ (m = 1 ∨ N / 16 ^ (m - 1) ≠ 0) := by
    intro k
    induction k with
    | zero => intro _ h1; omega
    | succ k ih =>
      intro h1 _ h3
      by_cases hk : k = 0
      · subst hk; exact ⟨1, by omega, by omega, h3, .inl rfl⟩
      · by_cases hz : N / 16 ^ k = 0
        · obtain ⟨m, a, b, c, d⟩ := ih (by omega) (by omega) hz
          exact ⟨m, a, by omega, c, d⟩
        · exact ⟨k + 1, by omega, by omega, h3, .inr (by simpa using hz)⟩
  exact this 32 (by omega) (by omega) h32
theorem lt_of_div {N m : Nat} (h : N / 16 ^ m = 0) : N < 16 ^ m := by
  rcases Nat.div_eq_zero_iff.1 h with h | h
  · have : 0 < 16 ^ m := Nat.pow_pos (by omega)
    omega
  · exact h
theorem text_parse {N : Nat} (h : N < B64 * B64) : parseOk (natsOf (strB (textL N))) = true ∧ hexVal (natsOf (strB (textL N))) = N := by
  obtain ⟨m, h1, h2, h3, h4⟩ := ndig_ex h
  have hd := ndig_of h1 h2 h3 h4
  have hlt := lt_of_div h3
  unfold textL
  rw [hd, natsOf_strB (lowL_256 N m), hexVal_lowL m N hlt]
  refine ⟨?_, rfl⟩
  unfold parseOk
  rw [lowL_length, all_lowL, decide_eq_true (show 1 ≤ m ∧ m ≤ 32 from ⟨h1, h2⟩)]
  rcases h4 with h4 | h4
  · subst h4; simp
  · have hz : decide ((lowL N m)[0]? = some 48) = false := by
      apply decide_eq_false
      intro e
      have hl : (lowL N m)[0]? = some (hexC (N / 16 ^ (m - 1 - 0) % 16)) := by
        unfold lowL
        rw [List.getElem?_map, List.getElem?_range (by omega)]
        rfl
      rw [hl] at e
      have := hexC_zero (Option.some.inj e)
      rw [Nat.sub_zero] at this
      have h5 : N / 16 ^ (m - 1) < 16 := by
        apply Nat.div_lt_of_lt_mul
        rw [← Nat.pow_succ, show (m - 1).succ = m by omega]
        exact hlt
      rw [Nat.mod_eq_of_lt h5] at this
      exact h4 this
    rw [hz]; simp
theorem snoc_ind {P : List Nat → Prop} (h0 : P []) (h1 : ∀ l c, P l → P (l ++ [c])) : ∀ l, P l := by
  intro l
  have : ∀ l : List Nat, P l.reverse := by
    intro l
    induction l with
    | nil => exact h0
    | cons c l ih => rw [List.reverse_cons]; exact h1 _ _ ih
  have := this l.reverse
  rwa [List.reverse_reverse] at this
theorem lowL_hexVal (l : List Nat) : l.all isHex = true → lowL (hexVal l) l.length = l := by
  refine snoc_ind (P := fun l => l.all isHex = true → lowL (hexVal l) l.length = l) (fun _ => rfl) (fun l c ih hall => ?_) l
  rw [List.all_append, Bool.and_eq_true] at hall
  have hc : isHex c = true := by simpa using hall.2
  rw [hexVal_snoc, List.length_append, List.length_singleton, lowL_snoc _ _ _ (digitV_lt c), ih hall.1, hexC_digit hc]
theorem hexVal_lead (c : Nat) (l : List Nat) : digitV c * 16 ^ l.length ≤ hexVal (c :: l) := by
  refine snoc_ind (P := fun l => digitV c * 16 ^ l.length ≤ hexVal (c :: l)) ?_ (fun l e ih => ?_) l
  · simp [hexVal]
  · rw [← List.cons_append, hexVal_snoc, List.length_append, List.length_singleton, Nat.pow_succ]
    have : digitV c * (16 ^ l.length * 16) = digitV c * 16 ^ l.length * 16 := by rw [Nat.mul_assoc]
    omega
theorem parse_text {s : ByteArray} (h : parseOk (natsOf s) = true) : strB (textL (hexVal (natsOf s))) = s := by
  unfold parseOk at h
  rw [Bool.and_eq_true, Bool.and_eq_true, decide_eq_true_eq] at h
  obtain ⟨⟨⟨h1, h2⟩, h3⟩, h4⟩ := h
  have hlt := hexVal_lt (natsOf s)
  have hd : ndig (hexVal (natsOf s)) = (natsOf s).length := by
    refine ndig_of h1 h2 (Nat.div_eq_of_lt hlt) ?_
    by_cases h5 : (natsOf s).length = 1
    · exact .inl h5
    · right
      cases hl : natsOf s with
      | nil => rw [hl] at h1; simp at h1
      | cons c l =>
        rw [hl] at h3 h4 h5
        have hc : isHex c = true := by rw [List.all_cons, Bool.and_eq_true] at h4; exact h4.1
        have h6 : c ≠ 48 := by
          intro e
          subst e
          simp at h3 h5
          cases l with
          | nil => exact h5 rfl
          | cons _ _ => simp at h3
        have h7 : 1 ≤ digitV c := by
          rcases Nat.eq_zero_or_pos (digitV c) with h8 | h8
          · have := hexC_digit hc
            rw [h8] at this
            exact absurd this.symm h6
          · exact h8
        have h9 := hexVal_lead c l
        have h10 : 16 ^ l.length ≤ hexVal (c :: l) := Nat.le_trans (Nat.le_mul_of_pos_left _ h7) h9
        rw [List.length_cons, Nat.add_sub_cancel]
        have := Nat.div_pos h10 (Nat.pow_pos (by omega))
        omega
  unfold textL
  rw [hd, lowL_hexVal _ h4, strB_natsOf]

/-! ### Bytes come back -/
theorem byte_valN {f : Nat → Nat} (hf : ∀ i, f i < 256) (k : Nat) : ∀ i, i < k → byteN (valN f k) i = f i := by
  induction k with
  | zero => intro i h; omega
  | succ k ih =>
    intro i hi
    have hv := valN_lt hf k
    rw [valN_succ]
    by_cases e : i = k
    · subst e
      unfold byteN
      rw [Nat.add_mul_div_right _ _ (Nat.pow_pos (by omega)), Nat.div_eq_of_lt hv, Nat.zero_add, Nat.mod_eq_of_lt (hf i)]
    · have h1 := ih i (by omega)
      unfold byteN at h1 ⊢
      obtain ⟨j, hj⟩ : ∃ j, k = i + (j + 1) := ⟨k - i - 1, by omega⟩
      have e2 : f k * 256 ^ k = 256 ^ i * (256 * (256 ^ j * f k)) := by
        rw [hj, Nat.pow_add, Nat.pow_succ, Nat.mul_comm (f _)]
        simp only [Nat.mul_comm, Nat.mul_left_comm]
      rw [e2, Nat.add_mul_div_left _ _ (Nat.pow_pos (by omega)), Nat.add_mul_mod_self_left]
      exact h1
end Go.Proofs.Ytcafmhlnfkgegaa
