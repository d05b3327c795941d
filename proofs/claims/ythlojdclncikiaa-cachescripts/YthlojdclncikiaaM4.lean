import Derived.Test.YthlojdclncikiaaM2
import Derived.Test.YthlojdclncikiaaR4
namespace Go.Proofs.Ythlojdclncikiaa
open Go.RowKit
set_option linter.unusedVariables false

/-- The program's sets and the document's list hold the same. -/
structure Tie (s n k : Nat) (T : Nat → List Pu) (L : List Pu) : Prop where
  eq : ∀ r, T r = (L.filter (fun x => rowN k s x.1 = r)).reverse
  nd : (L.map (·.1)).Nodup
  len : ∀ r, (T r).length ≤ n
  ok : ∀ x ∈ L, okC x.1
variable {s n k : Nat} {T : Nat → List Pu} {L : List Pu}
theorem Tie.zero (s n k : Nat) : Tie s n k T0 [] := ⟨fun _ => rfl, List.nodup_nil, fun _ => Nat.zero_le _, fun _ h => by cases h⟩
theorem nd_eq {L : List Pu} (h : (L.map (·.1)).Nodup) {x y : Pu} (hx : x ∈ L) (hy : y ∈ L) (e : x.1 = y.1) : x = y := by
  induction L with
  | nil => cases hx
  | cons a L ih =>
    rw [List.map_cons, List.nodup_cons] at h
    rcases List.mem_cons.1 hx with e1 | h1
    · rcases List.mem_cons.1 hy with e2 | h2
      · rw [e1, e2]
      · exact (h.1 (List.mem_map.2 ⟨y, h2, by rw [← e1]; exact e.symm⟩)).elim
    · rcases List.mem_cons.1 hy with e2 | h2
      · exact (h.1 (List.mem_map.2 ⟨x, h1, by rw [← e2]; exact e⟩)).elim
      · exact ih h.2 h1 h2
/-- In a list without twins it is all one in which order one looks. -/
theorem find_same {L M : List Pu} {c : Cp} (hL : (L.map (·.1)).Nodup) (h : ∀ x, x.1 = c → (x ∈ L ↔ x ∈ M)) : getS M c = getS L c := by
  unfold getS
  cases hf : L.find? (fun x => x.1 = c) with
  | none =>
    have : M.find? (fun x => x.1 = c) = none := List.find?_eq_none.2 (fun x hx => by
      intro e
      have e2 : x.1 = c := by simpa using e
      have := List.find?_eq_none.1 hf x ((h x e2).2 hx)
      simp [e2] at this)
    rw [this]
  | some x =>
    have hx := List.mem_of_find?_eq_some hf
    have hxc : x.1 = c := by simpa using List.find?_some hf
    cases hm : M.find? (fun x => x.1 = c) with
    | none =>
      have := List.find?_eq_none.1 hm x ((h x hxc).1 hx)
      simp [hxc] at this
    | some y =>
      have hy := List.mem_of_find?_eq_some hm
      have hyc : y.1 = c := by simpa using List.find?_some hm
      rw [nd_eq hL ((h y hyc).2 hy) hx (hyc.trans hxc.symm)]
theorem Tie.get (h : Tie s n k T L) (hs : s ≠ 0) (c : Cp) : getT s k T c = getS L c := by
  unfold getT
  rw [if_neg hs, h.eq]
  exact find_same h.nd (fun x hx => by simp [hx])
theorem Tie.get0 (h : Tie 0 n k T L) (hL : L = []) (c : Cp) : getT 0 k T c = getS L c := by rw [hL]; rfl
theorem cnt_is (ro : Nat) (L : List Pu) : cnt k s ro L = (L.filter (fun x => rowN k s x.1 = ro)).length := by unfold cnt; rw [List.countP_eq_length_filter]
theorem small_le (j : Nat) (h : ∀ r, (L.filter (fun x => rowN k s x.1 = r)).length ≤ n) : (L.filter (fun x => rowN k s x.1 < j)).length ≤ j * n := by
  induction j with
  | zero => simp
  | succ j ih =>
    have h1 : ∀ M : List Pu, (M.filter (fun x => rowN k s x.1 < j + 1)).length ≤ (M.filter (fun x => rowN k s x.1 < j)).length + (M.filter (fun x => rowN k s x.1 = j)).length := by
      intro M
      induction M with
      | nil => simp
      | cons a M ih2 =>
        rw [List.filter_cons, List.filter_cons, List.filter_cons]
        by_cases e1 : rowN k s a.1 < j
        · rw [if_pos (by simp; omega), if_pos (by simp; omega), if_neg (by simp; omega)]
          simp only [List.length_cons]
          omega
        · by_cases e2 : rowN k s a.1 = j
          · rw [if_pos (by simp; omega), if_neg (by simp; omega), if_pos (by simp; omega)]
            simp only [List.length_cons]
            omega
          · rw [if_neg (by simp; omega), if_neg (by simp; omega), if_neg (by simp; omega)]
            exact ih2
    have := h1 L
    have := h j
    rw [Nat.succ_mul]
    omega
theorem Tie.small (h : Tie s n k T L) (hs : s ≠ 0) (h16 : s ≤ 16) (h4 : n ≤ 4) : L.length ≤ 64 := by
  have h1 := small_le (L := L) (k := k) (s := s) (n := n) s (fun r => by
    have := h.len r
    rw [h.eq, List.length_reverse] at this
    exact this)
  rw [List.filter_eq_self.2 (fun x _ => by simpa using rowN_lt x.1 (by omega))] at h1
  have : s * n ≤ 16 * 4 := Nat.mul_le_mul h16 h4
  omega
theorem filter_drop {p : Pu → Bool} : ∀ {L : List Pu} {j : Nat} {x : Pu}, L[j]? = some x → p x = false → (L.eraseIdx j).filter p = L.filter p
  | a :: r, 0, x, h, hp => by
    cases h
    rw [List.eraseIdx_zero, List.tail_cons, List.filter_cons_of_neg (by simp [hp])]
  | a :: r, j + 1, x, h, hp => by
    rw [List.eraseIdx_cons_succ, List.filter_cons, List.filter_cons, filter_drop (L := r) (j := j) (by simpa using h) hp]
theorem filter_first {p : Pu → Bool} : ∀ {L : List Pu} {j : Nat} {x : Pu}, L[j]? = some x → p x = true → (∀ (j' : Nat) (y : Pu), j' < j → L[j']? = some y → p y = false) → (L.eraseIdx j).filter p = (L.filter p).tail
  | a :: r, 0, x, h, hp, _ => by
    cases h
    rw [List.eraseIdx_zero, List.tail_cons, List.filter_cons_of_pos hp, List.tail_cons]
  | a :: r, j + 1, x, h, hp, hn => by
    have ha : p a = false := hn 0 a (by omega) rfl
    rw [List.eraseIdx_cons_succ, List.filter_cons_of_neg (by simp [ha]), List.filter_cons_of_neg (by simp [ha])]
    exact filter_first (L := r) (j := j) (by simpa using h) hp (fun j' y hj' hy => hn (j' + 1) y (by omega) (by simpa using hy))
theorem erase_mem {L : List Pu} {j : Nat} {y : Pu} (h : y ∈ L.eraseIdx j) : y ∈ L := List.mem_of_mem_eraseIdx h
theorem Tie.put (h : Tie s n k T L) (hs : s ≠ 0) (h1 : 1 ≤ n) (c : Cp) (m : Int) (hc : okC c) {M : List Pu} (hM : Pre n k s L c M) : Tie s n k (putT s n k T c m) (M ++ [(c, m)]) := by
  have hsub : M.Sublist L := by
    rcases hM with ⟨j, x, _, _, rfl⟩ | ⟨_, ⟨_, j, x, _, _, _, rfl⟩ | ⟨_, rfl⟩⟩
    · exact List.eraseIdx_sublist _ _
    · exact List.eraseIdx_sublist _ _
    · exact List.Sublist.refl _
  have hno : ∀ x ∈ M, x.1 ≠ c := by
    rcases hM with ⟨j, x, hx, hxc, rfl⟩ | ⟨hn, _⟩
    · obtain ⟨hj, e⟩ := List.getElem?_eq_some_iff.1 hx
      have := filter_erase h.nd j hj
      rw [e, hxc] at this
      intro y hy
      rw [← this] at hy
      simpa using (List.mem_filter.1 hy).2
    · intro y hy
      obtain ⟨j, hj, e⟩ := List.mem_iff_getElem.1 (hsub.subset hy)
      exact hn j y (by rw [← e]; exact List.getElem?_eq_getElem hj)
  have hother : ∀ r, r ≠ rowN k s c → M.filter (fun x => rowN k s x.1 = r) = L.filter (fun x => rowN k s x.1 = r) := by
    intro r hr
    rcases hM with ⟨j, x, hx, hxc, rfl⟩ | ⟨_, ⟨_, j, x, hx, hxr, _, rfl⟩ | ⟨_, rfl⟩⟩
    · exact filter_drop hx (by rw [hxc]; simp [Ne.symm hr])
    · exact filter_drop hx (by rw [hxr]; simp [Ne.symm hr])
    · rfl
  have hmine : (c, m) :: (M.filter (fun x => rowN k s x.1 = rowN k s c)).reverse = putS n (T (rowN k s c)) c m := by
    have hlen := h.len (rowN k s c)
    have hT := h.eq (rowN k s c)
    unfold putS
    rcases hM with ⟨j, x, hx, hxc, rfl⟩ | ⟨hn, hM⟩
    · obtain ⟨hj, e⟩ := List.getElem?_eq_some_iff.1 hx
      have hfe := filter_erase h.nd j hj
      rw [e, hxc] at hfe
      have e1 : (T (rowN k s c)).filter (fun x => x.1 ≠ c) = ((L.eraseIdx j).filter (fun x => rowN k s x.1 = rowN k s c)).reverse := by
        rw [hT, List.filter_reverse, ← hfe, List.filter_filter, List.filter_filter]
        congr 1
        exact List.filter_congr (fun y _ => Bool.and_comm _ _)
      rw [e1]
      have hmem : x ∈ T (rowN k s c) := by rw [hT, List.mem_reverse, List.mem_filter]; exact ⟨List.mem_of_getElem? hx, by simp [hxc]⟩
      have hlt : ((T (rowN k s c)).filter (fun x => x.1 ≠ c)).length < (T (rowN k s c)).length := List.length_filter_lt_length_iff_exists.2 ⟨x, hmem, by simp [hxc]⟩
      rw [e1] at hlt
      rw [List.take_of_length_le (by rw [List.length_cons]; omega)]
    · have hk : (T (rowN k s c)).filter (fun x => x.1 ≠ c) = T (rowN k s c) := filter_keep (fun y hy => by
        rw [hT, List.mem_reverse, List.mem_filter] at hy
        obtain ⟨j, hj, e⟩ := List.mem_iff_getElem.1 hy.1
        exact hn j y (by rw [← e]; exact List.getElem?_eq_getElem hj))
      rw [hk]
      have hc2 : cnt k s (rowN k s c) L = (T (rowN k s c)).length := by rw [cnt_is, hT, List.length_reverse]
      rcases hM with ⟨hle, j, x, hx, hxr, hfirst, rfl⟩ | ⟨hlt, rfl⟩
      · rw [hc2] at hle
        have hln : (T (rowN k s c)).length = n := by omega
        rw [filter_first hx (by simp [hxr]) (fun j' y hj' hy => by simpa using hfirst j' y hj' hy)]
        obtain ⟨v, rfl⟩ : ∃ v, n = v + 1 := ⟨n - 1, by omega⟩
        rw [List.take_succ_cons]
        congr 1
        rw [hT] at hln ⊢
        rw [List.length_reverse] at hln
        rw [List.take_reverse, hln]
        congr 1
        rw [show v + 1 - v = 1 by omega, List.drop_one]
      · rw [hc2] at hlt
        rw [List.take_of_length_le (by rw [List.length_cons]; omega), hT]
  refine ⟨fun r => ?_, ?_, fun r => ?_, fun x hx => ?_⟩
  · unfold putT
    rw [if_neg hs]
    by_cases e : r = rowN k s c
    · subst e
      rw [if_pos rfl, ← hmine, List.filter_append, List.reverse_append]
      simp
    · rw [if_neg e, h.eq, List.filter_append, hother r e]
      simp [Ne.symm e]
  · rw [List.map_append]
    refine List.nodup_append.2 ⟨(hsub.map _).nodup h.nd, by simp, ?_⟩
    intro a ha b hb
    obtain ⟨x, hx, rfl⟩ := List.mem_map.1 ha
    simp at hb
    subst hb
    exact hno x hx
  · unfold putT
    rw [if_neg hs]
    split
    · exact putS_len _ _ _
    · exact h.len r
  · rcases List.mem_append.1 hx with hx | hx
    · exact h.ok x (hsub.subset hx)
    · simp at hx
      subst hx
      exact hc
end Go.Proofs.Ythlojdclncikiaa
