import Derived.Test.YthfmmfphnimlnaaIC
namespace Go.Proofs.Ythfmmfphnimlnaa
open Go.RowKit
set_option linter.unusedVariables false
set_option linter.unusedSimpArgs false
/-- The tokens ahead of a place keep the rule: so each one's parent is ahead of it. -/
theorem tkA_of {T : List Tk} {i : Nat} {t : Tk} (h : T[i]? = some t) : tkA T (i : Int) = t := by
  unfold tkA
  rw [Int.toNat_natCast, List.getD_eq_getElem?_getD, h]; rfl
theorem abv_lt {T : List Tk} {i : Nat} (hp : ∀ j, j < i → -1 ≤ (tkA T (j : Int)).p ∧ (tkA T (j : Int)).p < j) {p : Int} : ∀ (f : Nat) (k : Int), -1 ≤ k → k < i → abv T p f k = true → 0 ≤ p ∧ p ≤ k
  | 0, k, h0, h1, h => by simp [abv] at h
  | f + 1, k, h0, h1, h => by
    unfold abv at h
    by_cases e : k = -1
    · rw [if_pos e] at h; cases h
    · rw [if_neg e] at h
      by_cases e2 : k = p
      · omega
      · rw [if_neg e2] at h
        obtain ⟨m, rfl⟩ : ∃ m : Nat, k = m := ⟨k.toNat, by omega⟩
        have h2 := hp m (by omega)
        have := abv_lt hp f _ h2.1 (by omega) h
        omega
theorem abv_fuel {T : List Tk} {i : Nat} (hp : ∀ j, j < i → -1 ≤ (tkA T (j : Int)).p ∧ (tkA T (j : Int)).p < j) {p : Int} : ∀ (f g : Nat) (k : Int), -1 ≤ k → k < i → k + 1 ≤ f → k + 1 ≤ g → abv T p f k = abv T p g k
  | 0, 0, k, _, _, _, _ => rfl
  | 0, g + 1, k, h0, h1, h2, h3 => by
    have : k = -1 := by omega
    subst this
    simp [abv]
  | f + 1, 0, k, h0, h1, h2, h3 => by
    have : k = -1 := by omega
    subst this
    simp [abv]
  | f + 1, g + 1, k, h0, h1, h2, h3 => by
    unfold abv
    by_cases e : k = -1
    · rw [if_pos e, if_pos e]
    · rw [if_neg e, if_neg e]
      by_cases e2 : k = p
      · rw [if_pos e2, if_pos e2]
      · rw [if_neg e2, if_neg e2]
        obtain ⟨m, rfl⟩ : ∃ m : Nat, k = m := ⟨k.toNat, by omega⟩
        have h4 := hp m (by omega)
        exact abv_fuel hp f g _ h4.1 (by omega) (by omega) (by omega)
theorem kAt_par {T : List Tk} : ∀ (i : Nat), (∀ j, j < i → kAt T j = true) → ∀ j, j < i → -1 ≤ (tkA T (j : Int)).p ∧ (tkA T (j : Int)).p < j
  | 0, _, j, hj => by omega
  | i + 1, h, j, hj => by
    have ih := kAt_par i (fun j hj => h j (by omega))
    by_cases e : j = i
    · subst e
      have hk := h j (by omega)
      unfold kAt at hk
      by_cases hf : fstB T j = true
      · rw [if_pos hf, Bool.and_eq_true, decide_eq_true_eq] at hk
        omega
      · rw [if_neg hf, Bool.and_eq_true] at hk
        have hj0 : j ≠ 0 := by intro e; subst e; simp [fstB] at hf
        have := abv_lt ih _ _ (by omega) (by omega) hk.1
        omega
    · exact ih j (by omega)
theorem kAt_rights {T : List Tk} {j : Nat} (h : kAt T j = true) : validB (tkA T (j : Int)).r = true := by
  unfold kAt at h
  by_cases hf : fstB T j = true
  · rw [if_pos hf, Bool.and_eq_true, decide_eq_true_eq, decide_eq_true_eq] at h
    rw [h.2]; rfl
  · rw [if_neg hf, Bool.and_eq_true] at h
    exact partB_valid h.2
set_option maxRecDepth 100000 in
set_option maxHeartbeats 4000000 in
theorem isAbove_any (s : Sl) (T : List Tk) (p : Int) (i : Nat) (w : World) (h : Lk w 5 s (T.map encT)) (hm : s.n ≤ 140737488355328) (hi : i < s.n) (hp : ∀ j, j < i + 1 → -1 ≤ (tkA T (j : Int)).p ∧ (tkA T (j : Int)).p < j) :
    Calls Try.prog 76 #[.slice s.a s.n s.c, .int .i64 p, .int .i64 (i : Int)] w fun e w' => e = .returned (.bool (abv T p (i + 1) i)) ∧ w' = w := by
  have HL := hid h
  have hlen : T.length = s.n := by have := h.len; simpa using this
  have HLen := hid hlen
  have HP := hid hp
  clear h hlen hp
  obtain ⟨sa, n, sc⟩ := s
  simp only at hm HL HLen hi ⊢
  go_enter Try.func76, Try.ntmps76
  go_upto_region 1 with fail
  go_loop [2] (fun t => ∃ (k : Int), t = .int .i64 k ∧ -1 ≤ k ∧ k ≤ i ∧ abv T p (i + 1) i = abv T p (k + 1).toNat k) (fun t => match t with | .int _ q => (q + 1).toNat | _ => 0)
  case atStart => exact ⟨i, rfl, by omega, by omega, by rw [show ((i : Int) + 1).toNat = i + 1 by omega]⟩
  case round =>
    obtain ⟨k, rfl, hk0, hk1, hS⟩ := hrel
    have HS := hid hS
    clear hS
    by_cases hk : k = -1
    · subst hk
      have HF : Hid (abv T p (i + 1) i = false) := by unfold Hid; rw [HS.out]; rfl
      go_wp2
      go_ret
      exact ⟨ret_bool HF.out.symm, rfl⟩
    · obtain ⟨m, rfl⟩ : ∃ m : Nat, k = m := ⟨k.toNat, by omega⟩
      have hb : ((m : Int) != -1) = true := by simp
      by_cases he : (m : Int) = p
      · have hb2 : ((m : Int) == p) = true := by simpa using he
        have HF : Hid (abv T p (i + 1) i = true) := by
          unfold Hid
          rw [HS.out, show ((m : Int) + 1).toNat = m + 1 by omega]
          unfold abv
          rw [if_neg hk, if_pos he]
        clear HS
        go_wp2
        go_ret
        exact ⟨ret_bool HF.out.symm, rfl⟩
      · have hb2 : ((m : Int) == p) = false := by simpa using he
        obtain ⟨q, hq⟩ : ∃ q, T[m]? = some q := ⟨_, List.getElem?_eq_getElem (by have := HLen.out; omega)⟩
        obtain ⟨g, o, rfl, hrg⟩ := HL.out.at_ m (encT q) (by rw [List.getElem?_map, hq]; rfl)
        have y4 := hrg 4 _ rfl
        have hpq := HP.out m (by omega)
        have HF : Hid (abv T p (i + 1) i = abv T p (q.p + 1).toNat q.p) := by
          unfold Hid
          rw [HS.out, show ((m : Int) + 1).toNat = m + 1 by omega]
          rw [tkA_of hq] at hpq
          conv => lhs; unfold abv
          rw [if_neg hk, if_neg he, tkA_of hq]
          exact abv_fuel (fun j hj => HP.out j hj) _ _ _ hpq.1 (by omega) (by omega) (by omega)
        rw [tkA_of hq] at hpq
        have HQ := hid hpq
        clear hrg hpq
        obtain ⟨qc, qr, qp⟩ := q
        simp only at y4 HF HQ
        have hmn : (m : Int) < (n : Int) := by omega
        clear HS
        go_wp2
        have hpq := HQ.out
        exact ⟨⟨qp, rfl, by omega, by omega, HF.out⟩, by simp only; omega⟩
end Go.Proofs.Ythfmmfphnimlnaa
