import Derived.Test.YtaffgoacbiedlaaP3
namespace Go.Proofs.Ytaffgoacbiedlaa
set_option linter.unusedVariables false
set_option linter.unusedSimpArgs false

theorem rly_len (op : Int) (r : Rp) : (rly op r).length = 2 + (if r.code = 0 then (if op = 1 ∨ op = 3 then 24 else if op = 5 then r.data.length else if op = 9 then 2 else 0) else 0) := by
  unfold rly told
  rw [List.length_append, leL_length]
  congr 1
  repeat' split
  all_goals simp [leL_length]
theorem rly_take (op : Int) (r : Rp) : (rly op r).take 2 = leL r.code.toNat 2 := by
  unfold rly
  exact List.take_left' (leL_length _ _)
theorem leL_inj2 {a b : Nat} (ha : a < 65536) (hb : b < 65536) (h : leL a 2 = leL b 2) : a = b := by
  have := congrArg valL h
  rw [valL_leL, valL_leL] at this
  omega
theorem rfm_code {op : Int} {r : Rp} (h : rfm op r = true) : 0 ≤ r.code ∧ r.code ≤ 65535 := by
  unfold rfm at h
  simp only [Bool.and_eq_true] at h
  exact wi_iff.1 h.1.2
theorem rfm_data {op : Int} {r : Rp} (h : rfm op r = true) (hc : r.code = 0) : r.data.length ≤ 1024 := by
  unfold rfm at h
  rw [if_pos hc] at h
  simp only [Bool.and_eq_true, decide_eq_true_eq] at h
  exact h.2.1.2
/-- Bytes of another length that begin as a reply's are none. -/
theorem psr_not {op : Int} {o : Rp} {R : List Nat} (hs : ∀ x ∈ R, x < 256) (ho : rfm op o = true) (hn : op ≠ 5 ∨ o.code ≠ 0) (hl : R.length ≠ (rly op o).length) (ht : 2 ≤ R.length → R.take 2 = (rly op o).take 2) : psR op R = none := by
  cases h : psR op R with
  | none => rfl
  | some r =>
    exfalso
    obtain ⟨hf, hr, _, _⟩ := psr_some hs h
    have l1 := rly_len op r
    have l2 := rly_len op o
    have h2 : 2 ≤ R.length := by rw [← hr, l1]; omega
    have t := ht h2
    rw [← hr, rly_take, rly_take] at t
    have c1 := rfm_code hf
    have c2 := rfm_code ho
    have e := leL_inj2 (by omega) (by omega) t
    have e2 : r.code = o.code := by omega
    rw [hr, e2] at l1
    apply hl
    rw [l1, l2]
    rcases hn with hn | hn
    · simp only [hn, if_false]
    · rw [if_neg hn, if_neg hn]
theorem psr_short {op : Int} {R : List Nat} (hs : ∀ x ∈ R, x < 256) (h2 : R.length < 2) : psR op R = none := by
  cases h : psR op R with
  | none => rfl
  | some r =>
    obtain ⟨hf, hr, _, _⟩ := psr_some hs h
    have l1 := rly_len op r
    rw [hr] at l1
    omega
theorem rly5 (D : List Nat) : rly 5 ⟨0, 0, 0, 0, D, 0⟩ = leL 0 2 ++ D := by rw [rly_z rfl, told_d _ rfl]
theorem rfm5 {D : List Nat} (h : D.length ≤ 1024) : rfm 5 ⟨0, 0, 0, 0, D, 0⟩ = true := by
  simp [rfm, unt, tnB, wi, h]
theorem psr_more {D : List Nat} (hs : ∀ x ∈ D, x < 256) (h : 1024 < D.length) : psR 5 (leL 0 2 ++ D) = none := by
  have hs2 : ∀ x ∈ leL 0 2 ++ D, x < 256 := fun x hx => by
    rcases List.mem_append.1 hx with h | h
    · exact leL_small _ _ x h
    · exact hs x h
  cases hp : psR 5 (leL 0 2 ++ D) with
  | none => rfl
  | some r =>
    exfalso
    obtain ⟨hf, hr, _, _⟩ := psr_some hs2 hp
    have l1 := rly_len 5 r
    have t := congrArg (List.take 2) hr
    rw [rly_take, List.take_left' (leL_length _ _)] at t
    have c1 := rfm_code hf
    have e := leL_inj2 (by omega) (by omega) t
    have e2 : r.code = 0 := by omega
    have := rfm_data hf e2
    rw [hr, List.length_append, leL_length, if_pos e2, if_neg (by omega), if_pos rfl] at l1
    omega
end Go.Proofs.Ytaffgoacbiedlaa
