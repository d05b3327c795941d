import Derived.Test.YtaffgoacbiedlaaU0
import Derived.Test.YtaffgoacbiedlaaS3
namespace Go.Proofs.Ytaffgoacbiedlaa
open Go.RowKit
set_option linter.unusedVariables false
set_option linter.unusedSimpArgs false

/-- The reply that the reference takes bytes for. -/
def gr (op : Int) (R : List Nat) : Rp :=
  if gt R 0 2 = 0 then
    (if op = 1 ∨ op = 3 then ⟨0, sv (gt R 2 8), hiW R 10, loW R 10, [], 0⟩ else if op = 5 then ⟨0, 0, 0, 0, R.drop 2, 0⟩ else if op = 9 then ⟨0, 0, 0, 0, [], (gt R 2 2 : Int)⟩ else rpz 0)
  else rpz (gt R 0 2 : Int)
set_option maxRecDepth 100000 in
theorem gr_lay {op : Int} {r : Rp} (h : rfm op r = true) (h1 : r.hi < 18446744073709551616) (h2 : r.lo < 18446744073709551616) : gr op (rly op r) = r := by
  obtain ⟨code, obj, hi, lo, D, number⟩ := r
  simp only at h1 h2
  by_cases hc : code = 0
  · subst hc
    unfold rfm at h
    rw [if_pos rfl] at h
    simp only [Bool.and_eq_true] at h
    obtain ⟨⟨hop, _⟩, ⟨⟨⟨⟨hn0, hob⟩, hnu⟩, hdl⟩, ht⟩⟩ := h
    have hob := wi_iff.1 hob
    have hnu := wi_iff.1 hnu
    rw [rly_z rfl]
    by_cases o1 : op = 1 ∨ op = 3
    · unfold unt at ht
      rw [if_pos o1] at ht
      simp [tnB] at ht
      obtain ⟨rfl, rfl⟩ := ht
      rw [told_c _ o1]
      simp only
      generalize hR : leL 0 2 ++ (leL obj.toNat 8 ++ leL lo 8 ++ leL hi 8) = R
      have g0 : gt R 0 2 = 0 := gt_lay (P := []) (Q := leL obj.toNat 8 ++ leL lo 8 ++ leL hi 8) (by rw [← hR]; simp) rfl (by decide)
      have g1 : gt R 2 8 = obj.toNat := gt_lay (P := leL 0 2) (Q := leL lo 8 ++ leL hi 8) (by rw [← hR]; simp) (by simp [leL_length]) (by omega)
      obtain ⟨w1, w2⟩ := word_lay (R := R) (P := leL 0 2 ++ leL obj.toNat 8) (Q := []) (lo := lo) (hi := hi) (p := 10) (by rw [← hR]; simp) (by simp [leL_length]) h1 h2
      unfold gr
      rw [if_pos g0, if_pos o1, g1, w1, w2, sv_small (by omega)]
      congr 1
      omega
    · by_cases o5 : op = 5
      · unfold unt at ht
        rw [if_neg o1, if_pos o5] at ht
        simp [tnB] at ht
        obtain ⟨⟨rfl, rfl, rfl⟩, rfl⟩ := ht
        rw [told_d _ o5]
        simp only
        have g0 : gt (leL 0 2 ++ D) 0 2 = 0 := gt_lay (P := []) (Q := D) (by simp) rfl (by decide)
        unfold gr
        rw [if_pos g0, if_neg o1, if_pos o5, List.drop_left' (by simp [leL_length])]
      · by_cases o9 : op = 9
        · unfold unt at ht
          rw [if_neg o1, if_neg o5, if_pos o9] at ht
          simp [tnB] at ht
          obtain ⟨⟨rfl, rfl, rfl⟩, rfl⟩ := ht
          rw [told_n _ o9]
          simp only
          have g0 : gt (leL 0 2 ++ leL number.toNat 2) 0 2 = 0 := gt_lay (P := []) (Q := leL number.toNat 2) (by simp) rfl (by decide)
          have g1 : gt (leL 0 2 ++ leL number.toNat 2) 2 2 = number.toNat := gt_lay (P := leL 0 2) (Q := []) (by simp) (by simp [leL_length]) (by omega)
          unfold gr
          rw [if_pos g0, if_neg o1, if_neg o5, if_pos o9, g1]
          congr 1
          omega
        · unfold unt at ht
          rw [if_neg o1, if_neg o5, if_neg o9, tnB_iff] at ht
          rw [told_0 _ o1 o5 o9]
          have g0 : gt (leL 0 2 ++ []) 0 2 = 0 := gt_lay (P := []) (Q := []) (by simp) rfl (by decide)
          unfold gr
          rw [if_pos g0, if_neg o1, if_neg o5, if_neg o9]
          exact ht.symm
  · unfold rfm at h
    rw [if_neg hc] at h
    simp only [Bool.and_eq_true] at h
    obtain ⟨⟨hop, hco⟩, ht⟩ := h
    have hco := wi_iff.1 hco
    have ht := tnB_iff.1 ht
    rw [rly_nz hc]
    simp only at hco ht ⊢
    have g0 : gt (leL code.toNat 2) 0 2 = code.toNat := gt_lay (P := []) (Q := []) (by simp) rfl (by omega)
    unfold gr
    rw [g0, if_neg (by omega), show ((code.toNat : Nat) : Int) = code by omega]
    exact ht.symm
theorem gr_word (op : Int) (R : List Nat) : (gr op R).hi < 18446744073709551616 ∧ (gr op R).lo < 18446744073709551616 := by
  have a3 := hiW_lt R 10
  have a4 := loW_lt R 10
  unfold gr rpz
  repeat' split
  all_goals (refine ⟨?_, ?_⟩ <;> simp only <;> omega)
theorem gr_ps {op : Int} {R : List Nat} (hs : ∀ x ∈ R, x < 256) : psR op R = if rfm op (gr op R) = true ∧ rly op (gr op R) = R then some (gr op R) else none := by
  cases h : psR op R with
  | some c =>
    obtain ⟨a, b, h1, h2⟩ := psr_some hs h
    have := gr_lay a h1 h2
    rw [b] at this
    rw [this, if_pos ⟨a, b⟩]
  | none =>
    rw [if_neg]
    rintro ⟨a, b⟩
    have := psr_lay a (gr_word op R).1 (gr_word op R).2
    rw [b, h] at this
    cases this
end Go.Proofs.Ytaffgoacbiedlaa
