import Derived.Test.YthlojdclncikiaaM2
namespace Go.Proofs.Ythlojdclncikiaa
open Go.RowKit
set_option linter.unusedVariables false

/-- Each capability once, as it was put last; the youngest first. -/
def ded : List Pu → List Pu
  | [] => []
  | x :: q => x :: (ded q).filter (fun y => y.1 ≠ x.1)
theorem ded_nodup : ∀ q : List Pu, ((ded q).map (·.1)).Nodup
  | [] => List.nodup_nil
  | x :: q => by
    unfold ded
    rw [List.map_cons, List.nodup_cons]
    refine ⟨fun e => ?_, List.Nodup.sublist (List.Sublist.map _ List.filter_sublist) (ded_nodup q)⟩
    obtain ⟨y, hy, e2⟩ := List.mem_map.1 e
    simpa [e2] using (List.mem_filter.1 hy).2
theorem take_filter (c : Cp) : ∀ (D : List Pu) (v : Nat), (D.map (·.1)).Nodup → ((D.take (v + 1)).filter (fun y => y.1 ≠ c)).take v = (D.filter (fun y => y.1 ≠ c)).take v
  | [], v, _ => by simp
  | x :: D, 0, _ => by simp
  | x :: D, v + 1, hn => by
    rw [List.map_cons, List.nodup_cons] at hn
    rw [List.take_succ_cons]
    by_cases e : x.1 = c
    · rw [List.filter_cons_of_neg (by simpa using e), List.filter_cons_of_neg (by simpa using e)]
      have hk : ∀ y ∈ D, y.1 ≠ c := fun y hy h2 => hn.1 (List.mem_map.2 ⟨y, hy, h2.trans e.symm⟩)
      rw [filter_keep hk, filter_keep (fun y hy => hk y (List.mem_of_mem_take hy)), List.take_take, Nat.min_self]
    · rw [List.filter_cons_of_pos (by simpa using e), List.filter_cons_of_pos (by simpa using e), List.take_succ_cons, List.take_succ_cons, take_filter c D v hn.2]
theorem put_ded {n : Nat} (h : 1 ≤ n) (x : Pu) (q : List Pu) : putS n ((ded q).take n) x.1 x.2 = (ded (x :: q)).take n := by
  obtain ⟨v, rfl⟩ : ∃ v, n = v + 1 := ⟨n - 1, by omega⟩
  unfold putS
  rw [List.take_succ_cons, take_filter x.1 (ded q) v (ded_nodup q)]
  conv => rhs; unfold ded
  rw [List.take_succ_cons]
/-- The rest of the deduplicated list, behind what was seen. -/
theorem ded_skip {A : List Cp} {x : Pu} {q : List Pu} (h : x.1 ∈ A) : (ded (x :: q)).filter (fun y => y.1 ∉ A) = (ded q).filter (fun y => y.1 ∉ A) := by
  conv => lhs; unfold ded
  rw [List.filter_cons_of_neg (by simpa using h), List.filter_filter]
  refine List.filter_congr (fun y _ => ?_)
  by_cases e : y.1 = x.1
  · simp [e, h]
  · simp [e]
theorem ded_more {A : List Cp} {x : Pu} {q : List Pu} (h : x.1 ∉ A) : (ded (x :: q)).filter (fun y => y.1 ∉ A) = x :: (ded q).filter (fun y => y.1 ∉ A ++ [x.1]) := by
  conv => lhs; unfold ded
  rw [List.filter_cons_of_pos (by simpa using h), List.filter_filter]
  congr 1
  refine List.filter_congr (fun y _ => ?_)
  simp [Bool.and_comm]
theorem find_take {A B : List Pu} {x : Pu} (n : Nat) (h : ∀ y ∈ A, y.1 ≠ x.1) : ((A ++ x :: B).take n).find? (fun y => y.1 = x.1) = if A.length < n then some x else none := by
  have hA : ∀ C : List Pu, (∀ y ∈ C, y.1 ≠ x.1) → C.find? (fun y => y.1 = x.1) = none := fun C hC => List.find?_eq_none.2 (fun y hy => by simpa using hC y hy)
  by_cases e : A.length < n
  · rw [if_pos e, List.take_append, List.find?_append, List.take_of_length_le (by omega), hA A h]
    obtain ⟨v, hv⟩ : ∃ v, n - A.length = v + 1 := ⟨n - A.length - 1, by omega⟩
    rw [hv, List.take_succ_cons, List.find?_cons_of_pos (by simp)]
    rfl
  · rw [if_neg e, List.take_append_of_le_length (by omega)]
    exact hA _ (fun y hy => h y (List.mem_of_mem_take hy))
end Go.Proofs.Ythlojdclncikiaa
