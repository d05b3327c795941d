import Derived.Test.YtfeilkhlapnpoaaA1
import Derived.Maps.RangeWalk
import Derived.Sort.KeysCollected
namespace Go.Proofs.Ytfeilkhlapnpoaa
open Go.RowKit Go.Maps
set_option linter.unusedVariables false

/-! ### Lists of numbers, counted -/
theorem nodup_le : ∀ {l m : List Int}, l.Nodup → (∀ x ∈ l, x ∈ m) → l.length ≤ m.length
  | [], _, _, _ => Nat.zero_le _
  | x :: l, m, hn, hs => by
    obtain ⟨h1, h2⟩ := List.nodup_cons.1 hn
    have h3 := nodup_le (m := m.erase x) h2 (fun y hy => (List.mem_erase_of_ne (fun (e : y = x) => h1 (e ▸ hy))).2 (hs y (by simp [hy])))
    have hx := hs x (by simp)
    rw [List.length_erase_of_mem hx] at h3
    have := List.length_pos_of_mem hx
    simp
    omega
/-- The counts of the numbers of zs, together. -/
def csum (L zs : List Int) : Nat := (zs.map fun x => L.count x).sum
theorem csum_cons (L : List Int) (x : Int) (zs : List Int) : csum L (x :: zs) = L.count x + csum L zs := by simp [csum]
theorem csum_snoc (L zs : List Int) (x : Int) : csum L (zs ++ [x]) = csum L zs + L.count x := by simp [csum]
theorem csum_off (L : List Int) (x : Int) (zs : List Int) (h : x ∉ zs) : csum (L.filter (fun y => y != x)) zs = csum L zs := by
  unfold csum
  congr 1
  apply List.map_congr_left
  intro y hy
  exact List.count_filter (by simp; exact fun e => h (e ▸ hy))
theorem length_off (L : List Int) (x : Int) : L.length = L.count x + (L.filter (fun y => y != x)).length := by
  induction L with
  | nil => rfl
  | cons a L ih =>
    by_cases h : a = x
    · subst h; simp; omega
    · simp [h]; omega
theorem csum_le : ∀ {zs L : List Int}, zs.Nodup → csum L zs ≤ L.length
  | [], L, _ => by simp [csum]
  | x :: zs, L, hn => by
    obtain ⟨h1, h2⟩ := List.nodup_cons.1 hn
    have h3 := csum_le (L := L.filter (fun y => y != x)) h2
    rw [csum_off L x zs h1] at h3
    rw [csum_cons, length_off L x]
    omega
theorem csum_all : ∀ {zs L : List Int}, zs.Nodup → (∀ x ∈ L, x ∈ zs) → csum L zs = L.length
  | [], L, _, h => by
    cases L with
    | nil => rfl
    | cons a L => exact absurd (h a (by simp)) (by simp)
  | x :: zs, L, hn, h => by
    obtain ⟨h1, h2⟩ := List.nodup_cons.1 hn
    have h3 := csum_all (L := L.filter (fun y => y != x)) h2 (fun y hy => by
      simp at hy
      have := h y hy.1
      simp at this
      rcases this with e | e
      · exact absurd e hy.2
      · exact e)
    rw [csum_off L x zs h1] at h3
    rw [csum_cons, length_off L x, h3]
/-! ### The numbers of a list in order, each once -/
def dd : List Int → List Int
  | [] => []
  | x :: l => if x ∈ l then dd l else x :: dd l
theorem dd_mem : ∀ (l : List Int) (x : Int), x ∈ dd l ↔ x ∈ l
  | [], _ => Iff.rfl
  | y :: l, x => by
    unfold dd
    split
    · rename_i h
      rw [dd_mem l x, List.mem_cons]
      exact ⟨.inr, fun e => by rcases e with e | e; exact e ▸ h; exact e⟩
    · rw [List.mem_cons, List.mem_cons, dd_mem l x]
theorem dd_nodup : ∀ l : List Int, (dd l).Nodup
  | [] => List.nodup_nil
  | y :: l => by
    unfold dd
    split
    · exact dd_nodup l
    · rename_i h
      exact List.nodup_cons.2 ⟨fun e => h ((dd_mem l y).1 e), dd_nodup l⟩
abbrev leI : Int → Int → Bool := fun x y => decide (x ≤ y)
theorem sorted_lt {l : List Int} (h : l.Nodup) : (l.mergeSort leI).Pairwise (· < ·) := by
  have h1 := List.pairwise_mergeSort (le := leI) (fun a b c h1 h2 => by simp [leI] at *; omega) (fun a b => by simp [leI]; omega) l
  have h2 : (l.mergeSort leI).Nodup := ((List.mergeSort_perm l leI).nodup_iff).2 h
  refine (h1.and h2).imp (fun {a b} hab => ?_)
  have h3 := of_decide_eq_true hab.1
  have h4 := hab.2
  omega
def ob (L : List Int) : List Int := (dd L).mergeSort leI
theorem ob_mem (L : List Int) (x : Int) : x ∈ ob L ↔ x ∈ L := by
  unfold ob
  rw [(List.mergeSort_perm (dd L) leI).mem_iff, dd_mem]
theorem ob_lt (L : List Int) : (ob L).Pairwise (· < ·) := sorted_lt (dd_nodup L)
theorem lt_nodup {A : List Int} (h : A.Pairwise (· < ·)) : A.Nodup := h.imp (fun {a b} hab => by omega)
theorem lt_one {A B : List Int} (hA : A.Pairwise (· < ·)) (hB : B.Pairwise (· < ·)) (h : ∀ x, x ∈ A ↔ x ∈ B) : A = B :=
  List.Perm.eq_of_pairwise (le := fun a b : Int => a < b) (fun a b _ _ h1 h2 => by omega) hA hB ((List.perm_ext_iff_of_nodup (lt_nodup hA) (lt_nodup hB)).2 h)
theorem ob_nodup (L : List Int) : (ob L).Nodup := lt_nodup (ob_lt L)
theorem ob_len (L : List Int) : (ob L).length ≤ L.length := nodup_le (ob_nodup L) (fun x hx => (ob_mem L x).1 hx)
theorem ob_sort {L zs : List Int} (h : zs.Nodup) (hm : ∀ x, x ∈ zs ↔ x ∈ L) : zs.mergeSort leI = ob L :=
  lt_one (sorted_lt h) (ob_lt L) (fun x => by rw [(List.mergeSort_perm zs leI).mem_iff, hm, ob_mem])
theorem ob_sum (L : List Int) : csum L (ob L) = L.length := csum_all (ob_nodup L) (fun x hx => (ob_mem L x).2 hx)
/-! ### What the calls do -/
/-- n fewer of x. -/
def subL (x : Int) : Nat → List Int → List Int
  | _, [] => []
  | 0, y :: l => y :: l
  | n + 1, y :: l => if y = x then subL x n l else y :: subL x (n + 1) l
theorem subL_zero (x : Int) (l : List Int) : subL x 0 l = l := by cases l <;> rfl
theorem subL_count : ∀ (x : Int) (n : Nat) (l : List Int), (subL x n l).count x = l.count x - n
  | x, n, [] => by cases n <;> simp [subL]
  | x, 0, y :: l => by simp [subL]
  | x, n + 1, y :: l => by
    unfold subL
    split
    · rename_i h
      subst h
      rw [subL_count]
      simp
    · rename_i h
      rw [List.count_cons_of_ne h, List.count_cons_of_ne h, subL_count]
theorem subL_other : ∀ (x : Int) (n : Nat) (l : List Int) (y : Int), y ≠ x → (subL x n l).count y = l.count y
  | x, n, [], y, h => by cases n <;> simp [subL]
  | x, 0, z :: l, y, h => by simp [subL]
  | x, n + 1, z :: l, y, h => by
    unfold subL
    split
    · rename_i e
      subst e
      rw [subL_other _ n l y h, List.count_cons_of_ne (fun e => h e.symm)]
    · rw [List.count_cons, List.count_cons, subL_other x (n + 1) l y h]
theorem subL_len : ∀ (x : Int) (n : Nat) (l : List Int), n ≤ l.count x → (subL x n l).length + n = l.length
  | x, n, [], h => by simp at h; subst h; rfl
  | x, 0, y :: l, h => by simp [subL]
  | x, n + 1, y :: l, h => by
    unfold subL
    split
    · rename_i e
      subst e
      simp at h
      have := subL_len y n l h
      simp
      omega
    · rename_i e
      rw [List.count_cons_of_ne e] at h
      have := subL_len x (n + 1) l h
      simp
      omega
def may (e a : Int) (L : List Int) (x : Int) : Int := if e ≤ (L.count x : Int) then 9 else if a ≤ (L.length : Int) then 10 else 0
def addL (e a : Int) (L : List Int) (x : Int) : List Int := if may e a L x = 0 then L ++ [x] else L
def subO (L : List Int) (x n : Int) : Int := if n < 0 ∨ (L.count x : Int) < n then 20 else 0
def subS (L : List Int) (x n : Int) : List Int := if n < 0 ∨ (L.count x : Int) < n then L else subL x n.toNat L
/-- Nothing is above its bound. -/
structure Sz (e a : Int) (L : List Int) : Prop where
  e1 : 1 ≤ e
  e2 : e ≤ 256
  a1 : 1 ≤ a
  a2 : a ≤ 256
  len : (L.length : Int) ≤ a
  cnt : ∀ x, (L.count x : Int) ≤ e
theorem may_zero {e a : Int} {L : List Int} {x : Int} (h : may e a L x = 0) : (L.count x : Int) < e ∧ (L.length : Int) < a := by
  unfold may at h
  split at h
  · cases h
  · split at h
    · cases h
    · omega
theorem Sz.add {e a : Int} {L : List Int} (h : Sz e a L) (x : Int) : Sz e a (addL e a L x) := by
  unfold addL
  split
  · rename_i hm
    obtain ⟨h1, h2⟩ := may_zero hm
    refine ⟨h.e1, h.e2, h.a1, h.a2, by simp; omega, fun y => ?_⟩
    by_cases e : y = x
    · subst e; simp; omega
    · have := h.cnt y
      have e2 : (L ++ [x]).count y = L.count y := by simp [List.count_append, Ne.symm e]
      rw [e2]; exact this
  · exact h
theorem Sz.sub {e a : Int} {L : List Int} (h : Sz e a L) (x n : Int) : Sz e a (subS L x n) := by
  unfold subS
  split
  · exact h
  · rename_i hn
    have hl := subL_len x n.toNat L (by omega)
    refine ⟨h.e1, h.e2, h.a1, h.a2, by have := h.len; omega, fun y => ?_⟩
    by_cases e : y = x
    · subst e; rw [subL_count]; have := h.cnt y; omega
    · rw [subL_other _ _ _ _ e]; exact h.cnt y
end Go.Proofs.Ytfeilkhlapnpoaa
