import Derived.Test.YtlkjieophdabpaaB2
namespace Go.Proofs.Ytlkjieophdabpaa
open Go.RowKit
set_option linter.unusedVariables false

/-- Rising. -/
def Rise (L : List Int) : Prop := L.Pairwise (· < ·)
theorem Rise.le {L : List Int} (h : Rise L) : L.Pairwise (· ≤ ·) := List.Pairwise.imp (fun h => Int.le_of_lt h) h
theorem countP_all {L : List Int} {v : Int} (h : ∀ y ∈ L, y < v) : L.countP (· < v) = L.length := by
  rw [List.countP_eq_length]
  intro y hy
  exact decide_eq_true (h y hy)
theorem contains_not {L : List Int} {v : Int} (h : ∀ y ∈ L, y < v) : L.contains v = false := by
  rw [Bool.eq_false_iff]
  intro hc
  have := h v (by simpa using hc)
  omega
/-- The list without a number. -/
def out (L : List Int) (n : Int) : List Int := L.filter (fun y => y != n)
theorem out_none {L : List Int} {n : Int} (h : n ∉ L) : out L n = L := by
  unfold out
  rw [List.filter_eq_self]
  intro y hy
  simp only [bne_iff_ne, ne_eq]
  intro e
  exact h (e ▸ hy)
theorem out_at : ∀ {L : List Int} {n : Int}, Rise L → n ∈ L → L.countP (· < n) < L.length ∧ L.take (L.countP (· < n)) ++ L.drop (L.countP (· < n) + 1) = out L n
  | [], n, _, h => by cases h
  | y :: l, n, hr, h => by
    have hr' := List.pairwise_cons.1 hr
    by_cases h1 : y < n
    · have hn : n ∈ l := by
        rcases List.mem_cons.1 h with e | e
        · omega
        · exact e
      obtain ⟨i1, i2⟩ := out_at (L := l) hr'.2 hn
      have hc : (y :: l).countP (· < n) = l.countP (· < n) + 1 := by rw [List.countP_cons, if_pos (decide_eq_true h1)]
      have hf : out (y :: l) n = y :: out l n := by
        unfold out
        rw [List.filter_cons, if_pos (by simp; omega)]
      rw [hc, hf]
      refine ⟨by simp; omega, ?_⟩
      rw [List.take_succ_cons, List.drop_succ_cons, List.cons_append, i2]
    · have hy : y = n := by
        rcases List.mem_cons.1 h with e | e
        · exact e.symm
        · have := hr'.1 n e; omega
      subst hy
      have hl : ∀ z ∈ l, y < z := hr'.1
      have hc : (y :: l).countP (· < y) = 0 := by
        rw [List.countP_eq_zero]
        intro z hz
        rcases List.mem_cons.1 hz with e | e
        · subst e; simp
        · have := hl z e; simp; omega
      have hf : out (y :: l) y = l := by
        unfold out
        rw [List.filter_cons, if_neg (by simp)]
        exact out_none (fun e => by have := hl y e; omega)
      rw [hc, hf]
      exact ⟨by simp, by simp⟩
theorem out_len {L : List Int} {n : Int} (hr : Rise L) (h : n ∈ L) : (out L n).length + 1 = L.length := by
  obtain ⟨h1, h2⟩ := out_at hr h
  rw [← h2]
  simp
  omega
theorem out_mem {L : List Int} {n y : Int} : y ∈ out L n ↔ y ∈ L ∧ y ≠ n := by simp [out]
theorem out_rise {L : List Int} {n : Int} (h : Rise L) : Rise (out L n) := List.Pairwise.filter _ h
theorem out_le (L : List Int) (n : Int) : (out L n).length ≤ L.length := List.length_filter_le _ _
theorem rise_snoc {L : List Int} {v : Int} (h : Rise L) (hv : ∀ y ∈ L, y < v) : Rise (L ++ [v]) := by
  unfold Rise
  rw [List.pairwise_append]
  exact ⟨h, List.pairwise_singleton _ _, fun a ha b hb => by rw [List.mem_singleton] at hb; subst hb; exact hv a ha⟩
/-- Is each below v? -/
def under (L : List Int) (v : Int) : Bool := decide (∀ y ∈ L, y < v)
theorem under_nil (v : Int) : under [] v = true := by simp [under]
theorem under_last {L : List Int} {v : Int} (h : Rise L) (k : Nat) (hk : L.length = k + 1) : under L v = decide (L[k]'(by omega) < v) := by
  unfold under
  rw [decide_eq_decide]
  constructor
  · intro h1
    exact h1 _ (List.getElem_mem _)
  · intro h1 y hy
    obtain ⟨i, hi, rfl⟩ := List.mem_iff_getElem.1 hy
    by_cases e : i = k
    · subst e; exact h1
    · have := List.pairwise_iff_getElem.1 h i k hi (by omega) (by omega)
      omega
/-- What is so of the numbers held: the most that may be, the next, the live ones. -/
structure Iv (m x : Int) (L : List Int) : Prop where
  m1 : 1 ≤ m
  m2 : m ≤ 32
  len : (L.length : Int) ≤ m
  rise : Rise L
  lo : ∀ y ∈ L, 0 ≤ y
  hi : ∀ y ∈ L, y < x
  x1 : 0 ≤ x
  x2 : x ≤ 65536
/-- Is there no process more? -/
def fullP (m x : Int) (L : List Int) : Bool := decide (m ≤ (L.length : Int) ∨ 65535 < x)
def spC (m x : Int) (L : List Int) : Int := if fullP m x L then 13 else 0
def spN (m x : Int) (L : List Int) : Int := if fullP m x L then 0 else x
def spX (m x : Int) (L : List Int) : Int := if fullP m x L then x else x + 1
def spL (m x : Int) (L : List Int) : List Int := if fullP m x L then L else L ++ [x]
theorem Iv.spawn {m x : Int} {L : List Int} (h : Iv m x L) : Iv m (spX m x L) (spL m x L) := by
  unfold spX spL
  by_cases hf : fullP m x L = true
  · rw [if_pos hf, if_pos hf]; exact h
  · rw [if_neg hf, if_neg hf]
    unfold fullP at hf
    have hf2 : ¬ (m ≤ (L.length : Int) ∨ 65535 < x) := fun e => hf (decide_eq_true e)
    have := h.x1
    refine ⟨h.m1, h.m2, by simp; omega, rise_snoc h.rise h.hi, fun y hy => ?_, fun y hy => ?_, by omega, by omega⟩
    · rcases List.mem_append.1 hy with e | e
      · exact h.lo y e
      · rw [List.mem_singleton] at e; omega
    · rcases List.mem_append.1 hy with e | e
      · have := h.hi y e; omega
      · rw [List.mem_singleton] at e; omega
def exC (L : List Int) (n : Int) : Int := if L.contains n then 0 else 20
theorem Iv.exit {m x : Int} {L : List Int} (h : Iv m x L) (n : Int) : Iv m x (out L n) :=
  ⟨h.m1, h.m2, by have := h.len; have := out_le L n; omega, out_rise h.rise, fun y hy => h.lo y (out_mem.1 hy).1, fun y hy => h.hi y (out_mem.1 hy).1, h.x1, h.x2⟩
/-- May the next number be n? -/
def okN (L : List Int) (n : Int) : Bool := decide (0 ≤ n ∧ n ≤ 65536) && under L n
def snC (L : List Int) (n : Int) : Int := if okN L n then 0 else 5
def snX (x : Int) (L : List Int) (n : Int) : Int := if okN L n then n else x
theorem Iv.next {m x : Int} {L : List Int} (h : Iv m x L) (n : Int) : Iv m (snX x L n) L := by
  unfold snX
  by_cases ho : okN L n = true
  · rw [if_pos ho]
    unfold okN under at ho
    rw [Bool.and_eq_true, decide_eq_true_eq, decide_eq_true_eq] at ho
    exact ⟨h.m1, h.m2, h.len, h.rise, h.lo, ho.2, ho.1.1, ho.1.2⟩
  · rw [if_neg ho]; exact h
theorem Iv.start {m : Int} (h1 : 1 ≤ m) (h2 : m ≤ 32) : Iv m 1 [0] := ⟨h1, h2, by simp; omega, List.pairwise_singleton _ _, by simp, by simp, by omega, by omega⟩
theorem Iv.len32 {m x : Int} {L : List Int} (h : Iv m x L) : L.length ≤ 32 := by have := h.len; have := h.m2; omega
end Go.Proofs.Ytlkjieophdabpaa
