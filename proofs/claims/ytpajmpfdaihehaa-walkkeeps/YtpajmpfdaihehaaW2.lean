import Derived.Test.YtpajmpfdaihehaaW1
namespace Go.Proofs.Ytpajmpfdaihehaa
set_option linter.unusedVariables false

/-- A chain of i nodes. -/
def cn : Nat → Fo
  | 0 => []
  | i + 1 => cn i ++ [((i : Int), (i : Int) - 1)]
/-- k, k + 1, .. : d of them. -/
def up : Nat → Nat → List Int
  | _, 0 => []
  | k, d + 1 => (k : Int) :: up (k + 1) d
theorem up_len : ∀ (k d : Nat), (up k d).length = d
  | _, 0 => rfl
  | k, d + 1 => by rw [up, List.length_cons, up_len]
theorem up_snoc : ∀ (k d : Nat), up k (d + 1) = up k d ++ [((k + d : Nat) : Int)]
  | k, 0 => by simp [up]
  | k, d + 1 => by
    rw [up, up_snoc (k + 1) d, up, List.cons_append]
    congr 3
    omega
theorem up_split : ∀ (d k e : Nat), up k (d + e) = up k d ++ up (k + d) e
  | 0, k, e => by simp [up]
  | d + 1, k, e => by
    rw [show d + 1 + e = (d + e) + 1 by omega, up, up_split d (k + 1) e, up, List.cons_append, show k + 1 + d = k + (d + 1) by omega]
theorem mem_up : ∀ {d k : Nat} {x : Int}, x ∈ up k d ↔ (k : Int) ≤ x ∧ x < ((k + d : Nat) : Int)
  | 0, k, x => by simp [up]
  | d + 1, k, x => by
    rw [up, List.mem_cons, mem_up]
    omega
theorem cn_nums : ∀ i, nums (cn i) = up 0 i
  | 0 => rfl
  | i + 1 => by rw [cn, nums_app, cn_nums i, up_snoc, Nat.zero_add]
theorem mem_cn {i : Nat} {x : Int} : x ∈ nums (cn i) ↔ 0 ≤ x ∧ x < (i : Int) := by rw [cn_nums, mem_up]; simp
theorem cn_ch : ∀ (i : Nat) (j : Int), ch (cn i) j = if 0 ≤ j + 1 ∧ j + 1 < (i : Int) then [j + 1] else []
  | 0, j => by rw [if_neg (by omega)]; rfl
  | i + 1, j => by
    rw [cn, ch_app, cn_ch i j]
    by_cases h : (i : Int) - 1 = j
    · rw [if_pos h, if_neg (by omega), if_pos (by omega), List.nil_append]
      congr 1
      omega
    · rw [if_neg h, List.append_nil]
      by_cases h2 : 0 ≤ j + 1 ∧ j + 1 < (i : Int)
      · rw [if_pos h2, if_pos (by omega)]
      · rw [if_neg h2, if_neg (by omega)]
theorem cn_mem : ∀ (m i : Nat), i < m → ((i : Int), (i : Int) - 1) ∈ cn m
  | 0, i, h => by omega
  | m + 1, i, h => by
    rw [cn, List.mem_append]
    by_cases e : i = m
    · subst e; exact .inr (by simp)
    · exact .inl (cn_mem m i (by omega))
theorem cn_G {m : Nat} (h : Ok m (cn m)) (e : Bool) : ∀ (d k : Nat), k + d = m → 0 < d → G e (cn m) (k : Int) = up k d
  | 0, k, _, h0 => by omega
  | d + 1, k, hk, _ => by
    rw [G_eq h (mem_cn.2 (by omega)), cn_ch, up]
    by_cases hd : d = 0
    · subst hd
      rw [if_neg (by omega)]
      cases e <;> simp [ord, up]
    · rw [if_pos (by omega)]
      have := cn_G h e d (k + 1) (by omega) (by omega)
      rw [show ord e [(k : Int) + 1] = [((k + 1 : Nat) : Int)] by cases e <;> simp [ord]]
      rw [List.flatMap_cons, this]
      simp
theorem cn_Fl {m k : Nat} (h : Ok m (cn m)) (hk : k < m) : Fl (cn m) (k : Int) = (up k (m - k)).reverse := by
  unfold Fl
  rw [cn_G h false (m - k) k (by omega) (by omega)]
theorem cn_U {m : Nat} (h : Ok m (cn m)) : ∀ j : Nat, j < m → U (cn m) (j : Int) = (up 0 (j + 1)).reverse
  | 0, hj => by
    rw [U_eq h (cn_mem m 0 hj), U_out (fun hh => by have := mem_cn.1 hh; omega)]
    rfl
  | j + 1, hj => by
    rw [U_eq h (cn_mem m (j + 1) hj), show ((j + 1 : Nat) : Int) - 1 = (j : Int) by omega, cn_U h j (by omega), up_snoc 0 (j + 1), List.reverse_append, Nat.zero_add]
    rfl
theorem want_take {m k : Nat} (hk : k ≤ m) : ((up 0 m).reverse).take (m - k) = (up k (m - k)).reverse := by
  have h := up_split k 0 (m - k)
  rw [show k + (m - k) = m by omega, Nat.zero_add] at h
  rw [h, List.reverse_append, List.take_left' (by rw [List.length_reverse, up_len])]
theorem want_step {m j : Nat} (hj : j < m) : ((up 0 m).reverse).take (j + 1) = ((up 0 m).reverse).take j ++ [(m : Int) - 1 - (j : Int)] := by
  have h1 := want_take (m := m) (k := m - j) (by omega)
  have h2 := want_take (m := m) (k := m - (j + 1)) (by omega)
  rw [show m - (m - j) = j by omega] at h1
  rw [show m - (m - (j + 1)) = j + 1 by omega] at h2
  rw [h1, h2, up, List.reverse_cons, show m - (j + 1) + 1 = m - j by omega]
  congr 2
  omega
theorem up_down (m : Nat) (i : Nat) : (up 0 (m + 1)).reverse.take (i + 1) = (m : Int) :: (up 0 m).reverse.take i := by
  rw [up_snoc, List.reverse_append, Nat.zero_add]
  rfl
end Go.Proofs.Ytpajmpfdaihehaa
