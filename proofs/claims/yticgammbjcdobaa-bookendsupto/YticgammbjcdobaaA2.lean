import Derived.Laws.BitsAllLaws
namespace Go.Proofs.Yticgammbjcdobaa
def B64 : Nat := 18446744073709551616
def leL (v k : Nat) : List Nat := (List.range k).map fun i => v / 256 ^ i % 256
theorem leL_zero (v : Nat) : leL v 0 = [] := rfl
theorem leL_succ (v k : Nat) : leL v (k + 1) = leL v k ++ [v / 256 ^ k % 256] := by simp [leL, List.range_succ]
theorem leL_length (v k : Nat) : (leL v k).length = k := by simp [leL]
theorem leL_small (v k : Nat) : ∀ x ∈ leL v k, x < 256 := by
  intro x hx
  simp only [leL, List.mem_map] at hx
  obtain ⟨i, _, rfl⟩ := hx
  omega
def valL : List Nat → Nat
  | [] => 0
  | b :: r => b + 256 * valL r
theorem valL_append (l m : List Nat) : valL (l ++ m) = valL l + 256 ^ l.length * valL m := by
  induction l with
  | nil => simp [valL]
  | cons b r ih =>
    simp only [List.cons_append, valL, ih, List.length_cons, Nat.pow_succ]
    rw [Nat.mul_add, ← Nat.mul_assoc, Nat.mul_comm 256 (256 ^ r.length), Nat.add_assoc]
theorem valL_lt (l : List Nat) (h : ∀ x ∈ l, x < 256) : valL l < 256 ^ l.length := by
  induction l with
  | nil => simp [valL]
  | cons b r ih =>
    have h1 := ih (fun x hx => h x (List.mem_cons_of_mem _ hx))
    have h2 := h b (List.mem_cons_self ..)
    simp only [valL, List.length_cons, Nat.pow_succ]
    omega
theorem valL_one (b : Nat) : valL [b] = b := by simp [valL]
theorem valL_leL (v k : Nat) : valL (leL v k) = v % 256 ^ k := by
  induction k with
  | zero => simp [leL_zero, valL, Nat.mod_one]
  | succ k ih => rw [leL_succ, valL_append, ih, leL_length, valL_one, Nat.pow_succ, Nat.mod_mul]
theorem valL_take (L : List Nat) (i : Nat) (h : i < L.length) : valL (L.take (i + 1)) = valL (L.take i) + 256 ^ i * L[i] := by
  rw [List.take_succ_eq_append_getElem h, valL_append, valL_one, List.length_take, Nat.min_eq_left (by omega)]
theorem valL_take_lt (L : List Nat) (i : Nat) (h : i ≤ L.length) (hs : ∀ x ∈ L, x < 256) : valL (L.take i) < 256 ^ i := by
  have := valL_lt (L.take i) (fun x hx => hs x (List.mem_of_mem_take hx))
  rwa [List.length_take, Nat.min_eq_left h] at this
theorem pow256 (i : Nat) : (256 : Nat) ^ i = 2 ^ (8 * i) := by rw [Nat.pow_mul]
theorem leL_mod (v k j : Nat) (h : k ≤ j) : leL (v % 256 ^ j) k = leL v k := by
  unfold leL
  apply List.map_congr_left
  intro i hi
  have hi : i < k := List.mem_range.1 hi
  have e : (256 : Nat) ^ j = 256 ^ i * (256 * 256 ^ (j - i - 1)) := by rw [← Nat.mul_assoc, ← Nat.pow_succ, ← Nat.pow_add]; congr 1; omega
  rw [e, Nat.mod_mul_right_div_self, Nat.mod_mul_right_mod]
theorem join8 {a b i : Nat} (ha : a < 256 ^ i) : a ||| b * 256 ^ i = a + b * 256 ^ i := by
  rw [pow256] at *
  rw [Nat.or_comm, nat_join (8 * i) _ _ (Nat.mul_mod_left _ _) ha, Nat.add_comm]
end Go.Proofs.Yticgammbjcdobaa
