import Derived.Test.YtdkadmnhfnilkaaKN
namespace Go.Proofs.Ytdkadmnhfnilkaa
open Go.RowKit
set_option linter.unusedVariables false

/-- An odd factor hides no power of two. -/
theorem odd_dvd (m : Nat) (hm : m % 2 = 1) : ∀ (k d : Nat), 2 ^ k ∣ d * m → 2 ^ k ∣ d
  | 0, d, _ => ⟨d, by simp⟩
  | k + 1, d, h => by
    obtain ⟨q, hq⟩ := h
    have he : d * m % 2 = 0 := by rw [hq, Nat.pow_succ, Nat.mul_right_comm]; exact Nat.mul_mod_left _ _
    have hd : d % 2 = 0 := by
      rw [Nat.mul_mod, hm, Nat.mul_one, Nat.mod_mod] at he
      exact he
    obtain ⟨d', rfl⟩ : ∃ d', d = 2 * d' := ⟨d / 2, by omega⟩
    have h2 : 2 ^ k ∣ d' * m := by
      refine ⟨q, ?_⟩
      have : 2 * (d' * m) = 2 * (2 ^ k * q) := by
        rw [← Nat.mul_assoc, hq, Nat.pow_succ]
        rw [Nat.mul_comm (2 ^ k) 2, Nat.mul_assoc]
      omega
    obtain ⟨r, hr⟩ := odd_dvd m hm k d' h2
    exact ⟨r, by rw [hr, Nat.pow_succ, ← Nat.mul_assoc, Nat.mul_comm 2 (2 ^ k)]⟩
/-- The word's low half of number i. -/
def loN (m i : Nat) : Nat := i * m % B64
theorem loN_lt (m i : Nat) : loN m i < B64 := Nat.mod_lt _ (by decide)
theorem loN_inj {m i j : Nat} (hm : m % 2 = 1) (hi : i < 1000) (hj : j < 1000) (h : loN m i = loN m j) : i = j := by
  have key : ∀ a b : Nat, a ≤ b → b < 1000 → loN m a = loN m b → a = b := by
    intro a b hab hb he
    unfold loN at he
    have hle : a * m ≤ b * m := Nat.mul_le_mul_right _ hab
    have hd : B64 ∣ b * m - a * m := Nat.dvd_of_mod_eq_zero (Nat.sub_mod_eq_zero_of_mod_eq he.symm)
    rw [← Nat.sub_mul] at hd
    have h2 : (2 ^ 64) ∣ b - a := odd_dvd m hm 64 (b - a) hd
    obtain ⟨q, hq⟩ := h2
    rcases Nat.eq_zero_or_pos q with h3 | h3
    · subst h3; omega
    · have : 2 ^ 64 * 1 ≤ 2 ^ 64 * q := Nat.mul_le_mul_left _ h3
      omega
  rcases Nat.le_total i j with h1 | h1
  · exact key i j h1 hj h
  · exact (key j i h1 hi h.symm).symm
/-- Capability number i. -/
def kyT (s m i : Nat) : Cp := ((i : Int) % 3, s, loN m i)
theorem kyT_inj {s m i j : Nat} (hm : m % 2 = 1) (hi : i < 1000) (hj : j < 1000) (h : kyT s m i = kyT s m j) : i = j :=
  loN_inj hm hi hj (Prod.mk.inj (Prod.mk.inj h).2).2
/-- Those from a on, n of them. -/
def eeT (s m a n : Nat) : List (Cp × Int) := (List.range' a n).map fun j => (kyT s m j, (j : Int))
theorem eeT_length (s m a n : Nat) : (eeT s m a n).length = n := by simp [eeT]
theorem eeT_zero (s m a : Nat) : eeT s m a 0 = [] := rfl
theorem eeT_add (s m a n : Nat) : eeT s m a (n + 1) = eeT s m a n ++ [(kyT s m (a + n), ((a + n : Nat) : Int))] := by
  unfold eeT
  rw [List.range'_concat]
  simp
theorem eeT_cons (s m a n : Nat) : eeT s m a (n + 1) = (kyT s m a, (a : Int)) :: eeT s m (a + 1) n := by
  unfold eeT
  rw [List.range'_succ]
  simp
theorem eeT_mem {s m a n j : Nat} (h1 : a ≤ j) (h2 : j < a + n) : (kyT s m j, (j : Int)) ∈ eeT s m a n := by
  unfold eeT
  exact List.mem_map.2 ⟨j, by simp [List.mem_range'_1]; omega, rfl⟩
theorem eeT_not {s m a n j : Nat} (hm : m % 2 = 1) (hj : j < 1000) (hn : a + n ≤ 1000) (h : j < a ∨ a + n ≤ j) : kyT s m j ∉ (eeT s m a n).map Prod.fst := by
  intro hc
  obtain ⟨y, hy, he⟩ := List.mem_map.1 hc
  unfold eeT at hy
  obtain ⟨k, hk, rfl⟩ := List.mem_map.1 hy
  have hk2 := List.mem_range'_1.1 hk
  have := kyT_inj hm (by omega) hj he
  omega
theorem u64_or1 (s : Nat) (hs : s < B64) : bits .or .u64 (s : Int) 1 = ((s ||| 1 : Nat) : Int) := by
  have := u64_or_nat s 1 hs (by decide)
  simpa using this
theorem or1_odd (s : Nat) : (s ||| 1) % 2 = 1 := by simp
theorem or1_lt (s : Nat) (hs : s < B64) : (s ||| 1) < B64 := Nat.or_lt_two_pow (n := 64) hs (by decide)
theorem mul_val (m i : Nat) : IntKind.u64.wrap ((i : Int) * (m : Int)) = ((loN m i : Nat) : Int) := by
  rw [IntKind.wrap_u64]
  unfold loN B64
  rw [← Int.natCast_mul]
  omega
theorem tb_len {w : World} {g gb kn mo N : Nat} {E : List (Cp × Int)} (h : I.Tb w g gb kn mo N E) : Calls Try.prog 20 #[.pointer (some ⟨g, 0, none⟩)] w fun e w' => e = .returned (.int .i64 (E.length : Int)) ∧ w' = w := by
  obtain ⟨L, sp, h⟩ := h
  exact I.len_any h.tm
theorem bx_two (w : World) (o : Obj) (x : Int) (hi lo : Nat) : Bx ((w.alloc o).alloc (Obj.cells #[.int .i64 x, .int .u64 (hi : Int), .int .u64 (lo : Int)] 34)) (w.heap.size + 1) x hi lo := by
  have := Bx.new (w.alloc o) x hi lo
  simpa using this
theorem srt_strict {K : List Cp} (h : K.Nodup) : ∀ (p j : Nat) (c d : Cp), p < j → (srt K)[p]? = some c → (srt K)[j]? = some d → ltC c d := by
  intro p j c d hpj hc hd
  have hn : (srt K).Nodup := (srt_perm K).nodup_iff.2 h
  have h1 : ¬ ltC d c := by
    have := List.pairwise_iff_getElem.1 (srt_sorted K) p j (List.getElem?_eq_some_iff.1 hc).1 (List.getElem?_eq_some_iff.1 hd).1 hpj
    rw [(List.getElem?_eq_some_iff.1 hc).2, (List.getElem?_eq_some_iff.1 hd).2] at this
    exact this
  have h2 : c ≠ d := by
    have := List.pairwise_iff_getElem.1 hn p j (List.getElem?_eq_some_iff.1 hc).1 (List.getElem?_eq_some_iff.1 hd).1 hpj
    rw [(List.getElem?_eq_some_iff.1 hc).2, (List.getElem?_eq_some_iff.1 hd).2] at this
    exact this
  by_cases h3 : ltC c d
  · exact h3
  · exact absurd (antiC c d h3 h1) h2
theorem wrap_small (i : Nat) (hi : i < 1000) : IntKind.u64.wrap (i : Int) = (i : Int) := by rw [IntKind.wrap_u64]; omega
end Go.Proofs.Ytdkadmnhfnilkaa
