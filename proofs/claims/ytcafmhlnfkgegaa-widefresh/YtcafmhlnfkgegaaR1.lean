import Derived.Test.YtcafmhlnfkgegaaLO
namespace Go.Proofs.Ytcafmhlnfkgegaa
open Go.RowKit

def bitN (N i : Nat) : Nat := N / 2 ^ i % 2
theorem bitN_lt (N i : Nat) : bitN N i < 2 := Nat.mod_lt _ (by decide)
theorem bit_lo {a b N : Nat} (h : IsW a b N) {i : Nat} (hi : i < 64) : b / 2 ^ i % 2 = bitN N i := by
  unfold bitN
  rw [h.hn]
  obtain ⟨j, hj⟩ : ∃ j, B64 = 2 ^ i * (2 * 2 ^ j) := ⟨64 - i - 1, by
    have : (2 : Nat) * 2 ^ (64 - i - 1) = 2 ^ (64 - i - 1 + 1) := by rw [Nat.pow_succ, Nat.mul_comm]
    rw [this, ← Nat.pow_add, B64_eq]; congr 1; omega⟩
  rw [hj, Nat.add_comm, Nat.mul_comm a, Nat.mul_assoc, Nat.add_mul_div_left _ _ (Nat.two_pow_pos i), Nat.mul_assoc, Nat.add_mul_mod_self_left]
theorem word_div {a b N : Nat} (h : IsW a b N) : N / B64 = a := by
  rw [h.hn, Nat.add_comm, Nat.add_mul_div_right _ _ (by decide), Nat.div_eq_of_lt h.hb, Nat.zero_add]
theorem bit_hi {a b N : Nat} (h : IsW a b N) {i : Nat} : a / 2 ^ i % 2 = bitN N (64 + i) := by
  unfold bitN
  rw [Nat.pow_add, ← B64_eq, ← Nat.div_div_eq_div_mul, word_div h]
theorem or_bit {b i : Nat} (h : b / 2 ^ i % 2 = 0) : b ||| 2 ^ i = b + 2 ^ i := by
  have hp := Nat.two_pow_pos i
  have e1 : b = 2 ^ (i + 1) * (b / 2 ^ (i + 1)) + b % 2 ^ i := by
    have h1 := Nat.div_add_mod b (2 ^ (i + 1))
    have h2 : b % 2 ^ (i + 1) = b % 2 ^ i + 2 ^ i * (b / 2 ^ i % 2) := by rw [Nat.pow_succ, Nat.mod_mul]
    rw [h2, h, Nat.mul_zero, Nat.add_zero] at h1
    exact h1.symm
  have hr : b % 2 ^ i < 2 ^ i := Nat.mod_lt _ hp
  generalize b / 2 ^ (i + 1) = q at e1
  generalize b % 2 ^ i = r at e1 hr
  have h3 : 2 ^ i + r < 2 ^ (i + 1) := by rw [Nat.pow_succ]; omega
  have h4 : r ||| 2 ^ i = 2 ^ i + r := by
    have := Nat.two_pow_add_eq_or_of_lt hr 1
    rw [Nat.mul_one] at this
    rw [this, Nat.or_comm]
  have h5 := Nat.two_pow_add_eq_or_of_lt (Nat.lt_of_lt_of_le hr (Nat.le_of_lt (by rw [Nat.pow_succ]; omega))) q (i := i + 1)
  have h6 := Nat.two_pow_add_eq_or_of_lt h3 q
  rw [e1, h5, Nat.or_assoc, h4, ← h6, ← h5]
  omega
theorem pow_mod {n : Nat} (h : n < B64) : ((n : Nat) : Int) % 18446744073709551616 = ((n : Nat) : Int) := by
  unfold B64 at h
  omega
theorem bit_val (b i : Nat) : wrap64 (((b : Int) / 2 ^ i).tmod 2) = ((b / 2 ^ i % 2 : Nat) : Int) := by
  have e1 : ((2 : Int) ^ i) = ((2 ^ i : Nat) : Int) := by simp
  rw [e1, ← Int.natCast_ediv]
  generalize b / 2 ^ i = q
  have e2 : ((q : Int)).tmod 2 = ((q % 2 : Nat) : Int) := by
    rw [Int.tmod_eq_emod_of_nonneg (Int.natCast_nonneg _)]; omega
  rw [e2]
  unfold wrap64
  omega
theorem set_lo {a b N : Nat} (h : IsW a b N) {i : Nat} (hi : i < 64) (hz : bitN N i = 0) : IsW a (b ||| 2 ^ i) (N + 2 ^ i) ∧ bits BinOp.or IntKind.u64 (b : Int) (IntKind.u64.wrap (2 ^ i)) = ((b ||| 2 ^ i : Nat) : Int) := by
  have hz' : b / 2 ^ i % 2 = 0 := by rw [bit_lo h hi]; exact hz
  have hlt : (2 : Nat) ^ i < B64 := by rw [B64_eq]; exact Nat.pow_lt_pow_right (by omega) hi
  have hor : b ||| 2 ^ i < B64 := by
    rw [B64_eq] at *
    exact Nat.or_lt_two_pow (by rw [← B64_eq]; exact h.hb) hlt
  refine ⟨⟨h.ha, hor, ?_⟩, ?_⟩
  · rw [or_bit hz', h.hn]; omega
  · have e : IntKind.u64.wrap (2 ^ i) = ((2 ^ i : Nat) : Int) := by
      have e1 : ((2 : Int) ^ i) = ((2 ^ i : Nat) : Int) := by simp
      rw [e1, IntKind.wrap_u64]
      exact pow_mod hlt
    rw [e, u64_or_nat _ _ h.hb hlt]
theorem set_hi {a b N : Nat} (h : IsW a b N) {i : Nat} (hi : i < 64) (hz : bitN N (64 + i) = 0) : IsW (a ||| 2 ^ i) b (N + 2 ^ (64 + i)) ∧ bits BinOp.or IntKind.u64 (a : Int) (IntKind.u64.wrap (2 ^ i)) = ((a ||| 2 ^ i : Nat) : Int) := by
  have hz' : a / 2 ^ i % 2 = 0 := by rw [bit_hi h]; exact hz
  have hlt : (2 : Nat) ^ i < B64 := by rw [B64_eq]; exact Nat.pow_lt_pow_right (by omega) hi
  have hor : a ||| 2 ^ i < B64 := by
    rw [B64_eq] at *
    exact Nat.or_lt_two_pow (by rw [← B64_eq]; exact h.ha) hlt
  refine ⟨⟨hor, h.hb, ?_⟩, ?_⟩
  · rw [or_bit hz', h.hn, Nat.pow_add, ← B64_eq, Nat.add_mul, Nat.mul_comm (2 ^ i)]; omega
  · have e : IntKind.u64.wrap (2 ^ i) = ((2 ^ i : Nat) : Int) := by
      have e1 : ((2 : Int) ^ i) = ((2 ^ i : Nat) : Int) := by simp
      rw [e1, IntKind.wrap_u64]
      exact pow_mod hlt
    rw [e, u64_or_nat _ _ h.ha hlt]

set_option maxHeartbeats 400000 in
theorem bit_any (a b : Int) (N i : Nat) (w : World) (h : IsV a b N) (hi : i < 128) :
    Calls Try.prog 34 #[.agg #[.int .u64 a, .int .u64 b], .int .i64 (i : Int)] w fun e w' => e = .returned (.int .i64 (bitN N i : Int)) ∧ Below w.heap.size w w' := by
  obtain ⟨a, b, rfl, rfl, h⟩ := h
  by_cases h1 : i < 64
  · have hb := bit_lo h h1
    have HV : Hid (wrap64 (((b : Int) / 2 ^ i).tmod 2) = (bitN N i : Int)) := by unfold Hid; rw [bit_val, hb]
    clear hb h
    go_enter Try.func34, Try.ntmps34
    go_wp2
    go_ret
    exact ⟨ret_int HV.out, below1 _ _⟩
  · obtain ⟨j, rfl⟩ : ∃ j, i = 64 + j := ⟨i - 64, by omega⟩
    have hb := bit_hi h (i := j)
    have HV : Hid (wrap64 (((a : Int) / 2 ^ j).tmod 2) = (bitN N (64 + j) : Int)) := by unfold Hid; rw [bit_val, hb]
    have h2 : j < 64 := by omega
    clear hb h h1 hi
    have hw : ((64 + j : Nat) : Int) - 64 = (j : Int) := by omega
    have h3 : ¬ ((64 + j : Nat) : Int) < 64 := by omega
    go_enter Try.func34, Try.ntmps34
    go_wp2
    go_ret
    exact ⟨ret_int HV.out, below1 _ _⟩
set_option maxHeartbeats 400000 in
theorem set_any (a b : Int) (N i : Nat) (w : World) (h : IsV a b N) (hi : i < 128) (hz : bitN N i = 0) :
    Calls Try.prog 35 #[.agg #[.int .u64 a, .int .u64 b], .int .i64 (i : Int)] w fun e w' => ∃ c d : Int, e = .returned (.agg #[.int .u64 c, .int .u64 d]) ∧ IsV c d (N + 2 ^ i) ∧ Below w.heap.size w w' := by
  obtain ⟨a, b, rfl, rfl, h⟩ := h
  by_cases h1 : i < 64
  · obtain ⟨s1, s2⟩ := set_lo h h1 hz
    have s3 := IsV.of s1
    rw [← s2] at s3
    clear s1 s2 h hz
    go_enter Try.func35, Try.ntmps35
    go_wp2
    exact bodyPost_ret (v := .agg #[.int .u64 (a : Int), .int .u64 (bits BinOp.or IntKind.u64 (b : Int) (IntKind.u64.wrap (2 ^ i)))]) (by simp [results, Try.results35, go_sem]) rfl ⟨_, _, rfl, s3, below2 _ _ _⟩
  · obtain ⟨j, rfl⟩ : ∃ j, i = 64 + j := ⟨i - 64, by omega⟩
    have h2 : j < 64 := by omega
    obtain ⟨s1, s2⟩ := set_hi h h2 hz
    have s3 := IsV.of s1
    rw [← s2] at s3
    clear s1 s2 h hz h1 hi
    have hw : ((64 + j : Nat) : Int) - 64 = (j : Int) := by omega
    have h3 : ¬ ((64 + j : Nat) : Int) < 64 := by omega
    go_enter Try.func35, Try.ntmps35
    go_wp2
    exact bodyPost_ret (v := .agg #[.int .u64 (bits BinOp.or IntKind.u64 (a : Int) (IntKind.u64.wrap (2 ^ j))), .int .u64 (b : Int)]) (by simp [results, Try.results35, go_sem]) rfl ⟨_, _, rfl, s3, below2 _ _ _⟩
end Go.Proofs.Ytcafmhlnfkgegaa
