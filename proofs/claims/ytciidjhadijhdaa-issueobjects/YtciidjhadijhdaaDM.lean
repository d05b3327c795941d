import Derived.Laws.BitsAllLaws
import Derived.WalkKit
import Derived.Test.YtciidjhadijhdaaHM
import Derived.WalkSpells
namespace Go.Proofs.Ytciidjhadijhdaa.D
open Go.Proofs.Ytciidjhadijhdaa.H (B64)
open Go.RowKit

theorem B64_eq : B64 = 2 ^ 64 := rfl

/-- The halves a (upper), b (lower) are those of the number N. -/
structure IsW (a b N : Nat) : Prop where
  ha : a < B64
  hb : b < B64
  hn : N = a * B64 + b

theorem IsW.mk' {a b : Nat} (ha : a < B64) (hb : b < B64) : IsW a b (a * B64 + b) := ⟨ha, hb, rfl⟩
theorem IsW.lt {a b N : Nat} (h : IsW a b N) : N < B64 * B64 := by
  obtain ⟨ha, hb, rfl⟩ := h
  calc a * B64 + b < a * B64 + B64 := by omega
    _ = (a + 1) * B64 := by rw [Nat.add_mul, Nat.one_mul]
    _ ≤ B64 * B64 := Nat.mul_le_mul_right _ ha
theorem IsW.of {N : Nat} (h : N < B64 * B64) : IsW (N / B64) (N % B64) N :=
  ⟨Nat.div_lt_of_lt_mul h, Nat.mod_lt _ (by decide), by rw [Nat.mul_comm]; exact (Nat.div_add_mod N B64).symm⟩
theorem IsW.inj {a b c d N : Nat} (h : IsW a b N) (k : IsW c d N) : a = c ∧ b = d := by
  obtain ⟨ha, hb, hn⟩ := h
  obtain ⟨hc, hd, hm⟩ := k
  unfold B64 at *
  omega
theorem IsW.inj' {a b N M : Nat} (h : IsW a b N) (k : IsW a b M) : N = M := by rw [h.hn, k.hn]
theorem IsW.zero : IsW 0 0 0 := ⟨by decide, by decide, rfl⟩
theorem IsW.eq_iff {a b c d N M : Nat} (h : IsW a b N) (k : IsW c d M) : N = M ↔ a = c ∧ b = d := by
  constructor
  · rintro rfl; exact h.inj k
  · rintro ⟨rfl, rfl⟩; exact h.inj' k
theorem IsW.lt_iff {a b c d N M : Nat} (h : IsW a b N) (k : IsW c d M) : N < M ↔ a < c ∨ a = c ∧ b < d := by
  obtain ⟨ha, hb, hn⟩ := h
  obtain ⟨hc, hd, hm⟩ := k
  unfold B64 at *
  omega

/-! ### Cut, by numbers -/
def cutN (N : Nat) (width : Int) : Nat := N % 2 ^ width.toNat

theorem u64_low (h n : Nat) (hh : h < B64) (hn : n ≤ 63) :
    bits .and .u64 (h : Int) (IntKind.u64.wrap (IntKind.u64.wrap (2 ^ n) - 1)) = ((h % 2 ^ n : Nat) : Int) := by
  have h2 : (2 : Nat) ^ n ≤ 2 ^ 63 := Nat.pow_le_pow_right (by omega) hn
  have hp : 0 < (2 : Nat) ^ n := Nat.two_pow_pos n
  have e1 : ((2 : Int) ^ n) = ((2 ^ n : Nat) : Int) := by simp
  have e2 : IntKind.u64.wrap (IntKind.u64.wrap (2 ^ n) - 1) = ((2 ^ n - 1 : Nat) : Int) := by
    rw [e1, IntKind.wrap_u64, IntKind.wrap_u64]
    omega
  rw [e2, u64_and_nat _ _ hh (by omega), Nat.and_two_pow_sub_one_eq_mod]

theorem cut_none {N : Nat} {width : Int} (h : width < 1) : cutN N width = 0 := by
  unfold cutN
  have : width.toNat = 0 := by omega
  rw [this]; simp [Nat.mod_one]
theorem pow_big : (2 : Nat) ^ 128 = B64 * B64 := by decide
theorem cut_all {a b N : Nat} {width : Int} (h : IsW a b N) (hw : 128 ≤ width) : IsW a b (cutN N width) := by
  have hl := h.lt
  have : cutN N width = N := by
    unfold cutN
    apply Nat.mod_eq_of_lt
    calc N < B64 * B64 := hl
      _ = 2 ^ 128 := pow_big.symm
      _ ≤ _ := Nat.pow_le_pow_right (by omega) (by omega)
  rw [this]; exact h
theorem cut_hi {a b N : Nat} {width : Int} (h : IsW a b N) (h1 : 64 ≤ width) (_h2 : width < 128) : IsW (a % 2 ^ (width - 64).toNat) b (cutN N width) := by
  obtain ⟨k, hk⟩ : ∃ k : Nat, width = 64 + k := ⟨(width - 64).toNat, by omega⟩
  have e1 : (width - 64).toNat = k := by omega
  have e2 : width.toNat = k + 64 := by omega
  rw [e1]
  refine ⟨Nat.lt_of_le_of_lt (Nat.mod_le _ _) h.ha, h.hb, ?_⟩
  unfold cutN
  rw [e2, h.hn, Nat.pow_add, ← B64_eq, Nat.mul_comm (2 ^ k) B64, Nat.mod_mul]
  have hb := h.hb
  have e3 : (a * B64 + b) % B64 = b := by rw [Nat.add_comm, Nat.add_mul_mod_self_right, Nat.mod_eq_of_lt hb]
  have e4 : (a * B64 + b) / B64 = a := by
    rw [Nat.add_comm, Nat.add_mul_div_right _ _ (by decide), Nat.div_eq_of_lt hb, Nat.zero_add]
  rw [e3, e4, Nat.mul_comm, Nat.add_comm]
theorem cut_lo {a b N : Nat} {width : Int} (h : IsW a b N) (h1 : 1 ≤ width) (h2 : width < 64) : IsW 0 (b % 2 ^ width.toNat) (cutN N width) := by
  have hk : width.toNat ≤ 64 := by omega
  refine ⟨by decide, Nat.lt_of_le_of_lt (Nat.mod_le _ _) h.hb, ?_⟩
  unfold cutN
  rw [h.hn, Nat.zero_mul, Nat.zero_add]
  have : B64 = 2 ^ width.toNat * 2 ^ (64 - width.toNat) := by rw [← Nat.pow_add, B64_eq]; congr 1; omega
  rw [this, ← Nat.mul_assoc, Nat.mul_comm a, Nat.mul_assoc, Nat.add_comm, Nat.add_mul_mod_self_left]
/-! ### Halves as the walk has them -/
structure IsV (a b : Int) (N : Nat) : Prop where
  ex : ∃ x y : Nat, a = x ∧ b = y ∧ IsW x y N
theorem IsV.of {a b N : Nat} (h : IsW a b N) : IsV a b N := ⟨a, b, rfl, rfl, h⟩
theorem IsV.zero : IsV 0 0 0 := ⟨0, 0, rfl, rfl, IsW.zero⟩
theorem IsV.lt {a b : Int} {N : Nat} (h : IsV a b N) : N < B64 * B64 := by
  obtain ⟨x, y, rfl, rfl, h⟩ := h
  exact h.lt
def wEq (a b c d : Int) : Bool := decide (a = c) && decide (b = d)
theorem wEq_of {a b c d : Int} {N M : Nat} (h : IsV a b N) (k : IsV c d M) : wEq a b c d = decide (N = M) := by
  obtain ⟨x, y, rfl, rfl, h⟩ := h
  obtain ⟨z, u, rfl, rfl, k⟩ := k
  unfold wEq
  rw [← Bool.decide_and, decide_eq_decide]
  have := h.eq_iff k
  omega
theorem IsV.inj {a b c d : Int} {N : Nat} (h : IsV a b N) (k : IsV c d N) : a = c ∧ b = d := by
  have := wEq_of h k
  simp only [wEq, decide_true, Bool.and_eq_true, decide_eq_true_eq] at this
  exact this

def bitN (N i : Nat) : Nat := N / 2 ^ i % 2
theorem bitN_lt (N i : Nat) : bitN N i < 2 := Nat.mod_lt _ (by decide)
theorem bit_lo {a b N : Nat} (h : IsW a b N) {i : Nat} (hi : i < 64) : b / 2 ^ i % 2 = bitN N i := by
  unfold bitN
  rw [h.hn]
  obtain ⟨j, hj⟩ : ∃ j, B64 = 2 ^ i * (2 * 2 ^ j) := ⟨64 - i - 1, by
    have : (2 : Nat) * 2 ^ (64 - i - 1) = 2 ^ (64 - i - 1 + 1) := by rw [Nat.pow_succ, Nat.mul_comm]
    rw [this, ← Nat.pow_add, B64_eq]; congr 1; omega⟩
  rw [hj, Nat.add_comm, Nat.mul_comm a, Nat.mul_assoc, Nat.add_mul_div_left _ _ (Nat.two_pow_pos i), Nat.mul_assoc, Nat.add_mul_mod_self_left]
theorem word_div {a b N : Nat} (h : IsW a b N) : N / B64 = a := by
  rw [h.hn, Nat.add_comm, Nat.add_mul_div_right _ _ (by decide), Nat.div_eq_of_lt h.hb, Nat.zero_add]
theorem bit_hi {a b N : Nat} (h : IsW a b N) {i : Nat} : a / 2 ^ i % 2 = bitN N (64 + i) := by
  unfold bitN
  rw [Nat.pow_add, ← B64_eq, ← Nat.div_div_eq_div_mul, word_div h]
theorem or_bit {b i : Nat} (h : b / 2 ^ i % 2 = 0) : b ||| 2 ^ i = b + 2 ^ i := by
  have hp := Nat.two_pow_pos i
  have e1 : b = 2 ^ (i + 1) * (b / 2 ^ (i + 1)) + b % 2 ^ i := by
    have h1 := Nat.div_add_mod b (2 ^ (i + 1))
    have h2 : b % 2 ^ (i + 1) = b % 2 ^ i + 2 ^ i * (b / 2 ^ i % 2) := by rw [Nat.pow_succ, Nat.mod_mul]
    rw [h2, h, Nat.mul_zero, Nat.add_zero] at h1
    exact h1.symm
  have hr : b % 2 ^ i < 2 ^ i := Nat.mod_lt _ hp
  generalize b / 2 ^ (i + 1) = q at e1
  generalize b % 2 ^ i = r at e1 hr
  have h3 : 2 ^ i + r < 2 ^ (i + 1) := by rw [Nat.pow_succ]; omega
  have h4 : r ||| 2 ^ i = 2 ^ i + r := by
    have := Nat.two_pow_add_eq_or_of_lt hr 1
    rw [Nat.mul_one] at this
    rw [this, Nat.or_comm]
  have h5 := Nat.two_pow_add_eq_or_of_lt (Nat.lt_of_lt_of_le hr (Nat.le_of_lt (by rw [Nat.pow_succ]; omega))) q (i := i + 1)
  have h6 := Nat.two_pow_add_eq_or_of_lt h3 q
  rw [e1, h5, Nat.or_assoc, h4, ← h6, ← h5]
  omega
theorem pow_mod {n : Nat} (h : n < B64) : ((n : Nat) : Int) % 18446744073709551616 = ((n : Nat) : Int) := by
  unfold B64 at h
  omega
theorem bit_val (b i : Nat) : wrap64 (((b : Int) / 2 ^ i).tmod 2) = ((b / 2 ^ i % 2 : Nat) : Int) := by
  have e1 : ((2 : Int) ^ i) = ((2 ^ i : Nat) : Int) := by simp
  rw [e1, ← Int.natCast_ediv]
  generalize b / 2 ^ i = q
  have e2 : ((q : Int)).tmod 2 = ((q % 2 : Nat) : Int) := by
    rw [Int.tmod_eq_emod_of_nonneg (Int.natCast_nonneg _)]; omega
  rw [e2]
  unfold wrap64
  omega
theorem set_lo {a b N : Nat} (h : IsW a b N) {i : Nat} (hi : i < 64) (hz : bitN N i = 0) : IsW a (b ||| 2 ^ i) (N + 2 ^ i) ∧ bits BinOp.or IntKind.u64 (b : Int) (IntKind.u64.wrap (2 ^ i)) = ((b ||| 2 ^ i : Nat) : Int) := by
  have hz' : b / 2 ^ i % 2 = 0 := by rw [bit_lo h hi]; exact hz
  have hlt : (2 : Nat) ^ i < B64 := by rw [B64_eq]; exact Nat.pow_lt_pow_right (by omega) hi
  have hor : b ||| 2 ^ i < B64 := by
    rw [B64_eq] at *
    exact Nat.or_lt_two_pow (by rw [← B64_eq]; exact h.hb) hlt
  refine ⟨⟨h.ha, hor, ?_⟩, ?_⟩
  · rw [or_bit hz', h.hn]; omega
  · have e : IntKind.u64.wrap (2 ^ i) = ((2 ^ i : Nat) : Int) := by
      have e1 : ((2 : Int) ^ i) = ((2 ^ i : Nat) : Int) := by simp
      rw [e1, IntKind.wrap_u64]
      exact pow_mod hlt
    rw [e, u64_or_nat _ _ h.hb hlt]
theorem set_hi {a b N : Nat} (h : IsW a b N) {i : Nat} (hi : i < 64) (hz : bitN N (64 + i) = 0) : IsW (a ||| 2 ^ i) b (N + 2 ^ (64 + i)) ∧ bits BinOp.or IntKind.u64 (a : Int) (IntKind.u64.wrap (2 ^ i)) = ((a ||| 2 ^ i : Nat) : Int) := by
  have hz' : a / 2 ^ i % 2 = 0 := by rw [bit_hi h]; exact hz
  have hlt : (2 : Nat) ^ i < B64 := by rw [B64_eq]; exact Nat.pow_lt_pow_right (by omega) hi
  have hor : a ||| 2 ^ i < B64 := by
    rw [B64_eq] at *
    exact Nat.or_lt_two_pow (by rw [← B64_eq]; exact h.ha) hlt
  refine ⟨⟨hor, h.hb, ?_⟩, ?_⟩
  · rw [or_bit hz', h.hn, Nat.pow_add, ← B64_eq, Nat.add_mul, Nat.mul_comm (2 ^ i)]; omega
  · have e : IntKind.u64.wrap (2 ^ i) = ((2 ^ i : Nat) : Int) := by
      have e1 : ((2 : Int) ^ i) = ((2 ^ i : Nat) : Int) := by simp
      rw [e1, IntKind.wrap_u64]
      exact pow_mod hlt
    rw [e, u64_or_nat _ _ h.ha hlt]
theorem mod_succ (N k : Nat) : N % 2 ^ (k + 1) = N % 2 ^ k + bitN N k * 2 ^ k := by
  unfold bitN
  rw [Nat.pow_succ, Nat.mod_mul, Nat.mul_comm (2 ^ k)]
theorem bit_mod_zero (N k : Nat) : bitN (N % 2 ^ k) k = 0 := by
  unfold bitN
  rw [Nat.div_eq_of_lt (Nat.mod_lt _ (Nat.two_pow_pos k))]

theorem cut_end {N k : Nat} {width : Int} (hN : N < 2 ^ 128) (hk : k ≤ 128) (h : k = 0 ∨ (k : Int) ≤ width) (he : ¬ ((k : Int) < width ∧ k < 128)) : N % 2 ^ k = cutN N width := by
  unfold cutN
  by_cases h1 : k = 128
  · subst h1
    rw [Nat.mod_eq_of_lt hN, Nat.mod_eq_of_lt (Nat.lt_of_lt_of_le hN (Nat.pow_le_pow_right (by omega) (by omega)))]
  · have : k = width.toNat := by omega
    rw [this]


/-- The halves of a number. -/
def hiI (N : Nat) : Int := ((N / B64 : Nat) : Int)
def loI (N : Nat) : Int := ((N % B64 : Nat) : Int)
theorem isV {N : Nat} (h : N < B64 * B64) : IsV (hiI N) (loI N) N := IsV.of (IsW.of h)
theorem IsV.hi {a b : Int} {N : Nat} (h : IsV a b N) : a = hiI N := (h.inj (isV h.lt)).1
theorem IsV.lo {a b : Int} {N : Nat} (h : IsV a b N) : b = loI N := (h.inj (isV h.lt)).2
theorem hiI_zero : hiI 0 = 0 := rfl
theorem loI_zero : loI 0 = 0 := rfl
theorem wEq_num {N M : Nat} (h : N < B64 * B64) (k : M < B64 * B64) : wEq (hiI N) (loI N) (hiI M) (loI M) = decide (N = M) := wEq_of (isV h) (isV k)
theorem wEq_self (a b : Int) : wEq a b a b = true := by simp [wEq]
theorem cutN_lt {N : Nat} (h : N < B64 * B64) (width : Int) : cutN N width < B64 * B64 := Nat.lt_of_le_of_lt (Nat.mod_le _ _) h
end Go.Proofs.Ytciidjhadijhdaa.D
