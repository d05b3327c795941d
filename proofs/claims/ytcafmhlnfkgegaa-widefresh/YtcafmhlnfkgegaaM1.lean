import Derived.Laws.BitsAllLaws
namespace Go.Proofs.Ytcafmhlnfkgegaa

/-- 2 to the 64th, kept behind a name. -/
def B64 : Nat := 18446744073709551616
theorem B64_eq : B64 = 2 ^ 64 := rfl

/-- The halves a (upper), b (lower) are those of the number N. -/
structure IsW (a b N : Nat) : Prop where
  ha : a < B64
  hb : b < B64
  hn : N = a * B64 + b

theorem IsW.mk' {a b : Nat} (ha : a < B64) (hb : b < B64) : IsW a b (a * B64 + b) := ⟨ha, hb, rfl⟩
theorem IsW.lt {a b N : Nat} (h : IsW a b N) : N < B64 * B64 := by
  obtain ⟨ha, hb, rfl⟩ := h
  calc a * B64 + b < a * B64 + B64 := by omega
    _ = (a + 1) * B64 := by rw [Nat.add_mul, Nat.one_mul]
    _ ≤ B64 * B64 := Nat.mul_le_mul_right _ ha
theorem IsW.of {N : Nat} (h : N < B64 * B64) : IsW (N / B64) (N % B64) N :=
  ⟨Nat.div_lt_of_lt_mul h, Nat.mod_lt _ (by decide), by rw [Nat.mul_comm]; exact (Nat.div_add_mod N B64).symm⟩
theorem IsW.inj {a b c d N : Nat} (h : IsW a b N) (k : IsW c d N) : a = c ∧ b = d := by
  obtain ⟨ha, hb, hn⟩ := h
  obtain ⟨hc, hd, hm⟩ := k
  unfold B64 at *
  omega
theorem IsW.inj' {a b N M : Nat} (h : IsW a b N) (k : IsW a b M) : N = M := by rw [h.hn, k.hn]
theorem IsW.zero : IsW 0 0 0 := ⟨by decide, by decide, rfl⟩
theorem IsW.eq_iff {a b c d N M : Nat} (h : IsW a b N) (k : IsW c d M) : N = M ↔ a = c ∧ b = d := by
  constructor
  · rintro rfl; exact h.inj k
  · rintro ⟨rfl, rfl⟩; exact h.inj' k
theorem IsW.lt_iff {a b c d N M : Nat} (h : IsW a b N) (k : IsW c d M) : N < M ↔ a < c ∨ a = c ∧ b < d := by
  obtain ⟨ha, hb, hn⟩ := h
  obtain ⟨hc, hd, hm⟩ := k
  unfold B64 at *
  omega

/-! ### Cut, Fits, Cmp, Next, by numbers -/
def cutN (N : Nat) (width : Int) : Nat := N % 2 ^ width.toNat
def fitsB (N : Nat) (width : Int) : Bool := decide (1 ≤ width) && decide (N < 2 ^ width.toNat)
def cmpI (N M : Nat) : Int := if N = M then 0 else if N < M then -1 else 1
def succN (N : Nat) : Nat := (N + 1) % (B64 * B64)
def nextB (N : Nat) (width : Int) : Bool := fitsB (succN N) width && !(decide (succN N = 0))
def nextN (N : Nat) (width : Int) : Nat := if nextB N width then succN N else 0

theorem u64_low (h n : Nat) (hh : h < B64) (hn : n ≤ 63) :
    bits .and .u64 (h : Int) (IntKind.u64.wrap (IntKind.u64.wrap (2 ^ n) - 1)) = ((h % 2 ^ n : Nat) : Int) := by
  have h2 : (2 : Nat) ^ n ≤ 2 ^ 63 := Nat.pow_le_pow_right (by omega) hn
  have hp : 0 < (2 : Nat) ^ n := Nat.two_pow_pos n
  have e1 : ((2 : Int) ^ n) = ((2 ^ n : Nat) : Int) := by simp
  have e2 : IntKind.u64.wrap (IntKind.u64.wrap (2 ^ n) - 1) = ((2 ^ n - 1 : Nat) : Int) := by
    rw [e1, IntKind.wrap_u64, IntKind.wrap_u64]
    omega
  rw [e2, u64_and_nat _ _ hh (by omega), Nat.and_two_pow_sub_one_eq_mod]

theorem cut_none {N : Nat} {width : Int} (h : width < 1) : cutN N width = 0 := by
  unfold cutN
  have : width.toNat = 0 := by omega
  rw [this]; simp [Nat.mod_one]
theorem pow_big : (2 : Nat) ^ 128 = B64 * B64 := by decide
theorem cut_all {a b N : Nat} {width : Int} (h : IsW a b N) (hw : 128 ≤ width) : IsW a b (cutN N width) := by
  have hl := h.lt
  have : cutN N width = N := by
    unfold cutN
    apply Nat.mod_eq_of_lt
    calc N < B64 * B64 := hl
      _ = 2 ^ 128 := pow_big.symm
      _ ≤ _ := Nat.pow_le_pow_right (by omega) (by omega)
  rw [this]; exact h
theorem cut_hi {a b N : Nat} {width : Int} (h : IsW a b N) (h1 : 64 ≤ width) (_h2 : width < 128) : IsW (a % 2 ^ (width - 64).toNat) b (cutN N width) := by
  obtain ⟨k, hk⟩ : ∃ k : Nat, width = 64 + k := ⟨(width - 64).toNat, by omega⟩
  have e1 : (width - 64).toNat = k := by omega
  have e2 : width.toNat = k + 64 := by omega
  rw [e1]
  refine ⟨Nat.lt_of_le_of_lt (Nat.mod_le _ _) h.ha, h.hb, ?_⟩
  unfold cutN
  rw [e2, h.hn, Nat.pow_add, ← B64_eq, Nat.mul_comm (2 ^ k) B64, Nat.mod_mul]
  have hb := h.hb
  have e3 : (a * B64 + b) % B64 = b := by rw [Nat.add_comm, Nat.add_mul_mod_self_right, Nat.mod_eq_of_lt hb]
  have e4 : (a * B64 + b) / B64 = a := by
    rw [Nat.add_comm, Nat.add_mul_div_right _ _ (by decide), Nat.div_eq_of_lt hb, Nat.zero_add]
  rw [e3, e4, Nat.mul_comm, Nat.add_comm]
theorem cut_lo {a b N : Nat} {width : Int} (h : IsW a b N) (h1 : 1 ≤ width) (h2 : width < 64) : IsW 0 (b % 2 ^ width.toNat) (cutN N width) := by
  have hk : width.toNat ≤ 64 := by omega
  refine ⟨by decide, Nat.lt_of_le_of_lt (Nat.mod_le _ _) h.hb, ?_⟩
  unfold cutN
  rw [h.hn, Nat.zero_mul, Nat.zero_add]
  have : B64 = 2 ^ width.toNat * 2 ^ (64 - width.toNat) := by rw [← Nat.pow_add, B64_eq]; congr 1; omega
  rw [this, ← Nat.mul_assoc, Nat.mul_comm a, Nat.mul_assoc, Nat.add_comm, Nat.add_mul_mod_self_left]
theorem fits_cut (N : Nat) (width : Int) : fitsB N width = (decide (1 ≤ width) && decide (cutN N width = N)) := by
  unfold fitsB cutN
  congr 1
  rw [decide_eq_decide]
  constructor
  · exact Nat.mod_eq_of_lt
  · intro h; rw [← h]; exact Nat.mod_lt _ (Nat.two_pow_pos _)
theorem succ_lo {a b N : Nat} (h : IsW a b N) (hb : b + 1 < B64) : IsW a (b + 1) (succN N) := by
  refine ⟨h.ha, hb, ?_⟩
  have : a * B64 + (b + 1) < B64 * B64 := (IsW.mk' h.ha hb).lt
  unfold succN
  rw [h.hn, Nat.add_assoc, Nat.mod_eq_of_lt this]
theorem succ_hi {a b N : Nat} (h : IsW a b N) (hb : b + 1 = B64) (ha : a + 1 < B64) : IsW (a + 1) 0 (succN N) := by
  refine ⟨ha, by decide, ?_⟩
  have e : a * B64 + b + 1 = (a + 1) * B64 + 0 := by rw [Nat.add_mul, Nat.one_mul, Nat.add_assoc, hb, Nat.add_zero]
  have : (a + 1) * B64 + 0 < B64 * B64 := (IsW.mk' ha (by decide)).lt
  unfold succN
  rw [h.hn, e, Nat.mod_eq_of_lt this]
theorem succ_top {a b N : Nat} (h : IsW a b N) (hb : b + 1 = B64) (ha : a + 1 = B64) : IsW 0 0 (succN N) := by
  refine ⟨by decide, by decide, ?_⟩
  have e : a * B64 + b + 1 = B64 * B64 := by
    have : a * B64 + B64 = (a + 1) * B64 := by rw [Nat.add_mul, Nat.one_mul]
    rw [Nat.add_assoc, hb, this, ha]
  unfold succN
  rw [h.hn, e, Nat.mod_self, Nat.zero_mul]

/-! ### Halves as the walk has them -/
structure IsV (a b : Int) (N : Nat) : Prop where
  ex : ∃ x y : Nat, a = x ∧ b = y ∧ IsW x y N
theorem IsV.of {a b N : Nat} (h : IsW a b N) : IsV a b N := ⟨a, b, rfl, rfl, h⟩
theorem IsV.zero : IsV 0 0 0 := ⟨0, 0, rfl, rfl, IsW.zero⟩
theorem IsV.lt {a b : Int} {N : Nat} (h : IsV a b N) : N < B64 * B64 := by
  obtain ⟨x, y, rfl, rfl, h⟩ := h
  exact h.lt
def wEq (a b c d : Int) : Bool := decide (a = c) && decide (b = d)
theorem wEq_of {a b c d : Int} {N M : Nat} (h : IsV a b N) (k : IsV c d M) : wEq a b c d = decide (N = M) := by
  obtain ⟨x, y, rfl, rfl, h⟩ := h
  obtain ⟨z, u, rfl, rfl, k⟩ := k
  unfold wEq
  rw [← Bool.decide_and, decide_eq_decide]
  have := h.eq_iff k
  omega
theorem IsV.inj {a b c d : Int} {N : Nat} (h : IsV a b N) (k : IsV c d N) : a = c ∧ b = d := by
  have := wEq_of h k
  simp only [wEq, decide_true, Bool.and_eq_true, decide_eq_true_eq] at this
  exact this
end Go.Proofs.Ytcafmhlnfkgegaa
