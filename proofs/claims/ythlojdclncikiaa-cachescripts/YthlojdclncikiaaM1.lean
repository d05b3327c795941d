import Derived.Laws.BitsAllLaws
import Derived.Laws.ShiftsVarLaws
import Derived.WalkKit
import Derived.WalkSpells
namespace Go.Proofs.Ythlojdclncikiaa
open Go.RowKit

/-- 2 to the 64th, kept behind a name. -/
def B64 : Nat := 18446744073709551616
/-- The factor. -/
def KF : Nat := 11400714819323198485
/-- Its inverse modulo 2 to the 64th. -/
def KI : Nat := 17428512612931826493
/-- h times the factor, at 64 bits. -/
def mulN (h : Nat) : Nat := h * KF % B64
/-- h xor (h moved by 29). -/
def foldN (h : Nat) : Nat := h ^^^ (h / 2 ^ 29)
/-- One number taken in. -/
def stepN (h v : Nat) : Nat := foldN (mulN (h ^^^ v))
/-- All three. -/
def hashN (o a b : Nat) : Nat := stepN (stepN (stepN 5903417616801668165 o) a) b
/-- The lowest bits. -/
def lowN (h : Nat) (k : Int) : Nat := if k ≤ 0 then 0 else if 64 ≤ k then h else h % 2 ^ k.toNat

theorem xor_lt {a b : Nat} (ha : a < B64) (hb : b < B64) : a ^^^ b < B64 := Nat.xor_lt_two_pow (n := 64) ha hb
theorem mulN_lt (h : Nat) : mulN h < B64 := Nat.mod_lt _ (by decide)
theorem foldN_lt {h : Nat} (hh : h < B64) : foldN h < B64 := xor_lt hh (Nat.lt_of_le_of_lt (Nat.div_le_self _ _) hh)
theorem stepN_lt (h v : Nat) : stepN h v < B64 := foldN_lt (mulN_lt _)
theorem hashN_lt (o a b : Nat) : hashN o a b < B64 := stepN_lt _ _
theorem lowN_lt {h : Nat} (k : Int) (hh : h < B64) : lowN h k < B64 := by
  unfold lowN
  split
  · decide
  · split
    · exact hh
    · exact Nat.lt_of_le_of_lt (Nat.mod_le _ _) hh

theorem xor_inj {a b c : Nat} (h : a ^^^ b = a ^^^ c) : b = c := by
  have := congrArg (fun x => a ^^^ x) h
  simpa [← Nat.xor_assoc] using this
theorem xor_inj' {a b c : Nat} (h : b ^^^ a = c ^^^ a) : b = c := by
  rw [Nat.xor_comm b, Nat.xor_comm c] at h
  exact xor_inj h
theorem mulN_back {h : Nat} (hh : h < B64) : mulN h * KI % B64 = h := by
  unfold mulN
  rw [Nat.mod_mul_mod, Nat.mul_assoc]
  have e : KF * KI = KF * KI / B64 * B64 + 1 := by decide
  rw [e, Nat.mul_add, Nat.mul_one, ← Nat.mul_assoc, Nat.add_comm, Nat.add_mul_mod_self_right]
  exact Nat.mod_eq_of_lt hh
theorem mulN_inj {h k : Nat} (hh : h < B64) (hk : k < B64) (e : mulN h = mulN k) : h = k := by
  rw [← mulN_back hh, ← mulN_back hk, e]
theorem foldN_back {h : Nat} (hh : h < B64) : foldN h ^^^ (foldN h / 2 ^ 29) ^^^ (foldN h / 2 ^ 58) = h := by
  have e1 : (h ^^^ h / 2 ^ 29) / 2 ^ 29 = h / 2 ^ 29 ^^^ h / 2 ^ 58 := by
    rw [← Nat.shiftRight_eq_div_pow, Nat.shiftRight_xor_distrib, Nat.shiftRight_eq_div_pow, Nat.shiftRight_eq_div_pow, Nat.div_div_eq_div_mul]
  have e2 : (h ^^^ h / 2 ^ 29) / 2 ^ 58 = h / 2 ^ 58 := by
    rw [← Nat.shiftRight_eq_div_pow, Nat.shiftRight_xor_distrib, Nat.shiftRight_eq_div_pow, Nat.shiftRight_eq_div_pow]
    have : h / 2 ^ 29 / 2 ^ 58 = 0 := by unfold B64 at hh; omega
    rw [this, Nat.xor_zero]
  unfold foldN
  rw [e1, e2]
  generalize h / 2 ^ 29 = x
  generalize h / 2 ^ 58 = y
  have e3 : x ^^^ (x ^^^ y) = y := by rw [← Nat.xor_assoc, Nat.xor_self, Nat.zero_xor]
  rw [Nat.xor_assoc h x, e3, Nat.xor_assoc, Nat.xor_self, Nat.xor_zero]
theorem foldN_inj {h k : Nat} (hh : h < B64) (hk : k < B64) (e : foldN h = foldN k) : h = k := by
  rw [← foldN_back hh, ← foldN_back hk, e]
theorem stepN_inj {h v k u : Nat} (h1 : h < B64) (h2 : v < B64) (h3 : k < B64) (h4 : u < B64) (e : stepN h v = stepN k u) : h ^^^ v = k ^^^ u :=
  mulN_inj (xor_lt h1 h2) (xor_lt h3 h4) (foldN_inj (mulN_lt _) (mulN_lt _) e)

theorem hashN_obj {o p a b : Nat} (ho : o < B64) (hp : p < B64) (ha : a < B64) (hb : b < B64) : hashN o a b = hashN p a b ↔ o = p := by
  constructor
  · intro e
    have e1 := xor_inj' (stepN_inj (stepN_lt _ _) hb (stepN_lt _ _) hb e)
    have e2 := xor_inj' (stepN_inj (stepN_lt _ _) ha (stepN_lt _ _) ha e1)
    exact xor_inj (stepN_inj (by decide) ho (by decide) hp e2)
  · rintro rfl; rfl
theorem hashN_hi {o a b c : Nat} (ha : a < B64) (hb : b < B64) (hc : c < B64) : hashN o a b = hashN o c b ↔ a = c := by
  constructor
  · intro e
    have e1 := xor_inj' (stepN_inj (stepN_lt _ _) hb (stepN_lt _ _) hb e)
    exact xor_inj (stepN_inj (stepN_lt _ _) ha (stepN_lt _ _) hc e1)
  · rintro rfl; rfl
theorem hashN_lo {o a b c : Nat} (hb : b < B64) (hc : c < B64) : hashN o a b = hashN o a c ↔ b = c := by
  constructor
  · intro e
    exact xor_inj (stepN_inj (stepN_lt _ _) hb (stepN_lt _ _) hc e)
  · rintro rfl; rfl
theorem hash_alive : hashN 1 0 5 = 8857019173382971535 := by decide
end Go.Proofs.Ythlojdclncikiaa
