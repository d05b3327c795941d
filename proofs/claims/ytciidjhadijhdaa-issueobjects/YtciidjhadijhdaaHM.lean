import Derived.Laws.BitsAllLaws
import Derived.Laws.ShiftsVarLaws
import Derived.WalkKit
import Derived.WalkSpells
namespace Go.Proofs.Ytciidjhadijhdaa.H
open Go.RowKit

/-- 2 to the 64th, kept behind a name. -/
def B64 : Nat := 18446744073709551616
/-- The factor. -/
def KF : Nat := 11400714819323198485
/-- h times the factor, at 64 bits. -/
def mulN (h : Nat) : Nat := h * KF % B64
/-- h xor (h moved by 29). -/
def foldN (h : Nat) : Nat := h ^^^ (h / 2 ^ 29)
/-- One number taken in. -/
def stepN (h v : Nat) : Nat := foldN (mulN (h ^^^ v))
/-- All three. -/
def hashN (o a b : Nat) : Nat := stepN (stepN (stepN 5903417616801668165 o) a) b
/-- The lowest bits. -/
def lowN (h : Nat) (k : Int) : Nat := if k ≤ 0 then 0 else if 64 ≤ k then h else h % 2 ^ k.toNat

theorem xor_lt {a b : Nat} (ha : a < B64) (hb : b < B64) : a ^^^ b < B64 := Nat.xor_lt_two_pow (n := 64) ha hb
theorem mulN_lt (h : Nat) : mulN h < B64 := Nat.mod_lt _ (by decide)
theorem foldN_lt {h : Nat} (hh : h < B64) : foldN h < B64 := xor_lt hh (Nat.lt_of_le_of_lt (Nat.div_le_self _ _) hh)
theorem stepN_lt (h v : Nat) : stepN h v < B64 := foldN_lt (mulN_lt _)
theorem hashN_lt (o a b : Nat) : hashN o a b < B64 := stepN_lt _ _
theorem lowN_lt {h : Nat} (k : Int) (hh : h < B64) : lowN h k < B64 := by
  unfold lowN
  split
  · decide
  · split
    · exact hh
    · exact Nat.lt_of_le_of_lt (Nat.mod_le _ _) hh

end Go.Proofs.Ytciidjhadijhdaa.H
