import Derived.Test.YtlelglfdamakaaaA1
import Derived.Test.YtlelglfdamakaaaMH
import Derived.Test.YtlelglfdamakaaaMZ
import Derived.Test.YtlelglfdamakaaaRows
import Derived.WalkKit
import Derived.WalkSpells
import Derived.WalkLawsBesides
import Derived.WalkMore
import Derived.Deep.RegionHeld3
import Derived.Deep.MidRow
import Derived.Deep.QuietTactic
import Derived.Deep.DeepCutAuto
import Derived.BigQuiet
import Derived.Maps.AppendAt
import Derived.Laws.AppendOwnNone
import Derived.Laws.OwnMore
import Derived.Laws.CopyRow
import Derived.Laws.IdiomCopy
import Derived.Laws.BitsAllLaws
import Derived.Laws.ShiftsVarLaws
namespace Go.Proofs.Ytlelglfdamakaaa.K
open Go.RowKit

theorem cell_but {S : Nat → Prop} {w w' : World} {p : Addr} {v : Value} (hb : But S w w') (h : w.cell? p = some v) (hn : ¬ S p.block) : w'.cell? p = some v := by
  rw [World.cell?_of_block (hb.block p.block (World.block_lt_of_cell? _ _ h) hn)]; exact h
end Go.Proofs.Ytlelglfdamakaaa.K
namespace Go.Proofs.Ytlelglfdamakaaa.K
open Go.RowKit
set_option linter.unusedVariables false

abbrev Cp := Int × Nat × Nat
/-! ### Rows whose elements take k cells -/
theorem cls_get {α : Type} {enc : α → List Value} {k : Nat} (hk : ∀ x, (enc x).length = k) (K : List α) (i c : Nat) (x : α) (hi : K[i]? = some x) (hc : c < k) : (K.flatMap enc)[i * k + c]? = (enc x)[c]? := by
  induction K generalizing i with
  | nil => cases hi
  | cons a r ih =>
    rw [List.flatMap_cons]
    cases i with
    | zero =>
      simp at hi
      subst hi
      rw [Nat.zero_mul, Nat.zero_add, List.getElem?_append_left (by rw [hk]; exact hc)]
    | succ i =>
      rw [List.getElem?_append_right (by rw [hk, Nat.add_mul]; omega), hk]
      have : (i + 1) * k + c - k = i * k + c := by rw [Nat.add_mul]; omega
      rw [this]
      exact ih i (by simpa using hi)
/-- Are they the same? -/
def cEq (a b c d e f : Int) : Bool := decide (a = d ∧ b = e ∧ c = f)
theorem eqlC (a b c d e f : Int) (w : World) : (binOp .eql 32 (.agg #[.int .i64 a, .int .u64 b, .int .u64 c]) (.agg #[.int .i64 d, .int .u64 e, .int .u64 f])).run Try.prog w = .ok (.bool (cEq a b c d e f)) w := by
  unfold cEq
  by_cases h1 : a = d
  · subst h1
    by_cases h2 : b = e
    · subst h2
      by_cases h3 : c = f
      · subst h3; simp [go_sem]
      · simp [go_sem, h3]
    · simp [go_sem, h2]
  · simp [go_sem, h1]
/-! ### Lists that are lengthened -/
/-! ### Writing an element -/
end Go.Proofs.Ytlelglfdamakaaa.K
namespace Go.Proofs.Ytlelglfdamakaaa.K
open Go.RowKit

/-- 2 to the 64th, kept behind a name. -/
def B64 : Nat := 18446744073709551616
/-- The factor. -/
def KF : Nat := 11400714819323198485
/-- h times the factor, at 64 bits. -/
def mulN (h : Nat) : Nat := h * KF % B64
/-- h xor (h moved by 29). -/
def foldN (h : Nat) : Nat := h ^^^ (h / 2 ^ 29)
/-- One number taken in. -/
def stepN (h v : Nat) : Nat := foldN (mulN (h ^^^ v))
/-- All three. -/
def hashN (o a b : Nat) : Nat := stepN (stepN (stepN 5903417616801668165 o) a) b
/-- The lowest bits. -/
def lowN (h : Nat) (k : Int) : Nat := if k ≤ 0 then 0 else if 64 ≤ k then h else h % 2 ^ k.toNat

theorem xor_lt {a b : Nat} (ha : a < B64) (hb : b < B64) : a ^^^ b < B64 := Nat.xor_lt_two_pow (n := 64) ha hb
theorem mulN_lt (h : Nat) : mulN h < B64 := Nat.mod_lt _ (by decide)
theorem foldN_lt {h : Nat} (hh : h < B64) : foldN h < B64 := xor_lt hh (Nat.lt_of_le_of_lt (Nat.div_le_self _ _) hh)
theorem stepN_lt (h v : Nat) : stepN h v < B64 := foldN_lt (mulN_lt _)
theorem hashN_lt (o a b : Nat) : hashN o a b < B64 := stepN_lt _ _
theorem lowN_lt {h : Nat} (k : Int) (hh : h < B64) : lowN h k < B64 := by
  unfold lowN
  split
  · decide
  · split
    · exact hh
    · exact Nat.lt_of_le_of_lt (Nat.mod_le _ _) hh

end Go.Proofs.Ytlelglfdamakaaa.K
namespace Go.Proofs.Ytlelglfdamakaaa.K
open Go.RowKit


theorem step_val (h v : Nat) (hh : h < B64) (hv : v < B64) :
    bits .xor .u64 (IntKind.u64.wrap (bits .xor .u64 (h : Int) (v : Int) * 11400714819323198485)) (IntKind.u64.wrap (bits .xor .u64 (h : Int) (v : Int) * 11400714819323198485) / 536870912) = (stepN h v : Int) := by
  have e1 : IntKind.u64.wrap (bits .xor .u64 (h : Int) (v : Int) * 11400714819323198485) = (mulN (h ^^^ v) : Int) := by
    rw [u64_xor_nat h v hh hv, IntKind.wrap_u64]
    unfold mulN KF B64
    omega
  have e2 : ((mulN (h ^^^ v) : Nat) : Int) / 536870912 = ((mulN (h ^^^ v) / 2 ^ 29 : Nat) : Int) := by omega
  rw [e1, e2, u64_xor_nat _ _ (mulN_lt _) (Nat.lt_of_le_of_lt (Nat.div_le_self _ _) (mulN_lt _))]
  rfl
theorem step_any (h v : Nat) (w : World) (hh : h < B64) (hv : v < B64) :
    Calls Try.prog 98 #[.int .u64 (h : Int), .int .u64 (v : Int)] w fun e w' => e = .returned (.int .u64 (stepN h v : Int)) ∧ w' = w := by
  have HS : Hid _ := step_val h v hh hv
  go_enter Try.func98, Try.ntmps98
  go_wp2
  go_ret
  exact ⟨ret_int HS.out, rfl⟩
theorem u64_low (h n : Nat) (hh : h < B64) (hn : n ≤ 63) :
    bits .and .u64 (h : Int) (IntKind.u64.wrap (IntKind.u64.wrap (2 ^ n) - 1)) = ((h % 2 ^ n : Nat) : Int) := by
  have h2 : (2 : Nat) ^ n ≤ 2 ^ 63 := Nat.pow_le_pow_right (by omega) hn
  have hp : 0 < (2 : Nat) ^ n := Nat.two_pow_pos n
  have e1 : ((2 : Int) ^ n) = ((2 ^ n : Nat) : Int) := by simp
  have e2 : IntKind.u64.wrap (IntKind.u64.wrap (2 ^ n) - 1) = ((2 ^ n - 1 : Nat) : Int) := by
    rw [e1, IntKind.wrap_u64, IntKind.wrap_u64]
    omega
  rw [e2, u64_and_nat _ _ hh (by omega), Nat.and_two_pow_sub_one_eq_mod]
theorem lowN_none {h : Nat} {k : Int} (h1 : k ≤ 0) : lowN h k = 0 := by unfold lowN; rw [if_pos h1]
theorem lowN_all {h : Nat} {k : Int} (h1 : 64 ≤ k) : lowN h k = h := by unfold lowN; rw [if_neg (by omega), if_pos h1]
theorem lowN_some {h : Nat} {k : Int} (h1 : ¬ k ≤ 0) (h2 : ¬ 64 ≤ k) : lowN h k = h % 2 ^ k.toNat := by unfold lowN; rw [if_neg h1, if_neg h2]
theorem lowest_any (h : Nat) (k : Int) (w : World) (hh : h < B64) :
    Calls Try.prog 99 #[.int .u64 (h : Int), .int .i64 k] w fun e w' => e = .returned (.int .u64 (lowN h k : Int)) ∧ w' = w := by
  by_cases h1 : k ≤ 0
  · rw [lowN_none h1]
    go_enter Try.func99, Try.ntmps99
    go_wp2
    go_ret
    exact ⟨rfl, rfl⟩
  · by_cases h2 : 64 ≤ k
    · rw [lowN_all h2]
      go_enter Try.func99, Try.ntmps99
      go_wp2
      go_ret
      exact ⟨rfl, rfl⟩
    · rw [lowN_some h1 h2]
      have HL : Hid _ := u64_low h k.toNat hh (by omega)
      go_enter Try.func99, Try.ntmps99
      go_wp2
      go_ret
      exact ⟨ret_int HL.out, rfl⟩

/-- A number of 64 bits with a sign, as its bits. -/
def objN (o : Int) : Nat := (o % 18446744073709551616).toNat
theorem objN_lt (o : Int) : objN o < B64 := by unfold objN B64; omega
theorem objN_val (o : Int) : IntKind.u64.wrap o = (objN o : Int) := by rw [IntKind.wrap_u64]; unfold objN; omega
/-- What stands in h behind so many rounds. -/
def HashRel (W : World) (x1 x2 x3 : Nat) (s t : Value) (w' : World) : Prop :=
  w' = W ∧ ((t = .int .i64 0 ∧ s = .int .u64 5903417616801668165) ∨ (t = .int .i64 1 ∧ s = .int .u64 (x1 : Int)) ∨ (t = .int .i64 2 ∧ s = .int .u64 (x2 : Int)) ∨ (t = .int .i64 3 ∧ s = .int .u64 (x3 : Int)))
theorem step_at {y x : Int} {h v : Nat} (w : World) (r : Nat) (hr : r = stepN h v) (hy : y = (h : Int)) (hx : x = (v : Int)) (hh : h < B64) (hv : v < B64) :
    Calls Try.prog 98 #[.int .u64 y, .int .u64 x] w fun e w' => e = .returned (.int .u64 (r : Int)) ∧ w' = w := by
  subst hy hx hr; exact step_any h v w hh hv
theorem start_val : (5903417616801668165 : Int) = ((5903417616801668165 : Nat) : Int) := rfl
theorem start_lt : (5903417616801668165 : Nat) < B64 := by decide
set_option maxRecDepth 100000 in
set_option maxHeartbeats 1000000 in
theorem hash_walk (o : Int) (n a b x1 x2 x3 : Nat) (k : Int) (w : World) (ha : a < B64) (hb : b < B64) (hn : n < B64)
    (h1 : x1 < B64) (h2 : x2 < B64) (h3 : x3 < B64) (ho : Hid (IntKind.u64.wrap o = (n : Int))) (e1 : Hid (x1 = stepN 5903417616801668165 n)) (e2 : Hid (x2 = stepN x1 a)) (e3 : Hid (x3 = stepN x2 b)) :
    Calls Try.prog 95 #[.int .i64 o, .agg #[.int .u64 (a : Int), .int .u64 (b : Int)], .int .i64 k] w fun e w' => e = .returned (.int .u64 (lowN x3 k : Int)) ∧ Below w.heap.size w w' := by
  go_enter Try.func95, Try.ntmps95
  go_wp2
  go_step3
  go_wp2
  go_step3
  go_wp2
  go_loopw [7, 8] (HashRel (w.alloc (Obj.cells #[.int .u64 (a : Int), .int .u64 (b : Int)] 30)) x1 x2 x3) (fun _ t _ => (3 - intOf t).toNat)
  case atStart => exact ⟨rfl, .inl ⟨rfl, rfl⟩⟩
  case round =>
    obtain ⟨rfl, ⟨rfl, rfl⟩ | ⟨rfl, rfl⟩ | ⟨rfl, rfl⟩ | ⟨rfl, rfl⟩⟩ := hrel
    · go_wp2_with (first | (go_at_call 98; refine (step_at _ x1 e1.out start_val ho.out start_lt hn).mono ?_; rintro e w1 ⟨rfl, rfl⟩))
      go_roundw
      case rel => exact ⟨rfl, .inr (.inl ⟨rfl, rfl⟩)⟩
      case measure => simp [intOf]
    · go_wp2_with (first | (go_at_call 98; refine (step_at _ x2 e2.out rfl rfl h1 ha).mono ?_; rintro e w1 ⟨rfl, rfl⟩))
      go_roundw
      case rel => exact ⟨rfl, .inr (.inr (.inl ⟨rfl, rfl⟩))⟩
      case measure => simp [intOf]
    · go_wp2_with (first | (go_at_call 98; refine (step_at _ x3 e3.out rfl rfl h2 hb).mono ?_; rintro e w1 ⟨rfl, rfl⟩))
      go_roundw
      case rel => exact ⟨rfl, .inr (.inr (.inr ⟨rfl, rfl⟩))⟩
      case measure => simp [intOf]
    · go_wp2_with (first | (go_at_call 99; refine (lowest_any _ _ _ h3).mono ?_; rintro e w1 ⟨rfl, rfl⟩))
      try rw [Exit.noGoto_ret]
      go_ret
      exact ⟨rfl, below1 _ _⟩
theorem hash_any (o : Int) (a b : Nat) (k : Int) (w : World) (ha : a < B64) (hb : b < B64) :
    Calls Try.prog 95 #[.int .i64 o, .agg #[.int .u64 (a : Int), .int .u64 (b : Int)], .int .i64 k] w fun e w' => e = .returned (.int .u64 (lowN (hashN (objN o) a b) k : Int)) ∧ Below w.heap.size w w' :=
  hash_walk o (objN o) a b _ _ (hashN (objN o) a b) k w ha hb (objN_lt o) (stepN_lt _ _) (stepN_lt _ _) (hashN_lt _ _ _) (objN_val o) rfl rfl rfl
end Go.Proofs.Ytlelglfdamakaaa.K
