import Derived.Test.YthfmmfphnimlnaaA2
import Derived.Test.YthfmmfphnimlnaaCB
import Derived.Test.YthfmmfphnimlnaaRows
import Derived.Laws.BitsAllLaws
import Derived.WalkKit
import Derived.WalkSpells
import Derived.WalkLawsBesides
import Derived.Deep.RegionHeld3
import Derived.Deep.QuietTactic
import Derived.BigQuiet
namespace Go.Proofs.Ythfmmfphnimlnaa.W
theorem B64_eq : B64 = 2 ^ 64 := rfl
structure IsW (a b N : Nat) : Prop where
  ha : a < B64
  hb : b < B64
  hn : N = a * B64 + b
theorem IsW.of {N : Nat} (h : N < B64 * B64) : IsW (N / B64) (N % B64) N :=
  ⟨Nat.div_lt_of_lt_mul h, Nat.mod_lt _ (by decide), by rw [Nat.mul_comm]; exact (Nat.div_add_mod N B64).symm⟩
theorem IsW.inj {a b c d N : Nat} (h : IsW a b N) (k : IsW c d N) : a = c ∧ b = d := by
  obtain ⟨ha, hb, hn⟩ := h
  obtain ⟨hc, hd, hm⟩ := k
  unfold B64 at *
  omega
theorem IsW.inj' {a b N M : Nat} (h : IsW a b N) (k : IsW a b M) : N = M := by rw [h.hn, k.hn]
theorem IsW.zero : IsW 0 0 0 := ⟨by decide, by decide, rfl⟩
theorem IsW.eq_iff {a b c d N M : Nat} (h : IsW a b N) (k : IsW c d M) : N = M ↔ a = c ∧ b = d := by
  constructor
  · rintro rfl; exact h.inj k
  · rintro ⟨rfl, rfl⟩; exact h.inj' k
structure IsV (a b : Int) (N : Nat) : Prop where
  ex : ∃ x y : Nat, a = x ∧ b = y ∧ IsW x y N
theorem IsV.of {a b N : Nat} (h : IsW a b N) : IsV a b N := ⟨a, b, rfl, rfl, h⟩
theorem IsV.zero : IsV 0 0 0 := ⟨0, 0, rfl, rfl, IsW.zero⟩
def wEq (a b c d : Int) : Bool := decide (a = c) && decide (b = d)
theorem wEq_of {a b c d : Int} {N M : Nat} (h : IsV a b N) (k : IsV c d M) : wEq a b c d = decide (N = M) := by
  obtain ⟨x, y, rfl, rfl, h⟩ := h
  obtain ⟨z, u, rfl, rfl, k⟩ := k
  unfold wEq
  rw [← Bool.decide_and, decide_eq_decide]
  have := h.eq_iff k
  omega
theorem IsV.inj {a b c d : Int} {N : Nat} (h : IsV a b N) (k : IsV c d N) : a = c ∧ b = d := by
  have := wEq_of h k
  simp only [wEq, decide_true, Bool.and_eq_true, decide_eq_true_eq] at this
  exact this
end Go.Proofs.Ythfmmfphnimlnaa.W
namespace Go.Proofs.Ythfmmfphnimlnaa.W
open Go.RowKit
theorem below_call {w W w1 : World} (h : Below w.heap.size w W) (hb : Below W.heap.size W w1) : Below w.heap.size w w1 := h.trans (hb.mono h.size)
end Go.Proofs.Ythfmmfphnimlnaa.W
namespace Go.Proofs.Ythfmmfphnimlnaa.W
open Go.RowKit
end Go.Proofs.Ythfmmfphnimlnaa.W
namespace Go.Proofs.Ythfmmfphnimlnaa.W
open Go.RowKit
def lay8 (w : World) (g o h : Nat) : Nat → World
  | 0 => w
  | k + 1 => (lay8 w g o h k).setCell ⟨g, o + k, none⟩ (.int .u8 ((h : Int) / 2 ^ (8 * k) % 256))
theorem _root_.Go.Proofs.Ythfmmfphnimlnaa.Lies.setCell {w : World} {p q : Addr} {u v : Value} (h : Lies w p v) : ∃ v', Lies (w.setCell q u) p v' := by
  obtain ⟨v', hv'⟩ := cell?_setCell_some (w := w) (p := q) (x := u) (q := p) (v := v) h.1
  exact ⟨v', hv', by rw [World.frozen?_setCell]; exact h.2⟩
theorem lies_lay8 {w : World} {g o h : Nat} (hc : ∀ i, i < 8 → ∃ v, Lies w ⟨g, o + i, none⟩ v) (k : Nat) : ∀ i, i < 8 → ∃ v, Lies (lay8 w g o h k) ⟨g, o + i, none⟩ v := by
  induction k with
  | zero => exact hc
  | succ k ih =>
    intro i hi
    obtain ⟨v, hv⟩ := ih i hi
    exact hv.setCell
def zero16 : Array Value := Array.replicate 16 (.int .u8 0)
theorem make16 (w : World) : (Instr.makeSlice 30 (.int .i64 16) (.int .i64 16)).run Try.prog w = .ok (.slice (some ⟨w.heap.size, 0, none⟩) 16 16) (w.alloc (.cells zero16 5)) := by kernel_rfl
theorem zero16_at {i : Nat} (h : i < 16) : zero16[i]? = some (.int .u8 0) := by
  simp [zero16, h]
theorem lies_new {w : World} {c : Array Value} {t : TypeId} {i : Nat} {v : Value} (h : c[i]? = some v) : Lies (w.alloc (.cells c t)) ⟨w.heap.size, i, none⟩ v :=
  ⟨by simp [go_sem, h], by simp [go_sem]⟩
theorem _root_.Go.Proofs.Ythfmmfphnimlnaa.Lies.drew {w : World} {p : Addr} {v : Value} (h : Lies w p v) : Lies w.drew p v := h
theorem lay8_other {w : World} {g o h : Nat} {p : Addr} (hp : p.block ≠ g) : ∀ k, (lay8 w g o h k).cell? p = w.cell? p
  | 0 => rfl
  | k + 1 => by
    show ((lay8 w g o h k).setCell _ _).cell? p = _
    rw [World.cell?_setCell_other _ _ _ _ (fun e => hp (by rw [← e]))]
    exact lay8_other hp k
theorem lies_lay (w : World) (g o h : Nat) {p : Addr} {v : Value} (hp : Lies w p v) : ∀ k, ∃ v', Lies (lay8 w g o h k) p v'
  | 0 => ⟨v, hp⟩
  | k + 1 => by
    obtain ⟨v', hv'⟩ := lies_lay w g o h hp k
    exact hv'.setCell
theorem lies_zero (w : World) (A : Obj) (i : Nat) (h : i < 16) : Lies ((w.alloc A).alloc (.cells zero16 5)) ⟨w.heap.size + 1, i, none⟩ (.int .u8 0) := by
  have := lies_new (w := w.alloc A) (t := 5) (zero16_at h)
  simpa using this
end Go.Proofs.Ythfmmfphnimlnaa.W
namespace Go.Proofs.Ythfmmfphnimlnaa.W
open Go.RowKit
def byteN (N i : Nat) : Nat := N / 256 ^ i % 256
def bytesOf (N : Nat) : List Nat := (List.range 16).map (byteN N)
theorem byteN_lt (N i : Nat) : byteN N i < 256 := Nat.mod_lt _ (by decide)
theorem bytesOf_length (N : Nat) : (bytesOf N).length = 16 := by simp [bytesOf]
theorem byte_lo {a b N : Nat} (h : IsW a b N) {i : Nat} (hi : i < 8) : ((b : Int) / 2 ^ (8 * i) % 256) = (byteN N i : Int) := by
  have e1 : ((2 : Int) ^ (8 * i)) = ((2 ^ (8 * i) : Nat) : Int) := by simp
  have e2 : (256 : Nat) ^ i = 2 ^ (8 * i) := by rw [Nat.pow_mul]
  rw [e1]
  unfold byteN
  rw [e2, h.hn]
  obtain ⟨j, hj⟩ : ∃ j, B64 = 2 ^ (8 * i) * (256 * 2 ^ j) := ⟨64 - 8 * i - 8, by
    have : (256 : Nat) = 2 ^ 8 := rfl
    rw [this, ← Nat.pow_add, ← Nat.pow_add, B64_eq]; congr 1; omega⟩
  have hp : 0 < 2 ^ (8 * i) := Nat.two_pow_pos _
  have e3 : (a * B64 + b) / 2 ^ (8 * i) % 256 = b / 2 ^ (8 * i) % 256 := by
    rw [hj, Nat.add_comm, Nat.mul_comm a, Nat.mul_assoc, Nat.add_mul_div_left _ _ hp, Nat.mul_assoc, Nat.add_mul_mod_self_left]
  rw [e3]
  simp
theorem byte_hi {a b N : Nat} (h : IsW a b N) {i : Nat} : ((a : Int) / 2 ^ (8 * i) % 256) = (byteN N (8 + i) : Int) := by
  have e1 : ((2 : Int) ^ (8 * i)) = ((2 ^ (8 * i) : Nat) : Int) := by simp
  have e2 : (256 : Nat) ^ (8 + i) = B64 * 2 ^ (8 * i) := by
    rw [Nat.pow_add, B64_eq]
    have : (256 : Nat) = 2 ^ 8 := rfl
    rw [this, ← Nat.pow_mul, ← Nat.pow_mul]
  rw [e1]
  unfold byteN
  rw [e2, h.hn, ← Nat.div_div_eq_div_mul]
  have e4 : (a * B64 + b) / B64 = a := by
    rw [Nat.add_comm, Nat.add_mul_div_right _ _ (by decide), Nat.div_eq_of_lt h.hb, Nat.zero_add]
  rw [e4]
  simp
def layA (cs : Array Value) (o h : Nat) : Nat → Array Value
  | 0 => cs
  | k + 1 => (layA cs o h k).setIfInBounds (o + k) (.int .u8 ((h : Int) / 2 ^ (8 * k) % 256))
theorem heap_lay8 {w : World} {g : Nat} {cs : Array Value} {t : TypeId} (hg : w.heap[g]? = some (.cells cs t (0, 0))) (o h : Nat) : ∀ k, (lay8 w g o h k).heap[g]? = some (.cells (layA cs o h k) t (0, 0))
  | 0 => hg
  | k + 1 => heap_setCell_same _ _ _ _ _ _ (heap_lay8 hg o h k)
theorem below_lay8 {B : Nat} {w0 w : World} {g : Nat} (hb : Below B w0 w) (hg : B ≤ g) (o h : Nat) : ∀ k, Below B w0 (lay8 w g o h k)
  | 0 => hb
  | k + 1 => (below_lay8 hb hg o h k).setCell hg _
theorem layA_size (cs : Array Value) (o h : Nat) : ∀ k, (layA cs o h k).size = cs.size
  | 0 => rfl
  | k + 1 => by unfold layA; rw [Array.size_setIfInBounds]; exact layA_size cs o h k
theorem layA_get (cs : Array Value) (o h i : Nat) (hi : i < cs.size) : ∀ k, (layA cs o h k)[i]? = if o ≤ i ∧ i < o + k then some (.int .u8 ((h : Int) / 2 ^ (8 * (i - o)) % 256)) else cs[i]?
  | 0 => by unfold layA; rw [if_neg (by omega)]
  | k + 1 => by
    unfold layA
    rw [Array.getElem?_setIfInBounds, layA_get cs o h i hi k, layA_size]
    by_cases h1 : o + k = i
    · subst h1
      rw [if_pos rfl, if_pos hi, if_pos (by omega), Nat.add_sub_cancel_left]
    · rw [if_neg h1]
      by_cases h2 : o ≤ i ∧ i < o + k
      · rw [if_pos h2, if_pos (by omega)]
      · rw [if_neg h2, if_neg (by omega)]
theorem u8s_get (l : List Nat) (i : Nat) : (u8s l).toArray[i]? = l[i]?.map fun (n : Nat) => Value.int .u8 (n : Int) := by simp [u8s]
theorem bytesOf_get (N i : Nat) (h : i < 16) : (bytesOf N)[i]? = some (byteN N i) := by simp [bytesOf, h]
theorem zero16_size : zero16.size = 16 := by simp [zero16]
theorem layA_all {a b N : Nat} (h : IsW a b N) : layA (layA zero16 0 b 8) 8 a 8 = (u8s (bytesOf N)).toArray := by
  have hs : (layA (layA zero16 0 b 8) 8 a 8).size = 16 := by rw [layA_size, layA_size, zero16_size]
  apply Array.ext_getElem?
  intro i
  by_cases hi : i < 16
  · rw [layA_get _ _ _ _ (by rw [layA_size, zero16_size]; exact hi), layA_get _ _ _ _ (by rw [zero16_size]; exact hi), u8s_get, bytesOf_get _ _ hi]
    by_cases h1 : 8 ≤ i
    · rw [if_pos (by omega)]
      have := byte_hi h (i := i - 8)
      rw [show 8 + (i - 8) = i by omega] at this
      rw [this]; rfl
    · rw [if_neg (by omega), if_pos (by omega), Nat.sub_zero, byte_lo h (by omega)]; rfl
  · rw [Array.getElem?_eq_none (by omega), Array.getElem?_eq_none]
    simp [u8s, bytesOf]; omega
theorem heap_two (w : World) (A B : Obj) : ((w.alloc A).alloc B).heap[w.heap.size + 1]? = some B := by
  show ((w.heap.push A).push B)[w.heap.size + 1]? = some B
  rw [Array.getElem?_push, if_pos (by simp)]
theorem heap_lay8_drew {w : World} {g : Nat} {cs : Array Value} {t : TypeId} (hg : w.heap[g]? = some (.cells cs t (0, 0))) (o h k : Nat) : (lay8 w.drew g o h k).heap[g]? = some (.cells (layA cs o h k) t (0, 0)) :=
  heap_lay8 (w := w.drew) (show w.heap[g]? = _ from hg) o h k
end Go.Proofs.Ythfmmfphnimlnaa.W
