import Derived.Test.YtcafmhlnfkgegaaW3
namespace Go.Proofs.Ytcafmhlnfkgegaa
open Go.RowKit

/-- Byte number i of a number; the sixteen of a word. -/
def byteN (N i : Nat) : Nat := N / 256 ^ i % 256
def bytesOf (N : Nat) : List Nat := (List.range 16).map (byteN N)
def u8s (l : List Nat) : List Value := l.map fun (n : Nat) => Value.int .u8 (n : Int)

theorem byteN_lt (N i : Nat) : byteN N i < 256 := Nat.mod_lt _ (by decide)
theorem bytesOf_length (N : Nat) : (bytesOf N).length = 16 := by simp [bytesOf]
theorem byte_lo {a b N : Nat} (h : IsW a b N) {i : Nat} (hi : i < 8) : ((b : Int) / 2 ^ (8 * i) % 256) = (byteN N i : Int) := by
  have e1 : ((2 : Int) ^ (8 * i)) = ((2 ^ (8 * i) : Nat) : Int) := by simp
  have e2 : (256 : Nat) ^ i = 2 ^ (8 * i) := by rw [Nat.pow_mul]
  rw [e1]
  unfold byteN
  rw [e2, h.hn]
  obtain ⟨j, hj⟩ : ∃ j, B64 = 2 ^ (8 * i) * (256 * 2 ^ j) := ⟨64 - 8 * i - 8, by
    have : (256 : Nat) = 2 ^ 8 := rfl
    rw [this, ← Nat.pow_add, ← Nat.pow_add, B64_eq]; congr 1; omega⟩
  have hp : 0 < 2 ^ (8 * i) := Nat.two_pow_pos _
  have e3 : (a * B64 + b) / 2 ^ (8 * i) % 256 = b / 2 ^ (8 * i) % 256 := by
    rw [hj, Nat.add_comm, Nat.mul_comm a, Nat.mul_assoc, Nat.add_mul_div_left _ _ hp, Nat.mul_assoc, Nat.add_mul_mod_self_left]
  rw [e3]
  simp
theorem byte_hi {a b N : Nat} (h : IsW a b N) {i : Nat} : ((a : Int) / 2 ^ (8 * i) % 256) = (byteN N (8 + i) : Int) := by
  have e1 : ((2 : Int) ^ (8 * i)) = ((2 ^ (8 * i) : Nat) : Int) := by simp
  have e2 : (256 : Nat) ^ (8 + i) = B64 * 2 ^ (8 * i) := by
    rw [Nat.pow_add, B64_eq]
    have : (256 : Nat) = 2 ^ 8 := rfl
    rw [this, ← Nat.pow_mul, ← Nat.pow_mul]
  rw [e1]
  unfold byteN
  rw [e2, h.hn, ← Nat.div_div_eq_div_mul]
  have e4 : (a * B64 + b) / B64 = a := by
    rw [Nat.add_comm, Nat.add_mul_div_right _ _ (by decide), Nat.div_eq_of_lt h.hb, Nat.zero_add]
  rw [e4]
  simp

/-- The block's cells behind lay8. -/
def layA (cs : Array Value) (o h : Nat) : Nat → Array Value
  | 0 => cs
  | k + 1 => (layA cs o h k).setIfInBounds (o + k) (.int .u8 ((h : Int) / 2 ^ (8 * k) % 256))
theorem heap_lay8 {w : World} {g : Nat} {cs : Array Value} {t : TypeId} (hg : w.heap[g]? = some (.cells cs t (0, 0))) (o h : Nat) : ∀ k, (lay8 w g o h k).heap[g]? = some (.cells (layA cs o h k) t (0, 0))
  | 0 => hg
  | k + 1 => heap_setCell_same _ _ _ _ _ _ (heap_lay8 hg o h k)
theorem below_lay8 {B : Nat} {w0 w : World} {g : Nat} (hb : Below B w0 w) (hg : B ≤ g) (o h : Nat) : ∀ k, Below B w0 (lay8 w g o h k)
  | 0 => hb
  | k + 1 => (below_lay8 hb hg o h k).setCell hg _
theorem layA_size (cs : Array Value) (o h : Nat) : ∀ k, (layA cs o h k).size = cs.size
  | 0 => rfl
  | k + 1 => by unfold layA; rw [Array.size_setIfInBounds]; exact layA_size cs o h k
theorem layA_get (cs : Array Value) (o h i : Nat) (hi : i < cs.size) : ∀ k, (layA cs o h k)[i]? = if o ≤ i ∧ i < o + k then some (.int .u8 ((h : Int) / 2 ^ (8 * (i - o)) % 256)) else cs[i]?
  | 0 => by unfold layA; rw [if_neg (by omega)]
  | k + 1 => by
    unfold layA
    rw [Array.getElem?_setIfInBounds, layA_get cs o h i hi k, layA_size]
    by_cases h1 : o + k = i
    · subst h1
      rw [if_pos rfl, if_pos hi, if_pos (by omega), Nat.add_sub_cancel_left]
    · rw [if_neg h1]
      by_cases h2 : o ≤ i ∧ i < o + k
      · rw [if_pos h2, if_pos (by omega)]
      · rw [if_neg h2, if_neg (by omega)]
theorem u8s_get (l : List Nat) (i : Nat) : (u8s l).toArray[i]? = l[i]?.map fun (n : Nat) => Value.int .u8 (n : Int) := by simp [u8s]
theorem bytesOf_get (N i : Nat) (h : i < 16) : (bytesOf N)[i]? = some (byteN N i) := by simp [bytesOf, h]
theorem zero16_size : zero16.size = 16 := by simp [zero16]
theorem layA_all {a b N : Nat} (h : IsW a b N) : layA (layA zero16 0 b 8) 8 a 8 = (u8s (bytesOf N)).toArray := by
  have hs : (layA (layA zero16 0 b 8) 8 a 8).size = 16 := by rw [layA_size, layA_size, zero16_size]
  apply Array.ext_getElem?
  intro i
  by_cases hi : i < 16
  · rw [layA_get _ _ _ _ (by rw [layA_size, zero16_size]; exact hi), layA_get _ _ _ _ (by rw [zero16_size]; exact hi), u8s_get, bytesOf_get _ _ hi]
    by_cases h1 : 8 ≤ i
    · rw [if_pos (by omega)]
      have := byte_hi h (i := i - 8)
      rw [show 8 + (i - 8) = i by omega] at this
      rw [this]; rfl
    · rw [if_neg (by omega), if_pos (by omega), Nat.sub_zero, byte_lo h (by omega)]; rfl
  · rw [Array.getElem?_eq_none (by omega), Array.getElem?_eq_none]
    simp [u8s, bytesOf]; omega

theorem heap_two (w : World) (A B : Obj) : ((w.alloc A).alloc B).heap[w.heap.size + 1]? = some B := by
  show ((w.heap.push A).push B)[w.heap.size + 1]? = some B
  rw [Array.getElem?_push, if_pos (by simp)]

theorem heap_lay8_drew {w : World} {g : Nat} {cs : Array Value} {t : TypeId} (hg : w.heap[g]? = some (.cells cs t (0, 0))) (o h k : Nat) : (lay8 w.drew g o h k).heap[g]? = some (.cells (layA cs o h k) t (0, 0)) :=
  heap_lay8 (w := w.drew) (show w.heap[g]? = _ from hg) o h k

theorem bytes_any (a b : Int) (N : Nat) (w : World) (h : IsV a b N) :
    Calls Try.prog 12 #[.agg #[.int .u64 a, .int .u64 b]] w fun e w' => ∃ g, e = .returned (.slice (some ⟨g, 0, none⟩) 16 16) ∧ w.heap.size ≤ g ∧ w'.heap[g]? = some (.cells (u8s (bytesOf N)).toArray 5 (0, 0)) ∧ Below w.heap.size w w' := by
  obtain ⟨a, b, rfl, rfl, h⟩ := h
  refine (bytes_raw a b w).mono ?_
  rintro e w' ⟨rfl, rfl⟩
  have k1 := heap_lay8_drew (heap_two w (Obj.cells #[Value.int IntKind.u64 a, Value.int IntKind.u64 b] 24) (.cells zero16 5)) 0 b 8
  have k2 := heap_lay8_drew k1 8 a 8
  rw [layA_all h] at k2
  have b1 := below_lay8 (below2 w (Obj.cells #[Value.int IntKind.u64 a, Value.int IntKind.u64 b] 24) (.cells zero16 5)).drew (Nat.le_succ w.heap.size) 0 b 8
  have b2 := below_lay8 b1.drew (Nat.le_succ w.heap.size) 8 a 8
  exact ⟨w.heap.size + 1, rfl, Nat.le_succ _, k2, b2⟩
end Go.Proofs.Ytcafmhlnfkgegaa
