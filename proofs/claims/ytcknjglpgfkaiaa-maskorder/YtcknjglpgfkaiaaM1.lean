import Derived.Laws.Bits128
import Derived.Laws.BitsAllLaws
namespace Go.Proofs.Ytcknjglpgfkaiaa

/-! ### Bits -/
/-- The five lowest bits of a number's 64. -/
theorem i64_and31 (n : Int) : bits .and .i64 n 31 = n % 32 := by
  have hv : (BitVec.ofInt 64 n).toNat = (n % 18446744073709551616).toNat := BitVec.toNat_ofInt ..
  have h31 : (BitVec.ofInt 64 31).toNat = 31 := rfl
  have hb : bits .and .i64 n 31 = IntKind.i64.wrap (((BitVec.ofInt 64 n).toNat &&& (BitVec.ofInt 64 31).toNat : Nat) : Int) := by
    rw [← BitVec.toNat_and]; rfl
  rw [hb, h31, nat_mask5, hv, IntKind.wrap_i64]
  omega
theorem i64_and_nat (a b : Nat) (ha : a < 32) (hb : b < 32) : bits .and .i64 (a : Int) (b : Int) = ((a &&& b : Nat) : Int) := by
  have hx : a &&& b < 2 ^ 5 := Nat.and_lt_two_pow _ (by omega)
  show IntKind.i64.wrap ((BitVec.ofInt 64 (a : Int) &&& BitVec.ofInt 64 (b : Int)).toNat : Int) = _
  rw [BitVec.toNat_and, BitVec.ofInt_natCast, BitVec.ofInt_natCast, BitVec.toNat_ofNat, BitVec.toNat_ofNat, Nat.mod_eq_of_lt (a := a) (by omega), Nat.mod_eq_of_lt (a := b) (by omega), IntKind.wrap_i64]
  omega

/-! ### Masks -/
/-- Is the number a mask? -/
def validB (r : Int) : Bool := decide (1 ≤ r ∧ r ≤ 31)
theorem valid_nat {r : Int} (h : validB r = true) : ∃ n : Nat, r = (n : Int) ∧ 1 ≤ n ∧ n < 32 := by
  unfold validB at h
  have := of_decide_eq_true h
  exact ⟨r.toNat, by omega, by omega, by omega⟩
theorem valid_of {n : Nat} (h0 : 1 ≤ n) (h : n < 32) : validB (n : Int) = true := decide_eq_true (by omega)
/-- The right number i. -/
def hasB (n i : Nat) : Bool := decide (n / 2 ^ i % 2 = 1)
/-- Are all rights of a among those of b? -/
def subN (a b : Nat) : Bool := decide (a &&& b = a)
def partB (a b : Int) : Bool := validB a && validB b && subN a.toNat b.toNat
theorem sub_rights : ∀ a, a < 32 → ∀ b, b < 32 → subN a b = (List.range 5).all (fun i => !hasB a i || hasB b i) := by decide +kernel
theorem has_and : ∀ n, n < 32 → ∀ i, i < 5 → (decide (n &&& 2 ^ i = 0)) = !hasB n i := by decide +kernel

/-! ### Names -/
def letL : List Nat := [114, 119, 100, 118, 120]
def letN (i : Nat) : Nat := letL[i]?.getD 0
def nameL (n : Nat) : Nat → List Nat
  | 0 => []
  | k + 1 => nameL n k ++ (if hasB n k then [letN k] else [])
theorem nameL_len (n k : Nat) : (nameL n k).length ≤ k := by
  induction k with
  | zero => simp [nameL]
  | succ k ih => rw [nameL, List.length_append]; split <;> simp <;> omega
def nameI (r : Int) : List Nat := if r = 0 then [45] else if validB r = true then nameL r.toNat 5 else []
def strB (l : List Nat) : ByteArray := ⟨(l.map UInt8.ofNat).toArray⟩
def nameB (r : Int) : ByteArray := strB (nameI r)
def natsOf (s : ByteArray) : List Nat := s.data.toList.map (·.toNat)
theorem strB_natsOf (s : ByteArray) : strB (natsOf s) = s := by
  unfold strB natsOf
  apply ByteArray.ext
  apply Array.toList_inj.1
  simp only [List.map_map]
  conv => rhs; rw [← List.map_id s.data.toList]
  apply List.map_congr_left
  intro x _
  simp
theorem natsOf_strB {l : List Nat} (h : ∀ x ∈ l, x < 256) : natsOf (strB l) = l := by
  unfold natsOf strB
  simp only [List.map_map]
  conv => rhs; rw [← List.map_id l]
  apply List.map_congr_left
  intro x hx
  have := h x hx
  simp only [Function.comp, id]
  rw [UInt8.toNat_ofNat']
  exact Nat.mod_eq_of_lt this
theorem name_small : ∀ n, n < 32 → (nameI ((n : Nat) : Int)).all (fun x => decide (x < 256)) = true := by decide +kernel
theorem name_inj : ∀ n, n < 32 → ∀ m, m < 32 → nameI ((n : Nat) : Int) = nameI ((m : Nat) : Int) → n = m := by decide +kernel
theorem name_nats {n : Nat} (h : n < 32) : natsOf (nameB (n : Int)) = nameI (n : Int) :=
  natsOf_strB fun x hx => of_decide_eq_true (List.all_eq_true.1 (name_small n h) x hx)
theorem nameB_inj {n m : Nat} (h : n < 32) (k : m < 32) (e : nameB (n : Int) = nameB (m : Int)) : n = m := by
  have := congrArg natsOf e
  rw [name_nats h, name_nats k] at this
  exact name_inj n h m k this

/-! ### Reading -/
/-- The mask whose name it is. -/
structure Reads (s : ByteArray) (v e : Int) : Prop where
  hit : (∃ n : Nat, n < 32 ∧ v = (n : Int) ∧ e = 0 ∧ nameB (n : Int) = s) ∨ (v = 0 ∧ e = 22 ∧ ∀ n : Nat, n < 32 → nameB (n : Int) ≠ s)
theorem Reads.inj {s : ByteArray} {v e v' e' : Int} (h : Reads s v e) (k : Reads s v' e') : v = v' ∧ e = e' := by
  rcases h.hit with ⟨n, hn, rfl, rfl, h1⟩ | ⟨rfl, rfl, h1⟩
  · rcases k.hit with ⟨m, hm, rfl, rfl, h2⟩ | ⟨rfl, rfl, h2⟩
    · have := nameB_inj hn hm (h1.trans h2.symm)
      subst this
      exact ⟨rfl, rfl⟩
    · exact absurd h1 (h2 n hn)
  · rcases k.hit with ⟨m, hm, rfl, rfl, h2⟩ | ⟨rfl, rfl, h2⟩
    · exact absurd h2 (h1 m hm)
    · exact ⟨rfl, rfl⟩
theorem Reads.name {n : Nat} (h : n < 32) : Reads (nameB (n : Int)) (n : Int) 0 := ⟨.inl ⟨n, h, rfl, rfl, rfl⟩⟩

/-! ### Part is an order, by the letters -/
theorem part_nat {a b : Nat} (ha : a < 32) (hb : b < 32) : partB (a : Int) (b : Int) = (decide (a ≠ 0) && decide (b ≠ 0) && subN a b) := by
  unfold partB validB
  congr 2
  · rw [decide_eq_decide]; omega
  · rw [decide_eq_decide]; omega
theorem part_anti {a b : Nat} (ha : a < 32) (hb : b < 32) (h : partB (a : Int) (b : Int) = true) (k : partB (b : Int) (a : Int) = true) : a = b := by
  rw [part_nat ha hb] at h
  rw [part_nat hb ha] at k
  simp only [Bool.and_eq_true, subN, decide_eq_true_eq] at h k
  rw [← h.2, Nat.and_comm]
  exact k.2
theorem part_trans {a b c : Nat} (ha : a < 32) (hb : b < 32) (hc : c < 32) (h : partB (a : Int) (b : Int) = true) (k : partB (b : Int) (c : Int) = true) : partB (a : Int) (c : Int) = true := by
  rw [part_nat ha hb] at h
  rw [part_nat hb hc] at k
  rw [part_nat ha hc]
  simp only [Bool.and_eq_true, subN, decide_eq_true_eq] at h k ⊢
  exact ⟨⟨h.1.1, k.1.2⟩, by rw [← h.2, Nat.and_assoc, k.2]⟩
theorem part_letters : ∀ a, a < 32 → ∀ b, b < 32 → partB ((a : Nat) : Int) ((b : Nat) : Int) = (decide (a ≠ 0) && decide (b ≠ 0) && (nameI ((a : Nat) : Int)).all (fun x => (nameI ((b : Nat) : Int)).any (fun y => decide (x = y)))) := by decide +kernel
theorem part_self : ∀ a, a < 32 → a ≠ 0 → partB ((a : Nat) : Int) ((a : Nat) : Int) = true ∧ partB ((a : Nat) : Int) 31 = true := by decide +kernel
theorem part_zero (b : Int) : partB 0 b = false ∧ partB b 0 = false := by
  constructor
  · simp [partB, validB]
  · simp [partB, validB]
end Go.Proofs.Ytcknjglpgfkaiaa
