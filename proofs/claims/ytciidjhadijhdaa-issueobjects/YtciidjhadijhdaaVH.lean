import Derived.Test.YtciidjhadijhdaaVD
namespace Go.Proofs.Ytciidjhadijhdaa
open Go.RowKit Go.Shelf H
set_option linter.unusedVariables false

/-! ### Lists filled one by one -/
/-- How many ahead of k. -/
def cntF (p : Int → Bool) (k : Nat) : Nat := ((firsts k).filter p).length
theorem cntF_succ (p : Int → Bool) (k : Nat) : cntF p (k + 1) = cntF p k + (if p (k : Int) = true then 1 else 0) := by
  unfold cntF
  rw [firsts_succ, List.filter_append, List.length_append]
  congr 1
  by_cases h : p (k : Int) = true
  · rw [if_pos h]; simp [h]
  · rw [if_neg h]; simp [h]
theorem cntF_le (p : Int → Bool) (k : Nat) : cntF p k ≤ k := by
  have := List.length_filter_le p (firsts k)
  rw [firsts_len] at this
  exact this
theorem cntF_all {m : Nat} {A : List Int} (hn : A.Nodup) (hr : ∀ x ∈ A, 0 ≤ x ∧ x < (m : Int)) : cntF (fun x => decide (x ∈ A)) m = A.length := by
  refine same_len (List.Nodup.sublist List.filter_sublist (firsts_nodup m)) hn (fun x => ?_)
  rw [List.mem_filter, mem_firsts, decide_eq_true_eq]
  exact ⟨fun h => h.2, fun h => ⟨hr x h, h⟩⟩
def set5o (w : World) (b o : Nat) (c : Tok) : World :=
  ((((w.setCell ⟨b, o, none⟩ (.int .i64 c.1.1)).setCell ⟨b, o + 1, none⟩ (.int .u64 (c.1.2.1 : Int))).setCell ⟨b, o + 2, none⟩ (.int .u64 (c.1.2.2 : Int))).setCell ⟨b, o + 3, none⟩ (.int .i64 c.2.1)).setCell ⟨b, o + 4, none⟩ (.int .i64 c.2.2)
theorem Cet.off {w : World} {b o o' : Nat} {x : Tok} {u : Value} (h : Cet w b o x) (hne : o' < o ∨ o + 5 ≤ o') : Cet (w.setCell ⟨b, o', none⟩ u) b o x :=
  ⟨cell_ne h.c0 (by omega), cell_ne h.c1 (by omega), cell_ne h.c2 (by omega), cell_ne h.c3 (by omega), cell_ne h.c4 (by omega)⟩
theorem Cet.set {w : World} {b o : Nat} {y : Tok} (h : Cet w b o y) (x : Tok) : Cet (set5o w b o x) b o x := by
  unfold set5o
  refine ⟨?_, ?_, ?_, ?_, ?_⟩
  · exact cell_ne (cell_ne (cell_ne (cell_ne (World.cell?_setCell_same _ _ _ h.c0) (by omega)) (by omega)) (by omega)) (by omega)
  · exact cell_ne (cell_ne (cell_ne (World.cell?_setCell_same _ _ _ (cell_ne h.c1 (by omega))) (by omega)) (by omega)) (by omega)
  · exact cell_ne (cell_ne (World.cell?_setCell_same _ _ _ (cell_ne (cell_ne h.c2 (by omega)) (by omega))) (by omega)) (by omega)
  · exact cell_ne (World.cell?_setCell_same _ _ _ (cell_ne (cell_ne (cell_ne h.c3 (by omega)) (by omega)) (by omega))) (by omega)
  · exact World.cell?_setCell_same _ _ _ (cell_ne (cell_ne (cell_ne (cell_ne h.c4 (by omega)) (by omega)) (by omega)) (by omega))
theorem Cet.setOff {w : World} {b o o' : Nat} {y : Tok} (h : Cet w b o y) (x : Tok) (hne : o' + 5 ≤ o ∨ o + 5 ≤ o') : Cet (set5o w b o' x) b o y := by
  unfold set5o
  exact ((((h.off (by omega)).off (by omega)).off (by omega)).off (by omega)).off (by omega)
/-- Rights that grow nowhere. -/
theorem i64_or_nat (a b : Nat) (ha : a < 32) (hb : b < 32) : bits .or .i64 (a : Int) (b : Int) = ((a ||| b : Nat) : Int) := by
  have hx : a ||| b < 2 ^ 5 := Nat.or_lt_two_pow (by omega) (by omega)
  show IntKind.i64.wrap ((BitVec.ofInt 64 (a : Int) ||| BitVec.ofInt 64 (b : Int)).toNat : Int) = _
  rw [BitVec.toNat_or, BitVec.ofInt_natCast, BitVec.ofInt_natCast, BitVec.toNat_ofNat, BitVec.toNat_ofNat, Nat.mod_eq_of_lt (a := a) (by omega), Nat.mod_eq_of_lt (a := b) (by omega), IntKind.wrap_i64]
  omega
theorem or_of_and : ∀ a, a < 32 → ∀ b, b < 32 → (decide (a &&& b = a)) = decide (a ||| b = b) := by decide +kernel
end Go.Proofs.Ytciidjhadijhdaa
