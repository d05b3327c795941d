import Derived.Test.YtnjadfgfpebkdaaGreatMZ
namespace Go.Proofs.YtnjadfgfpebkdaaGreat
open Go.RowKit Go.Shelf H
set_option linter.unusedVariables false

/-! ### under -/
/-! ### told -/
/-- What Of tells of an object that is there. -/
structure Told (X : List Tk) (l : Fo) (o : Int) (O : List Tok) (Gs : List Int) : Prop where
  len : O.length = Gs.length
  pos : 0 < Gs.length
  inn : Gs.length = inN X l o
  at_ : ∀ (j : Nat) (x : Int), Gs[j]? = some x → x ∈ nums l ∧ ob X x = o ∧ ∃ q : Int, O[j]? = some ((tk X x).1, rg X x, q) ∧ ((j = 0 ∧ q = -1 ∧ par l x = -1) ∨ (0 < j ∧ ∃ p : Nat, p < j ∧ q = (p : Int) ∧ Gs[p]? = some (par l x)))
  nd : Gs.Nodup
theorem Inv.told {m : Nat} {X : List Tk} {l : Fo} (h : Inv m X l) {n : Int} (hn : n ∈ nums l) : ∃ Gs, Told X l (ob X n) (ofL m X l (ob X n)) Gs := by
  obtain ⟨r, hr, ho, hG⟩ := h.toRoot n hn
  refine ⟨G true l r, ?_⟩
  have e : ofL m X l (ob X n) = (ofF X l m (G true l r)).2 := by unfold ofL; rw [← ho, rootOf_some h hr]
  have hsp := (ofF_spec (X := X) h.ok hr (G true l r).length (Nat.le_refl _)).2
  rw [List.take_length] at hsp
  refine ⟨by rw [e, ofF_len2], List.length_pos_of_mem hG, ?_, fun j x hx => ?_, G_nodup h.ok true r⟩
  · refine same_len (G_nodup h.ok true r) (List.Nodup.sublist List.filter_sublist h.ok.nodup) (fun x => ?_)
    rw [h.mem_root hr, List.mem_filter, decide_eq_true_eq, ho]
  · have hm := (h.mem_root hr).1 (List.mem_of_getElem? hx)
    obtain ⟨q, h1, h2⟩ := hsp j x (List.getElem?_eq_some_iff.1 hx).1 hx
    exact ⟨hm.1, by rw [hm.2, ho], q, by rw [e]; exact h1, h2⟩
end Go.Proofs.YtnjadfgfpebkdaaGreat
namespace Go.Proofs.YtnjadfgfpebkdaaGreat
open Go.RowKit Go.Shelf H
set_option linter.unusedVariables false

/-! ### Lists filled one by one -/
/-- How many ahead of k. -/
def cntF (p : Int → Bool) (k : Nat) : Nat := ((firsts k).filter p).length
theorem cntF_succ (p : Int → Bool) (k : Nat) : cntF p (k + 1) = cntF p k + (if p (k : Int) = true then 1 else 0) := by
  unfold cntF
  rw [firsts_succ, List.filter_append, List.length_append]
  congr 1
  by_cases h : p (k : Int) = true
  · rw [if_pos h]; simp [h]
  · rw [if_neg h]; simp [h]
theorem cntF_le (p : Int → Bool) (k : Nat) : cntF p k ≤ k := by
  have := List.length_filter_le p (firsts k)
  rw [firsts_len] at this
  exact this
theorem cntF_all {m : Nat} {A : List Int} (hn : A.Nodup) (hr : ∀ x ∈ A, 0 ≤ x ∧ x < (m : Int)) : cntF (fun x => decide (x ∈ A)) m = A.length := by
  refine same_len (List.Nodup.sublist List.filter_sublist (firsts_nodup m)) hn (fun x => ?_)
  rw [List.mem_filter, mem_firsts, decide_eq_true_eq]
  exact ⟨fun h => h.2, fun h => ⟨hr x h, h⟩⟩
/-! ### Tokens and booleans in arrays -/
def set5o (w : World) (b o : Nat) (c : Tok) : World :=
  ((((w.setCell ⟨b, o, none⟩ (.int .i64 c.1.1)).setCell ⟨b, o + 1, none⟩ (.int .u64 (c.1.2.1 : Int))).setCell ⟨b, o + 2, none⟩ (.int .u64 (c.1.2.2 : Int))).setCell ⟨b, o + 3, none⟩ (.int .i64 c.2.1)).setCell ⟨b, o + 4, none⟩ (.int .i64 c.2.2)
theorem Cet.off {w : World} {b o o' : Nat} {x : Tok} {u : Value} (h : Cet w b o x) (hne : o' < o ∨ o + 5 ≤ o') : Cet (w.setCell ⟨b, o', none⟩ u) b o x :=
  ⟨cell_ne h.c0 (by omega), cell_ne h.c1 (by omega), cell_ne h.c2 (by omega), cell_ne h.c3 (by omega), cell_ne h.c4 (by omega)⟩
theorem Cet.set {w : World} {b o : Nat} {y : Tok} (h : Cet w b o y) (x : Tok) : Cet (set5o w b o x) b o x := by
  unfold set5o
  refine ⟨?_, ?_, ?_, ?_, ?_⟩
  · exact cell_ne (cell_ne (cell_ne (cell_ne (World.cell?_setCell_same _ _ _ h.c0) (by omega)) (by omega)) (by omega)) (by omega)
  · exact cell_ne (cell_ne (cell_ne (World.cell?_setCell_same _ _ _ (cell_ne h.c1 (by omega))) (by omega)) (by omega)) (by omega)
  · exact cell_ne (cell_ne (World.cell?_setCell_same _ _ _ (cell_ne (cell_ne h.c2 (by omega)) (by omega))) (by omega)) (by omega)
  · exact cell_ne (World.cell?_setCell_same _ _ _ (cell_ne (cell_ne (cell_ne h.c3 (by omega)) (by omega)) (by omega))) (by omega)
  · exact World.cell?_setCell_same _ _ _ (cell_ne (cell_ne (cell_ne (cell_ne h.c4 (by omega)) (by omega)) (by omega)) (by omega))
theorem Cet.setOff {w : World} {b o o' : Nat} {y : Tok} (h : Cet w b o y) (x : Tok) (hne : o' + 5 ≤ o ∨ o + 5 ≤ o') : Cet (set5o w b o' x) b o y := by
  unfold set5o
  exact ((((h.off (by omega)).off (by omega)).off (by omega)).off (by omega)).off (by omega)
/-- Rights that grow nowhere. -/
theorem i64_or_nat (a b : Nat) (ha : a < 32) (hb : b < 32) : bits .or .i64 (a : Int) (b : Int) = ((a ||| b : Nat) : Int) := by
  have hx : a ||| b < 2 ^ 5 := Nat.or_lt_two_pow (by omega) (by omega)
  show IntKind.i64.wrap ((BitVec.ofInt 64 (a : Int) ||| BitVec.ofInt 64 (b : Int)).toNat : Int) = _
  rw [BitVec.toNat_or, BitVec.ofInt_natCast, BitVec.ofInt_natCast, BitVec.toNat_ofNat, BitVec.toNat_ofNat, Nat.mod_eq_of_lt (a := a) (by omega), Nat.mod_eq_of_lt (a := b) (by omega), IntKind.wrap_i64]
  omega
theorem or_of_and : ∀ a, a < 32 → ∀ b, b < 32 → (decide (a &&& b = a)) = decide (a ||| b = b) := by decide +kernel
end Go.Proofs.YtnjadfgfpebkdaaGreat
