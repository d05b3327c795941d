import Derived.Test.YtlelglfdamakaaaMZ
import Derived.Test.YtlelglfdamakaaaMH
import Derived.Test.YtlelglfdamakaaaMF
namespace Go.Proofs.Ytlelglfdamakaaa
open Go.RowKit H
set_option linter.unusedVariables false

/-! ### What the catalogue says, as plain numbers -/
/-- The rights that the catalogue has of a capability. -/
def rgt (X : List Tk) (l : Fo) (c : Cp) : Int := rg X (findN X l c)
/-- Given's answer. -/
def givE (X : List Tk) (l : Fo) (need : Int) (c : Cp) : Int := if hasC X l c = false then 3 else if partB need (rgt X l c) = false then 4 else 0
theorem givE_cases (X : List Tk) (l : Fo) (need : Int) (c : Cp) : (hasC X l c = false ∧ givE X l need c = 3) ∨ (hasC X l c = true ∧ partB need (rgt X l c) = false ∧ givE X l need c = 4) ∨ (hasC X l c = true ∧ partB need (rgt X l c) = true ∧ givE X l need c = 0) := by
  unfold givE
  cases h1 : hasC X l c with
  | false => exact .inl ⟨rfl, by simp⟩
  | true =>
    cases h2 : partB need (rgt X l c) with
    | false => exact .inr (.inl ⟨rfl, rfl, by simp⟩)
    | true => exact .inr (.inr ⟨rfl, rfl, by simp⟩)
/-- Named's answer, told by what Given tells. -/
def namG (g : Cp → Int) (o : Int) : List Cp → Int → Cp × Int
  | [], e => ((0, 0, 0), e)
  | c :: r, e => if c.1 ≠ o then namG g o r e else if g c = 0 then (c, 0) else if g c = 4 then namG g o r 4 else namG g o r e
theorem namG_step {g : Cp → Int} {o : Int} {K : List Cp} {i : Nat} {c : Cp} (h : K[i]? = some c) (e : Int) :
    namG g o (K.drop i) e = if c.1 ≠ o then namG g o (K.drop (i + 1)) e else if g c = 0 then (c, 0) else if g c = 4 then namG g o (K.drop (i + 1)) 4 else namG g o (K.drop (i + 1)) e := by
  obtain ⟨hi, rfl⟩ := List.getElem?_eq_some_iff.1 h
  rw [List.drop_eq_getElem_cons hi]
  rfl
theorem namG_end {g : Cp → Int} {o : Int} {K : List Cp} {i : Nat} (h : K.length ≤ i) (e : Int) : namG g o (K.drop i) e = ((0, 0, 0), e) := by
  rw [List.drop_eq_nil_of_le h]; rfl
/-- What the cache knows is what the catalogue says. -/
def Tr (X : List Tk) (l : Fo) (T : Nat → List K.Pu) : Prop := ∀ r x, x ∈ T r → hasC X l x.1 = true ∧ rgt X l x.1 = x.2
variable {X : List Tk} {l : Fo} {T : Nat → List K.Pu} {s n k : Nat}
theorem Tr.zero (X : List Tk) (l : Fo) : Tr X l K.T0 := fun r x hx => by cases hx
theorem Tr.get (h : Tr X l T) {c : Cp} (hg : (K.getT s k T c).2 = true) : hasC X l c = true ∧ (K.getT s k T c).1 = rgt X l c := by
  unfold K.getT at hg ⊢
  by_cases hs : s = 0
  · rw [if_pos hs] at hg; cases hg
  · rw [if_neg hs] at hg ⊢
    unfold K.getS at hg ⊢
    cases hf : (T (K.rowN k s c)).find? (fun x => x.1 = c) with
    | none => rw [hf] at hg; cases hg
    | some x =>
      have h1 := List.mem_of_find?_eq_some hf
      have h2 : x.1 = c := by simpa using List.find?_some hf
      obtain ⟨h3, h4⟩ := h _ x h1
      rw [h2] at h3 h4
      exact ⟨h3, h4.symm⟩
theorem Tr.put (h : Tr X l T) {c : Cp} (hc : hasC X l c = true) : Tr X l (K.putT s n k T c (rgt X l c)) := fun r x hx => by
  unfold K.putT at hx
  split at hx
  · exact h r x hx
  · simp only at hx
    split at hx
    · unfold K.putS at hx
      rcases List.mem_cons.1 (List.mem_of_mem_take hx) with rfl | h1
      · exact ⟨hc, rfl⟩
      · exact h _ x (List.mem_filter.1 h1).1
    · exact h r x hx
theorem tk_add {m : Nat} (h : Inv m X l) {j : Nat} (x : Tk) (hj : (j : Int) ∉ nums l) {a : Int} (ha : a ∈ nums l) : tk (X.set j x) a = tk X a := tk_set_other _ (nums_nn h.ok ha) (fun e => hj (e ▸ ha))
theorem Tr.add {m : Nat} (h : Tr X l T) (hv : Inv m X l) (p : Int) (c : Cp) (r : Int) (hv2 : Inv m (addR m X l p c r).X (addR m X l p c r).l) : Tr (addR m X l p c r).X (addR m X l p c r).l T := by
  revert hv2
  unfold addR
  by_cases h1 : hasC X l c = true
  · rw [if_pos h1]; exact fun _ => h
  · rw [if_neg h1]
    by_cases h2 : l.length = m
    · rw [if_pos h2]; exact fun _ => h
    · rw [if_neg h2]
      intro hv2
      have hv2 : Inv m (X.set (low l) (c, r)) (l ++ [((low l : Int), p)]) := hv2
      intro q x hx
      obtain ⟨h3, h4⟩ := h q x hx
      obtain ⟨a, ha, e⟩ := hasC_iff.1 h3
      have ht := tk_add hv (c, r) (low_not l) ha
      have ha2 : a ∈ nums (l ++ [((low l : Int), p)]) := by rw [nums_app]; exact List.mem_append_left _ ha
      have h5 : findN (X.set (low l) (c, r)) (l ++ [((low l : Int), p)]) x.1 = a := by
        have := findN_in hv2 ha2
        rw [ht, e] at this
        exact this
      have h6 : findN X l x.1 = a := by rw [← e]; exact findN_in hv ha
      refine ⟨hasC_iff.2 ⟨a, ha2, by rw [ht]; exact e⟩, ?_⟩
      show rg (X.set (low l) (c, r)) (findN (X.set (low l) (c, r)) (l ++ [((low l : Int), p)]) x.1) = x.2
      rw [← h4]
      unfold rgt
      rw [h5, h6]
      unfold rg
      rw [ht]
theorem Tr.root {m : Nat} (h : Tr X l T) (hv : Inv m X l) (c : Cp) (r : Int) (hv2 : Inv m (rootR m X l c r).X (rootR m X l c r).l) : Tr (rootR m X l c r).X (rootR m X l c r).l T := by
  revert hv2
  unfold rootR
  split
  · exact fun _ => h
  · split
    · exact fun _ => h
    · exact fun h2 => h.add hv _ _ _ h2
theorem Tr.child {m : Nat} (h : Tr X l T) (hv : Inv m X l) (p : Int) (c : Cp) (r : Int) (hv2 : Inv m (childR m X l p c r).X (childR m X l p c r).l) : Tr (childR m X l p c r).X (childR m X l p c r).l T := by
  revert hv2
  unfold childR
  split
  · exact fun _ => h
  · split
    · exact fun _ => h
    · split
      · exact fun _ => h
      · exact fun h2 => h.add hv _ _ _ h2
theorem found {m : Nat} (h : Inv m X l) {c : Cp} (hc : hasC X l c = true) : findN X l c ∈ nums l ∧ (tk X (findN X l c)).1 = c := by
  obtain ⟨a, ha, e⟩ := hasC_iff.1 hc
  have := findN_in h ha
  rw [e] at this
  rw [this]
  exact ⟨ha, e⟩
theorem rgt_valid {m : Nat} (h : Inv m X l) {c : Cp} (hc : hasC X l c = true) : validB (rgt X l c) = true := h.val _ (found h hc).1
end Go.Proofs.Ytlelglfdamakaaa
