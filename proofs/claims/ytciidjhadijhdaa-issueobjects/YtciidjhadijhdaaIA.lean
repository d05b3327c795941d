import Derived.Test.YtciidjhadijhdaaRI
namespace Go.Proofs.Ytciidjhadijhdaa
open Go.RowKit H
set_option linter.unusedVariables false

theorem Inv.mem_root {m : Nat} {X : List Tk} {l : Fo} (h : Inv m X l) {r : Int} (hr : (r, -1) ∈ l) {n : Int} : n ∈ G true l r ↔ n ∈ nums l ∧ ob X n = ob X r := by
  constructor
  · intro hn
    have h1 := (mem_G_iff h.ok).1 hn
    have h2 := U_mem h1
    exact ⟨h2, (h.same n h2 r h1).symm⟩
  · rintro ⟨hn, ho⟩
    obtain ⟨s, hs, hso, hG⟩ := h.toRoot n hn
    rw [h.root r s hr hs (by rw [hso, ho])]
    exact hG
/-- The tokens that Of tells are those of the object. -/
theorem ofL_iff {m : Nat} {X : List Tk} {l : Fo} (h : Inv m X l) (o : Int) (c : Cp) : (∃ (j : Nat) (x : Tok), (ofL m X l o)[j]? = some x ∧ x.1 = c) ↔ c.1 = o ∧ hasC X l c = true := by
  cases hf : rootOf X l o with
  | none =>
    have e : ofL m X l o = [] := by unfold ofL; rw [hf]
    rw [e]
    constructor
    · rintro ⟨j, x, hx, _⟩
      simp at hx
    · rintro ⟨rfl, hc⟩
      obtain ⟨r, hr, ho⟩ := h.rootO.1 (hasO_of_hasC hc)
      have := rootOf_some h hr
      rw [ho, hf] at this
      cases this
  | some r =>
    obtain ⟨hr, ho⟩ := rootOf_in hf
    have e : ofL m X l o = (ofF X l m (G true l r)).2 := by unfold ofL; rw [hf]
    have hs := (ofF_spec (X := X) h.ok hr (G true l r).length (Nat.le_refl _)).2
    rw [List.take_length] at hs
    have hlen := ofF_len2 X l m (G true l r)
    rw [e]
    constructor
    · rintro ⟨j, x, hx, rfl⟩
      have hj := (List.getElem?_eq_some_iff.1 hx).1
      rw [hlen] at hj
      obtain ⟨q, hq, _⟩ := hs j _ hj (List.getElem?_eq_getElem hj)
      rw [hx] at hq
      cases hq
      have hm := (h.mem_root hr).1 (List.getElem_mem hj)
      exact ⟨by rw [← ho]; exact hm.2, hasC_iff.2 ⟨_, hm.1, rfl⟩⟩
    · rintro ⟨rfl, hc⟩
      obtain ⟨n, hn, rfl⟩ := hasC_iff.1 hc
      have hm := (h.mem_root hr).2 ⟨hn, by rw [ho]; rfl⟩
      obtain ⟨j, hj⟩ := List.getElem?_of_mem hm
      obtain ⟨q, hq, _⟩ := hs j n (List.getElem?_eq_some_iff.1 hj).1 hj
      exact ⟨j, _, hq, rfl⟩
theorem toks_get : ∀ {L : List Tok} {i : Nat} {x : Tok}, L[i]? = some x → ∀ c, c < 5 → (toks L)[i * 5 + c]? = (encT x)[c]?
  | [], i, x, h, c, hc => by simp at h
  | y :: L, 0, x, h, c, hc => by
    obtain rfl : y = x := by simpa using h
    show (encT y ++ toks L)[0 * 5 + c]? = _
    rw [List.getElem?_append_left (by simp [encT]; omega)]
    congr 1; omega
  | y :: L, i + 1, x, h, c, hc => by
    show (encT y ++ toks L)[(i + 1) * 5 + c]? = _
    have hl : (encT y).length = 5 := rfl
    rw [List.getElem?_append_right (by rw [hl]; omega), hl]
    have : (i + 1) * 5 + c - 5 = i * 5 + c := by omega
    rw [this]
    exact toks_get (L := L) (by simpa using h) c hc
/-- The word of the i-th token, as a number. -/
def tokW (L : List Tok) (i : Nat) : Nat := match L[i]? with
  | some x => x.1.2.1 * B64 + x.1.2.2
  | none => 0
theorem tokW_at {L : List Tok} {i : Nat} {x : Tok} (h : L[i]? = some x) : tokW L i = x.1.2.1 * B64 + x.1.2.2 := by unfold tokW; rw [h]
theorem ofL_wide {m : Nat} {X : List Tk} {l : Fo} (h : Inv m X l) (o : Int) {j : Nat} {x : Tok} (hx : (ofL m X l o)[j]? = some x) : x.1.2.1 < B64 ∧ x.1.2.2 < B64 := by
  obtain ⟨_, hc⟩ := (ofL_iff h o x.1).1 ⟨j, x, hx, rfl⟩
  obtain ⟨n, hn, e⟩ := hasC_iff.1 hc
  rw [← e]
  exact h.wide n hn
theorem word_hi {a b : Nat} (h : b < B64) : (a * B64 + b) / B64 = a := by
  have h0 : 0 < B64 := by decide
  rw [Nat.mul_comm, Nat.mul_add_div h0, Nat.div_eq_of_lt h, Nat.add_zero]
theorem word_lo {a b : Nat} (h : b < B64) : (a * B64 + b) % B64 = b := by
  rw [Nat.mul_comm, Nat.mul_add_mod, Nat.mod_eq_of_lt h]
theorem word_lt {a b : Nat} (h1 : a < B64) (h2 : b < B64) : a * B64 + b < B64 * B64 := by
  have : a * B64 + B64 ≤ B64 * B64 := by
    rw [← Nat.succ_mul]; exact Nat.mul_le_mul_right _ h1
  omega
theorem tokW_small {m : Nat} {X : List Tk} {l : Fo} (h : Inv m X l) (o : Int) (i : Nat) : tokW (ofL m X l o) i < B64 * B64 := by
  unfold tokW
  split
  · next x hx => exact word_lt (ofL_wide h o hx).1 (ofL_wide h o hx).2
  · decide
theorem ofL_len {m : Nat} {X : List Tk} {l : Fo} (h : Inv m X l) (o : Int) : (ofL m X l o).length ≤ m := by
  unfold ofL
  split
  · rw [ofF_len2]; exact G_len h.ok _ _
  · exact Nat.zero_le _
end Go.Proofs.Ytciidjhadijhdaa
