import Derived.Test.YtlelglfdamakaaaU1
namespace Go.Proofs.Ytlelglfdamakaaa
open Go.RowKit H
set_option linter.unusedVariables false
set_option linter.unusedSimpArgs false
variable {w w' : World} {H : Hv} {X : List Tk} {l : Fo} {m : Nat}

/-! ### ValidateGone: what the catalogue is, as plain numbers -/
def gr : Cp := (1, 1, 0)
/-- A catalogue whose root is the token number 0, with all rights, and that has at most m tokens. -/
structure Gn (X : List Tk) (l : Fo) (m : Nat) : Prop where
  rt : ((0 : Int), (-1 : Int)) ∈ l
  t0 : tk X 0 = (gr, 31)
  len : l.length ≤ m
theorem Gn.mono {n : Nat} (h : Gn X l m) (hm : m ≤ n) : Gn X l n := ⟨h.rt, h.t0, Nat.le_trans h.len hm⟩
theorem Gn.mem (h : Gn X l m) : (0 : Int) ∈ nums l := mem_nums.2 ⟨_, h.rt⟩
theorem gn_start : Gn (rootR 20 (List.replicate 20 tz) [] gr 31).X (rootR 20 (List.replicate 20 tz) [] gr 31).l 1 := ⟨by decide +kernel, by decide +kernel, by decide +kernel⟩
theorem part31 {q : Int} (h : validB q = true) : partB q 31 = true := by
  have h1 := validB_iff.1 h
  obtain ⟨n, rfl⟩ : ∃ n : Nat, q = (n : Int) := ⟨q.toNat, by omega⟩
  have : ∀ n : Nat, n < 32 → n &&& 31 = n := by decide
  unfold partB
  rw [h, show validB 31 = true by decide]
  simpa using this n (by omega)
theorem gn_child (h : Gn X l m) (hv : Inv 20 X l) (hm : m < 20) {c : Cp} (h1 : c.1 = 1) (hc : hasC X l c = false) {s : Int} (hs : validB s = true) :
    childR 20 X l 0 c s = ⟨(low l : Int), 0, X.set (low l) (c, s), l ++ [((low l : Int), 0)]⟩ ∧ Gn (X.set (low l) (c, s)) (l ++ [((low l : Int), 0)]) (m + 1) ∧ hasC (X.set (low l) (c, s)) (l ++ [((low l : Int), 0)]) c = true ∧ tk (X.set (low l) (c, s)) (low l : Int) = (c, s) ∧ (low l : Int) ∈ nums (l ++ [((low l : Int), 0)]) ∧ (low l : Int) ≠ 0 := by
  have hl := h.len
  have hlo := low_lt hv.ok (show l.length < 20 by omega)
  have hob : ob X 0 = c.1 := by unfold ob; rw [h.t0, h1]; rfl
  have hrg : rg X 0 = 31 := by unfold rg; rw [h.t0]
  have hne : (low l : Int) ≠ 0 := fun e => low_not l (by rw [e]; exact h.mem)
  have htk : tk (X.set (low l) (c, s)) (low l : Int) = (c, s) := tk_set_same _ (by rw [hv.len]; exact hlo)
  have hmem : (low l : Int) ∈ nums (l ++ [((low l : Int), 0)]) := by rw [nums_app]; exact List.mem_append_right _ (by simp [nums])
  refine ⟨?_, ⟨List.mem_append_left _ h.rt, by rw [tk_set_other _ (by omega) (fun e => hne e.symm)]; exact h.t0, by simp; omega⟩, hasC_iff.2 ⟨_, hmem, by rw [htk]⟩, htk, hmem, hne⟩
  unfold childR
  rw [if_neg (by simpa using h.mem), if_neg (by simpa using hob), if_neg (by rw [hrg, part31 hs]; decide)]
  unfold addR
  rw [if_neg (by rw [hc]; decide), if_neg (by omega)]
theorem gn_rgt (hv : Inv 20 X l) {n : Int} {c : Cp} {s : Int} (hn : n ∈ nums l) (ht : tk X n = (c, s)) : rgt X l c = s := by
  have := findN_in hv hn
  rw [ht] at this
  unfold rgt rg
  rw [this, ht]
theorem gn_root (h : Gn X l m) (hv : Inv 20 X l) {q : Int} (hq : validB q = true) : givE X l q gr = 0 := by
  have hc : hasC X l gr = true := hasC_iff.2 ⟨0, h.mem, by rw [h.t0]⟩
  unfold givE
  rw [hc, gn_rgt hv h.mem h.t0, part31 hq]
  rfl
theorem gn_given {c : Cp} {s q : Int} (hc : hasC X l c = true) (hr : rgt X l c = s) : givE X l q c = if partB q s = false then 4 else 0 := by
  unfold givE
  rw [hc, hr]
  rfl
theorem gn_gone {c : Cp} {q : Int} (hc : hasC X l c = false) : givE X l q c = 3 := by unfold givE; rw [hc]; rfl
theorem self_G {n : Int} (hk : Ok 20 l) (hn : n ∈ nums l) : n ∈ G true l n := by
  obtain ⟨p, hp⟩ := mem_nums.1 hn
  rw [mem_G_iff hk, U_eq hk hp]
  exact List.mem_cons_self ..
theorem root_not {n r : Int} (hk : Ok 20 l) (hr : (r, -1) ∈ l) (hne : n ≠ r) : r ∉ G true l n := fun e => by
  have h1 := (mem_G_iff hk).1 e
  rw [U_eq hk hr] at h1
  rcases List.mem_cons.1 h1 with h2 | h2
  · exact hne h2
  · rw [U_out (fun h3 => by have := nums_nn hk h3; omega)] at h2
    cases h2
theorem cuts_less {A : List Int} {n : Int} (hn : n ∈ nums l) (hA : n ∈ A) : (cuts l A).length < l.length := by
  obtain ⟨p, hp⟩ := mem_nums.1 hn
  unfold cuts
  exact List.length_filter_lt_length_iff_exists.2 ⟨_, hp, by simpa using hA⟩
theorem gn_drop (h : Gn X l (m + 1)) (hv : Inv 20 X l) {n : Int} {c : Cp} (hn : n ∈ nums l) (hne : n ≠ 0) (ht : (tk X n).1 = c) : Gn (gonX X l n) (gonF X l n) m ∧ hasC (gonX X l n) (gonF X l n) c = false := by
  have e1 : gonX X l n = zer X (G true l n) := by unfold gonX; rw [dropS_eq]
  have e2 : gonF X l n = cuts l (G true l n) := by unfold gonF; rw [dropS_eq]
  rw [e1, e2]
  have h0 := root_not hv.ok h.rt hne
  have hnn : ∀ a ∈ G true l n, 0 ≤ a := fun a ha => nums_nn hv.ok (G_nums hv.ok ha)
  have hlt := cuts_less hn (self_G hv.ok hn)
  have hl := h.len
  refine ⟨⟨mem_cuts.2 ⟨h.rt, h0⟩, by rw [zer_tk _ _ _ (by omega) hnn h0]; exact h.t0, by omega⟩, ?_⟩
  cases hc : hasC (zer X (G true l n)) (cuts l (G true l n)) c with
  | false => rfl
  | true =>
    obtain ⟨a, ha, e⟩ := hasC_iff.1 hc
    obtain ⟨ha1, ha2⟩ := nums_cuts.1 ha
    rw [zer_tk _ _ _ (nums_nn hv.ok ha1) hnn ha2] at e
    have := hv.one a ha1 n hn (e.trans ht.symm)
    subst this
    exact absurd (self_G hv.ok hn) ha2
/-- Rights by their bits. -/
theorem or_bits {q s : Int} (hq : validB q = true) (hs : validB s = true) : ∃ (z : Int) (b : Bool), bits .or .i64 q s = z ∧ (z == s) = b ∧ partB q s = b := by
  have h1 := validB_iff.1 hq
  obtain ⟨n, r, rfl, rfl, hn, hr, hp⟩ := part_or hs (need := q) h1.1 h1.2
  refine ⟨_, _, i64_or_nat n r hn hr, rfl, ?_⟩
  rw [hp]
  by_cases e : n ||| r = r
  · rw [e]; simp
  · have : ((n ||| r : Nat) : Int) ≠ (r : Int) := fun h => e (by exact_mod_cast h)
    rw [decide_eq_false e]
    simpa using this
theorem valid_rest (x : Int) : validB (1 + (modN x 31 : Int)) = true := by
  have := modN_lt x 31 (by decide)
  exact validB_iff.2 (by omega)
/-- What Named answers of a token and the root. -/
theorem gn_named (h : Gn X l m) (hv : Inv 20 X l) {x : Nat} {s q : Int} (hc : hasC X l (1, 0, x) = true) (hr : rgt X l (1, 0, x) = s) (hq : validB q = true) {b : Bool} (hb : partB q s = b) :
    ∃ y : Cp, namG (givE X l q) 1 [(1, 0, x), gr] 3 = (y, 0) ∧ decide (y = (1, 0, x)) = b ∧ (givE X l q (1, 0, x) == 0) = b := by
  have hg := gn_given (q := q) hc hr
  have h0 := gn_root h hv hq
  cases b with
  | true =>
    rw [hb] at hg
    refine ⟨(1, 0, x), ?_, by simp, by rw [hg]; rfl⟩
    unfold namG
    rw [if_neg (by simp), if_pos (by rw [hg]; rfl)]
  | false =>
    rw [hb] at hg
    refine ⟨gr, ?_, by simp [gr], by rw [hg]; rfl⟩
    unfold namG
    rw [if_neg (by simp), if_neg (by rw [hg]; decide), if_pos (by rw [hg]; rfl)]
    unfold namG
    rw [if_neg (by decide), if_pos h0]
theorem gn_child2 (h : Gn X l m) (hv : Inv 20 X l) (hm : m < 20) {c : Cp} (h1 : c.1 = 1) (hc : hasC X l c = false) {s : Int} (hs : validB s = true) :
    ∃ (X1 : List Tk) (l1 : Fo) (k : Int), childR 20 X l 0 c s = ⟨k, 0, X1, l1⟩ ∧ Gn X1 l1 (m + 1) ∧ hasC X1 l1 c = true ∧ tk X1 k = (c, s) ∧ k ∈ nums l1 ∧ k ≠ 0 := ⟨_, _, _, gn_child h hv hm h1 hc hs⟩
end Go.Proofs.Ytlelglfdamakaaa
