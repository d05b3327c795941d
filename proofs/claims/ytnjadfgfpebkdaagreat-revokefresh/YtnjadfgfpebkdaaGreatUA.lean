import Derived.Test.YtnjadfgfpebkdaaGreatNA
import Derived.Test.YtnjadfgfpebkdaaGreatFB
namespace Go.Proofs.YtnjadfgfpebkdaaGreat.D
open Go.RowKit
open Go.Proofs.YtnjadfgfpebkdaaGreat.H (B64 Cp)
set_option linter.unusedVariables false

/-! ### Subtrees of a list -/
theorem fm_filter {p : Int → Bool} {f : Int → List Int} : ∀ (L : List Int), (L.flatMap f).filter p = L.flatMap (fun c => (f c).filter p)
  | [] => rfl
  | c :: L => by rw [List.flatMap_cons, List.filter_append, fm_filter L, List.flatMap_cons]
theorem fm_nil {f : Int → List Int} : ∀ (L : List Int), (∀ c ∈ L, f c = []) → L.flatMap f = []
  | [], _ => rfl
  | c :: L, h => by rw [List.flatMap_cons, h c (by simp), fm_nil L (fun x hx => h x (by simp [hx]))]; rfl
theorem fm_one {f : Int → List Int} {c : Int} {R : List Int} : ∀ (L : List Int), L.Nodup → c ∈ L → f c = R → (∀ x ∈ L, x ≠ c → f x = []) → L.flatMap f = R
  | a :: L, hn, hc, h1, h2 => by
    rw [List.nodup_cons] at hn
    rw [List.flatMap_cons]
    by_cases e : a = c
    · subst e
      rw [h1, fm_nil L (fun x hx => h2 x (by simp [hx]) (fun e => hn.1 (e ▸ hx))), List.append_nil]
    · rw [h2 a (by simp) e, List.nil_append]
      exact fm_one L hn.2 ((List.mem_cons.1 hc).resolve_left (fun h => e h.symm)) h1 (fun x hx => h2 x (by simp [hx]))
theorem G_true_eq {m : Nat} {l : Fo} (h : Ok m l) {n : Int} (hn : n ∈ nums l) : G true l n = n :: (ch l n).flatMap (G true l) := by
  rw [G_eq h hn]; rfl
theorem G_trans {m : Nat} {l : Fo} (h : Ok m l) {a b : Int} (hb : b ∈ G true l a) : ∀ y, y ∈ G true l b → y ∈ G true l a := by
  have key : ∀ n ∈ nums l, ∀ x ∈ G true l n, ∀ y ∈ G true l x, y ∈ G true l n := by
    refine tree_ind h (P := fun n => ∀ x ∈ G true l n, ∀ y ∈ G true l x, y ∈ G true l n) (fun n hn ih x hx y hy => ?_)
    rw [G_true_eq h hn] at hx
    rcases List.mem_cons.1 hx with e | hx
    · rw [e] at hy; exact hy
    · obtain ⟨c, hc, hx⟩ := List.mem_flatMap.1 hx
      rw [G_true_eq h hn]
      exact List.mem_cons_of_mem _ (List.mem_flatMap.2 ⟨c, hc, ih c hc x hx y hy⟩)
  by_cases ha : a ∈ nums l
  · exact key a ha b hb
  · rw [G_out ha] at hb; cases hb
/-- Two children of one, no common subtree. -/
theorem G_apart {m : Nat} {l : Fo} (h : Ok m l) {n c1 c2 y : Int} (h1 : c1 ∈ ch l n) (h2 : c2 ∈ ch l n) (y1 : y ∈ G true l c1) (y2 : y ∈ G true l c2) : c1 = c2 :=
  U_one h (mem_ch.1 h1) (mem_ch.1 h2) y (G_nums h y1) ((mem_G_iff h).1 y1) ((mem_G_iff h).1 y2)
theorem not_up {m : Nat} {l : Fo} (h : Ok m l) {n c x : Int} (hc : c ∈ ch l n) (hx : x ∈ G true l c) : n ∉ G true l x := fun e => by
  have h1 : n ∈ G true l c := G_trans h hx n e
  have h2 := (mem_G_iff h).1 h1
  exact U_par h (mem_ch.1 hc) h2
/-- A subtree stands in the whole as it stands by itself. -/
theorem sub_filter {m : Nat} {l : Fo} (h : Ok m l) : ∀ n ∈ nums l, ∀ x ∈ G true l n, (G true l n).filter (fun y => decide (y ∈ G true l x)) = G true l x := by
  refine tree_ind h (P := fun n => ∀ x ∈ G true l n, (G true l n).filter (fun y => decide (y ∈ G true l x)) = G true l x) (fun n hn ih x hx => ?_)
  by_cases e : x = n
  · subst e
    rw [List.filter_eq_self]
    intro a ha
    exact decide_eq_true ha
  · have hx' := hx
    rw [G_true_eq h hn] at hx'
    obtain ⟨c, hc, hxc⟩ := List.mem_flatMap.1 ((List.mem_cons.1 hx').resolve_left e)
    conv => lhs; rw [G_true_eq h hn]
    rw [List.filter_cons_of_neg (by simpa using not_up h hc hxc), fm_filter]
    refine fm_one _ (h.chNodup n) hc (ih c hc x hxc) (fun c' hc' hne => ?_)
    rw [List.filter_eq_nil_iff]
    intro y hy
    simp only [decide_eq_true_eq]
    exact fun hyx => hne (G_apart h hc' hc hy (G_trans h hxc y hyx))
/-- What is left of a subtree, behind a cut. -/
theorem cut_filter {m : Nat} {l : Fo} (h : Ok m l) {x : Int} (h' : Ok m (cuts l (G true l x))) : ∀ n ∈ nums l, n ∉ G true l x → G true (cuts l (G true l x)) n = (G true l n).filter (fun y => decide (y ∉ G true l x)) := by
  refine tree_ind h (P := fun n => n ∉ G true l x → G true (cuts l (G true l x)) n = (G true l n).filter (fun y => decide (y ∉ G true l x))) (fun n hn ih hx => ?_)
  have hn' : n ∈ nums (cuts l (G true l x)) := nums_cuts.2 ⟨hn, hx⟩
  rw [G_true_eq h' hn', G_true_eq h hn, List.filter_cons_of_pos (by simpa using hx), fm_filter]
  congr 1
  have hch : ch (cuts l (G true l x)) n = (ch l n).filter (fun c => decide (c ∉ G true l x)) := by
    unfold ch cuts
    rw [List.filter_filter, List.filter_map, List.filter_filter]
    congr 1
    apply List.filter_congr
    intro a _
    simp [Bool.and_comm]
  rw [hch]
  have key : ∀ L : List Int, (∀ c ∈ L, c ∈ ch l n) → (L.filter (fun c => decide (c ∉ G true l x))).flatMap (G true (cuts l (G true l x))) = L.flatMap (fun c => (G true l c).filter (fun y => decide (y ∉ G true l x))) := by
    intro L
    induction L with
    | nil => intro _; rfl
    | cons c L ihL =>
      intro hL
      have hc := hL c (by simp)
      by_cases hcx : c ∈ G true l x
      · rw [List.filter_cons_of_neg (by simpa using hcx), List.flatMap_cons, ihL (fun y hy => hL y (by simp [hy]))]
        have : (G true l c).filter (fun y => decide (y ∉ G true l x)) = [] := by
          rw [List.filter_eq_nil_iff]
          intro y hy
          simpa using G_trans h hcx y hy
        rw [this, List.nil_append]
      · rw [List.filter_cons_of_pos (by simpa using hcx), List.flatMap_cons, List.flatMap_cons, ihL (fun y hy => hL y (by simp [hy])), ih c hc hcx]
  exact key _ (fun c hc => hc)
/-- The list of an object that is not touched. -/
theorem ofL_other {mo : Nat} {X : List Tk} {l : Fo} (h : Inv mo X l) {x : Int} (hx : x ∈ nums l) (h' : Inv mo (zer X (G true l x)) (cuts l (G true l x))) {o : Int} (ho : ob X x ≠ o) : ofL mo (zer X (G true l x)) (cuts l (G true l x)) o = ofL mo X l o := by
  have hout : ∀ y, y ∈ nums l → ob X y = o → y ∉ G true l x := fun y hy e hg => ho ((G_obj h hg).symm.trans e)
  have htk : ∀ y, y ∈ nums l → y ∉ G true l x → tk (zer X (G true l x)) y = tk X y := fun y hy hg => zer_tk _ _ _ (nums_nn h.ok hy) (fun a ha => nums_nn h.ok (G_nums h.ok ha)) hg
  cases hO : hasO X l o with
  | false =>
    rw [show ofL mo X l o = [] by unfold ofL; rw [rootOf_none (fun r hr e => by have := hasO_iff.2 ⟨r, mem_nums.2 ⟨_, hr⟩, e⟩; rw [hO] at this; cases this)]]
    unfold ofL
    rw [rootOf_none]
    intro r hr e
    have h1 := mem_cuts.1 hr
    have h2 : ob X r = o := by
      unfold ob at e ⊢
      rw [htk r (mem_nums.2 ⟨_, h1.1⟩) h1.2] at e
      exact e
    have := hasO_iff.2 ⟨r, mem_nums.2 ⟨_, h1.1⟩, h2⟩
    rw [hO] at this; cases this
  | true =>
    obtain ⟨n, hn, e1⟩ := hasO_iff.1 hO
    obtain ⟨r, hr, hor, _⟩ := h.toRoot n hn
    have hro : ob X r = o := hor.trans e1
    have hrn : r ∈ nums l := mem_nums.2 ⟨_, hr⟩
    have hrg := hout r hrn hro
    have hr' : (r, -1) ∈ cuts l (G true l x) := mem_cuts.2 ⟨hr, hrg⟩
    have hro' : ob (zer X (G true l x)) r = o := by unfold ob; rw [htk r hrn hrg]; exact hro
    have e2 : ofL mo X l o = (ofF X l mo (G true l r)).2 := by unfold ofL; rw [← hro, rootOf_some h hr]
    have e3 : ofL mo (zer X (G true l x)) (cuts l (G true l x)) o = (ofF (zer X (G true l x)) (cuts l (G true l x)) mo (G true (cuts l (G true l x)) r)).2 := by unfold ofL; rw [← hro', rootOf_some h' hr']
    have hGr : ∀ y ∈ G true l r, y ∈ nums l ∧ y ∉ G true l x := fun y hy => ⟨G_nums h.ok hy, hout y (G_nums h.ok hy) ((G_obj h hy).trans hro)⟩
    have e4 : G true (cuts l (G true l x)) r = G true l r := by
      rw [cut_filter h.ok h'.ok r hrn hrg, List.filter_eq_self]
      intro y hy
      simpa using (hGr y hy).2
    rw [e2, e3, e4]
    have hfold : ∀ (A : List Int) (a0 : List Int × List Tok), (∀ y ∈ A, y ∈ nums l ∧ y ∉ G true l x) → A.foldl (stp (zer X (G true l x)) (cuts l (G true l x))) a0 = A.foldl (stp X l) a0 := by
      intro A
      induction A with
      | nil => intro _ _; rfl
      | cons y A ih =>
        intro a0 hA
        have hy := hA y (by simp)
        rw [List.foldl_cons, List.foldl_cons]
        have es : stp (zer X (G true l x)) (cuts l (G true l x)) a0 y = stp X l a0 y := by
          obtain ⟨p, hp⟩ := mem_nums.1 hy.1
          have hp' : (y, p) ∈ cuts l (G true l x) := mem_cuts.2 ⟨hp, hy.2⟩
          unfold stp rg
          rw [htk y hy.1 hy.2, par_eq h.ok hp, par_eq h'.ok hp']
        rw [es]
        exact ih _ (fun z hz => hA z (by simp [hz]))
    unfold ofF
    rw [hfold _ _ hGr]
end Go.Proofs.YtnjadfgfpebkdaaGreat.D
namespace Go.Proofs.YtnjadfgfpebkdaaGreat.D
open Go.RowKit
open Go.Proofs.YtnjadfgfpebkdaaGreat.H (B64 Cp)
set_option linter.unusedVariables false

/-! ### The list behind a cut -/
theorem told_at {m : Nat} {X : List Tk} {l : Fo} (h : Inv m X l) {r : Int} (hr : (r, -1) ∈ l) : Told X l (ob X r) (ofL m X l (ob X r)) (G true l r) := by
  have e : ofL m X l (ob X r) = (ofF X l m (G true l r)).2 := by unfold ofL; rw [rootOf_some h hr]
  have hsp := (ofF_spec (X := X) h.ok hr (G true l r).length (Nat.le_refl _)).2
  rw [List.take_length] at hsp
  refine ⟨by rw [e, ofF_len2], List.length_pos_of_mem (G_self h.ok (mem_nums.2 ⟨_, hr⟩)), root_G_len h hr, fun j x hx => ?_, G_nodup h.ok true r⟩
  have hm := (h.mem_root hr).1 (List.mem_of_getElem? hx)
  obtain ⟨q, h1, h2⟩ := hsp j x (List.getElem?_eq_some_iff.1 hx).1 hx
  exact ⟨hm.1, hm.2, q, by rw [e]; exact h1, h2⟩
theorem nd_inj {A : List Int} (h : A.Nodup) {a b : Nat} {z : Int} (ha : A[a]? = some z) (hb : A[b]? = some z) : a = b := by
  obtain ⟨x1, x2⟩ := List.getElem?_eq_some_iff.1 ha
  obtain ⟨y1, y2⟩ := List.getElem?_eq_some_iff.1 hb
  rcases Nat.lt_trichotomy a b with h1 | h1 | h1
  · exact absurd (x2.trans y2.symm) (List.pairwise_iff_getElem.1 h a b x1 y1 h1)
  · exact h1
  · exact absurd (y2.trans x2.symm) (List.pairwise_iff_getElem.1 h b a y1 x1 h1)
def pickN (O : List Tok) (i : Nat) : Tok := O[i]?.getD ((0, 0, 0), 0, 0)
/-- What the law's second loop does, as lists. -/
def stL (O : List Tok) (cf : Nat → Bool) : Nat → Nat × List Tok × List Int
  | 0 => (0, [], List.replicate O.length 0)
  | i + 1 => if cf i then ((stL O cf i).1 + 1, (stL O cf i).2.1, (stL O cf i).2.2) else
      ((stL O cf i).1, (stL O cf i).2.1 ++ [((pickN O i).1, (pickN O i).2.1, if 0 ≤ (pickN O i).2.2 then (stL O cf i).2.2[(pickN O i).2.2.toNat]?.getD 0 else (pickN O i).2.2)], (stL O cf i).2.2.set i ((stL O cf i).2.1.length : Int))
theorem stL_plen (O : List Tok) (cf : Nat → Bool) : ∀ i, (stL O cf i).2.2.length = O.length
  | 0 => by simp [stL]
  | i + 1 => by
    unfold stL
    split
    · exact stL_plen O cf i
    · show (List.set _ _ _).length = _
      rw [List.length_set]; exact stL_plen O cf i
theorem stL_llen (O : List Tok) (cf : Nat → Bool) : ∀ i, (stL O cf i).2.1.length ≤ i
  | 0 => by simp [stL]
  | i + 1 => by
    have := stL_llen O cf i
    unfold stL
    split
    · show (stL O cf i).2.1.length ≤ i + 1; omega
    · show (_ ++ [_]).length ≤ i + 1
      rw [List.length_append]; simp; omega
theorem stL_cnt (O : List Tok) (cf : Nat → Bool) : ∀ i, (stL O cf i).1 ≤ i
  | 0 => by simp [stL]
  | i + 1 => by
    have := stL_cnt O cf i
    unfold stL
    split
    · show (stL O cf i).1 + 1 ≤ i + 1; omega
    · show (stL O cf i).1 ≤ i + 1; omega
end Go.Proofs.YtnjadfgfpebkdaaGreat.D
namespace Go.Proofs.YtnjadfgfpebkdaaGreat.D
open Go.RowKit
open Go.Proofs.YtnjadfgfpebkdaaGreat.H (B64 Cp)
set_option linter.unusedVariables false
variable {m : Nat} {X : List Tk} {l : Fo} {r x : Int} {O : List Tok} {cf : Nat → Bool}
/-- Which go. -/
def cfOf (l : Fo) (r x : Int) (i : Nat) : Bool := decide ((G true l r)[i]?.getD (-1) ∈ G true l x)
theorem cf_at {i : Nat} {y : Int} (hy : (G true l r)[i]? = some y) : cfOf l r x i = decide (y ∈ G true l x) := by unfold cfOf; rw [hy]; rfl
theorem take_filter {p : Int → Bool} {A : List Int} {i : Nat} {y : Int} (hy : A[i]? = some y) : (A.take (i + 1)).filter p = (A.take i).filter p ++ (if p y then [y] else []) := by
  obtain ⟨hi, e⟩ := List.getElem?_eq_some_iff.1 hy
  rw [List.take_succ_eq_append_getElem hi, List.filter_append, e]
  congr 1
  cases hp : p y with
  | true => rw [List.filter_cons_of_pos hp]; rfl
  | false => rw [List.filter_cons_of_neg (by simp [hp])]; rfl
/-- The count, so far. -/
theorem stL_fst (hO : O.length = (G true l r).length) : ∀ i, i ≤ (G true l r).length → (stL O (cfOf l r x) i).1 = (((G true l r).take i).filter (fun y => decide (y ∈ G true l x))).length
  | 0, _ => by simp [stL]
  | i + 1, hi => by
    obtain ⟨y, hy⟩ : ∃ y, (G true l r)[i]? = some y := ⟨_, List.getElem?_eq_getElem (by omega)⟩
    have ih := stL_fst hO i (by omega)
    unfold stL
    rw [cf_at hy, take_filter hy, List.length_append, ← ih]
    by_cases h : y ∈ G true l x
    · rw [decide_eq_true h]; rfl
    · rw [decide_eq_false h]; rfl
/-- What is gone, in its order. -/
theorem gone_at (h : Ok m l) (hr : r ∈ nums l) (hx : x ∈ G true l r) (hO : O.length = (G true l r).length) {i : Nat} {y : Int} (hy : (G true l r)[i]? = some y) (hc : y ∈ G true l x) : (G true l x)[(stL O (cfOf l r x) i).1]? = some y := by
  obtain ⟨hi, e⟩ := List.getElem?_eq_some_iff.1 hy
  rw [stL_fst hO i (by omega)]
  conv => lhs; arg 1; rw [← sub_filter h r hr x hx]
  have e1 : (G true l r).filter (fun z => decide (z ∈ G true l x)) = ((G true l r).take i).filter (fun z => decide (z ∈ G true l x)) ++ y :: ((G true l r).drop (i + 1)).filter (fun z => decide (z ∈ G true l x)) := by
    conv => lhs; rw [← List.take_append_drop i (G true l r), List.drop_eq_getElem_cons hi, e]
    rw [List.filter_append, List.filter_cons_of_pos (by simpa using hc)]
  rw [e1, List.getElem?_append_right (Nat.le_refl _), Nat.sub_self]
  rfl
theorem gone_all (h : Ok m l) (hr : r ∈ nums l) (hx : x ∈ G true l r) (hO : O.length = (G true l r).length) : (stL O (cfOf l r x) (G true l r).length).1 = (G true l x).length := by
  rw [stL_fst hO _ (Nat.le_refl _), List.take_length, sub_filter h r hr x hx]
/-- Those that are left. -/
def fl (l : Fo) (r x : Int) (i : Nat) : List Int := ((G true l r).take i).filter (fun y => decide (y ∉ G true l x))
theorem fl_succ {i : Nat} {y : Int} (hy : (G true l r)[i]? = some y) : fl l r x (i + 1) = fl l r x i ++ (if y ∈ G true l x then [] else [y]) := by
  unfold fl
  rw [take_filter hy]
  congr 1
  by_cases h : y ∈ G true l x
  · rw [if_neg (by simpa using h), if_pos h]
  · rw [if_pos (by simpa using h), if_neg h]
/-- A place in the list, and in what is left of it. -/
theorem fl_at {i p : Nat} {y : Int} (hp : p < i) (hy : (G true l r)[p]? = some y) (hc : y ∉ G true l x) : (fl l r x i)[(fl l r x p).length]? = some y := by
  have key : ∀ k, (fl l r x (p + 1 + k))[(fl l r x p).length]? = some y := by
    intro k
    induction k with
    | zero =>
      rw [Nat.add_zero, fl_succ hy, if_neg hc, List.getElem?_append_right (Nat.le_refl _), Nat.sub_self]
      rfl
    | succ k ih =>
      by_cases hk : p + 1 + k < (G true l r).length
      · rw [← Nat.add_assoc, fl_succ (List.getElem?_eq_getElem hk), List.getElem?_append_left (List.getElem?_eq_some_iff.1 ih).1]
        exact ih
      · have e1 : fl l r x (p + 1 + (k + 1)) = fl l r x (p + 1 + k) := by
          unfold fl
          rw [List.take_of_length_le (by omega), List.take_of_length_le (by omega)]
        rw [e1]; exact ih
  obtain ⟨k, rfl⟩ : ∃ k, i = p + 1 + k := ⟨i - (p + 1), by omega⟩
  exact key k
theorem stL_left (hT : Told X l (ob X r) O (G true l r)) (h : Ok m l) : ∀ i, i ≤ (G true l r).length →
    (stL O (cfOf l r x) i).2.1.length = (fl l r x i).length ∧
    (∀ (p : Nat) (y : Int), p < i → (G true l r)[p]? = some y → y ∉ G true l x → (stL O (cfOf l r x) i).2.2[p]? = some ((fl l r x p).length : Int)) ∧
    (∀ (j : Nat) (y : Int), (fl l r x i)[j]? = some y → ∃ q : Int, (stL O (cfOf l r x) i).2.1[j]? = some ((tk X y).1, rg X y, q) ∧ ((par l y = -1 ∧ q = -1) ∨ ∃ p : Nat, q = (p : Int) ∧ (fl l r x i)[p]? = some (par l y)))
  | 0, _ => ⟨by simp [stL, fl], fun p y hp => by omega, fun j y hj => by simp [fl] at hj⟩
  | i + 1, hi => by
    obtain ⟨y, hy⟩ : ∃ y, (G true l r)[i]? = some y := ⟨_, List.getElem?_eq_getElem (by omega)⟩
    obtain ⟨i1, i2, i3⟩ := stL_left hT h i (by omega)
    obtain ⟨hyn, hyo, q, hq, hqp⟩ := hT.at_ i y hy
    have hpick : pickN O i = ((tk X y).1, rg X y, q) := by unfold pickN; rw [hq]; rfl
    unfold stL
    rw [cf_at hy, fl_succ hy]
    by_cases hc : y ∈ G true l x
    · rw [if_pos (decide_eq_true hc), if_pos hc, List.append_nil]
      refine ⟨i1, fun p z hp hz hzc => ?_, i3⟩
      rcases Nat.lt_succ_iff_lt_or_eq.1 hp with h1 | h1
      · exact i2 p z h1 hz hzc
      · subst h1
        rw [hy] at hz
        cases hz
        exact absurd hc hzc
    · rw [if_neg (by simpa using hc), if_neg hc, hpick]
      simp only
      have hparc : ∀ p : Nat, q = (p : Int) → (G true l r)[p]? = some (par l y) → par l y ∉ G true l x := fun p _ hp hg => by
        obtain ⟨pp, hpp⟩ := mem_nums.1 hyn
        have e1 := par_eq h hpp
        rw [e1] at hg
        exact hc (G_trans h hg y (by
          have hpn := G_nums h hg
          rw [G_true_eq h hpn]
          exact List.mem_cons_of_mem _ (List.mem_flatMap.2 ⟨y, mem_ch.2 hpp, G_self h hyn⟩)))
      refine ⟨by rw [List.length_append, List.length_append, i1]; rfl, fun p z hp hz hzc => ?_, fun j z hj => ?_⟩
      · rcases Nat.lt_succ_iff_lt_or_eq.1 hp with h1 | h1
        · rw [List.getElem?_set_ne (by omega)]
          exact i2 p z h1 hz hzc
        · subst h1
          rw [List.getElem?_set_self (by rw [stL_plen, hT.len]; omega), i1]
      · by_cases hjl : j < (fl l r x i).length
        · rw [List.getElem?_append_left hjl] at hj
          obtain ⟨q', g1, g2⟩ := i3 j z hj
          refine ⟨q', by rw [List.getElem?_append_left (by rw [i1]; exact hjl)]; exact g1, ?_⟩
          rcases g2 with g2 | ⟨p, g2, g3⟩
          · exact .inl g2
          · exact .inr ⟨p, g2, by rw [List.getElem?_append_left (List.getElem?_eq_some_iff.1 g3).1]; exact g3⟩
        · rw [List.getElem?_append_right (by omega)] at hj
          have hj0 : j = (fl l r x i).length := by
            have := (List.getElem?_eq_some_iff.1 hj).1
            simp at this; omega
          subst hj0
          rw [Nat.sub_self] at hj
          cases hj
          rw [List.getElem?_append_right (by rw [i1]; exact Nat.le_refl _), i1, Nat.sub_self]
          refine ⟨_, rfl, ?_⟩
          rcases hqp with ⟨_, g2, g3⟩ | ⟨_, p, g1, g2, g3⟩
          · refine .inl ⟨g3, ?_⟩
            rw [g2, if_neg (by decide)]
          · have hpc := hparc p g2 g3
            refine .inr ⟨(fl l r x p).length, ?_, ?_⟩
            · rw [g2, if_pos (by omega), Int.toNat_natCast, i2 p _ g1 g3 hpc]; rfl
            · have := fl_at (x := x) g1 g3 hpc
              rw [List.getElem?_append_left (List.getElem?_eq_some_iff.1 this).1]
              exact this
/-- What is left is what the catalogue tells then. -/
theorem left_is (hv : Inv m X l) (hr : (r, -1) ∈ l) (hx : x ∈ G true l r) (hT : Told X l (ob X r) O (G true l r)) (h' : Inv m (zer X (G true l x)) (cuts l (G true l x))) :
    (stL O (cfOf l r x) (G true l r).length).2.1 = ofL m (zer X (G true l x)) (cuts l (G true l x)) (ob X r) := by
  have hrn : r ∈ nums l := mem_nums.2 ⟨_, hr⟩
  obtain ⟨l1, l2, l3⟩ := stL_left (x := x) hT hv.ok (G true l r).length (Nat.le_refl _)
  have hfl : fl l r x (G true l r).length = (G true l r).filter (fun y => decide (y ∉ G true l x)) := by unfold fl; rw [List.take_length]
  rw [hfl] at l1 l3
  have htk : ∀ y, y ∈ nums l → y ∉ G true l x → tk (zer X (G true l x)) y = tk X y := fun y hy hg => zer_tk _ _ _ (nums_nn hv.ok hy) (fun a ha => nums_nn hv.ok (G_nums hv.ok ha)) hg
  by_cases hrx : r ∈ G true l x
  · have e0 : x = r := by
      have h1 := (mem_G_iff hv.ok).1 hrx
      rw [U_eq hv.ok hr] at h1
      rcases List.mem_cons.1 h1 with h2 | h2
      · exact h2
      · rw [U_out (fun h3 => by have := nums_nn hv.ok h3; omega)] at h2; cases h2
    subst e0
    have e1 : (G true l x).filter (fun y => decide (y ∉ G true l x)) = [] := by
      rw [List.filter_eq_nil_iff]
      intro y hy
      simpa using hy
    rw [e1] at l1
    rw [List.eq_nil_of_length_eq_zero l1]
    symm
    rw [show ofL m (zer X (G true l x)) (cuts l (G true l x)) (ob X x) = [] from by
      unfold ofL
      rw [rootOf_none]
      intro r' hr' e
      have h1 := mem_cuts.1 hr'
      have h2 : ob X r' = ob X x := by
        have : ob (zer X (G true l x)) r' = ob X r' := by unfold ob; rw [htk r' (mem_nums.2 ⟨_, h1.1⟩) h1.2]
        rw [← this]; exact e
      exact h1.2 ((hv.mem_root hr).2 ⟨mem_nums.2 ⟨_, h1.1⟩, h2⟩)]
  · have hr' : (r, -1) ∈ cuts l (G true l x) := mem_cuts.2 ⟨hr, hrx⟩
    have hor : ob (zer X (G true l x)) r = ob X r := by unfold ob; rw [htk r hrn hrx]
    have hT' := told_at h' hr'
    rw [hor, cut_filter hv.ok h'.ok r hrn hrx] at hT'
    refine List.ext_getElem? (fun j => ?_)
    by_cases hj : j < ((G true l r).filter (fun y => decide (y ∉ G true l x))).length
    · obtain ⟨y, hy⟩ : ∃ y, ((G true l r).filter (fun y => decide (y ∉ G true l x)))[j]? = some y := ⟨_, List.getElem?_eq_getElem hj⟩
      obtain ⟨q, g1, g2⟩ := l3 j y hy
      obtain ⟨hyn, hyo, q', k1, k2⟩ := hT'.at_ j y hy
      have hyf := List.mem_filter.1 (List.mem_of_getElem? hy)
      have hyl := G_nums hv.ok hyf.1
      have hyx : y ∉ G true l x := of_decide_eq_true hyf.2
      obtain ⟨p, hp⟩ := mem_nums.1 hyl
      have epar : par (cuts l (G true l x)) y = par l y := by rw [par_eq hv.ok hp, par_eq h'.ok (mem_cuts.2 ⟨hp, hyx⟩)]
      have erg : rg (zer X (G true l x)) y = rg X y := by unfold rg; rw [htk y hyl hyx]
      rw [htk y hyl hyx, erg] at k1
      rw [epar] at k2
      have eq : q = q' := by
        rcases g2 with ⟨a1, a2⟩ | ⟨a, a1, a2⟩
        · rcases k2 with ⟨_, b2, _⟩ | ⟨_, b, _, b2, b3⟩
          · rw [a2, b2]
          · rw [a1] at b3
            have := nums_nn hv.ok (G_nums hv.ok (List.mem_filter.1 (List.mem_of_getElem? b3)).1)
            omega
        · rcases k2 with ⟨_, _, b3⟩ | ⟨_, b, _, b2, b3⟩
          · rw [b3] at a2
            have := nums_nn hv.ok (G_nums hv.ok (List.mem_filter.1 (List.mem_of_getElem? a2)).1)
            omega
          · have hnd : ((G true l r).filter (fun y => decide (y ∉ G true l x))).Nodup := List.Nodup.sublist List.filter_sublist (G_nodup hv.ok true r)
            have : a = b := nd_inj hnd a2 b3
            rw [a1, b2, this]
      rw [g1, k1, eq]
    · rw [List.getElem?_eq_none (by rw [l1]; omega), List.getElem?_eq_none (by rw [hT'.len]; omega)]
end Go.Proofs.YtnjadfgfpebkdaaGreat.D
namespace Go.Proofs.YtnjadfgfpebkdaaGreat.D
open Go.RowKit
open Go.Proofs.YtnjadfgfpebkdaaGreat.H (B64 Cp)
set_option linter.unusedVariables false
/-! ### under -/
theorem up_place {X : List Tk} {l : Fo} {o : Int} {O : List Tok} {Gs : List Int} {m : Nat} (h : Ok m l) (hT : Told X l o O Gs) : ∀ (i : Nat) (z : Int), Gs[i]? = some z → ∀ y ∈ U l z, ∃ j, j ≤ i ∧ Gs[j]? = some y := by
  intro i
  induction i using Nat.strongRecOn with
  | _ i ih =>
    intro z hz y hy
    obtain ⟨hzn, _, q, _, hq⟩ := hT.at_ i z hz
    obtain ⟨p, hp⟩ := mem_nums.1 hzn
    rw [U_eq h hp] at hy
    rcases List.mem_cons.1 hy with e | hy
    · exact ⟨i, Nat.le_refl _, by rw [e]; exact hz⟩
    · rw [par_eq h hp] at hq
      rcases hq with ⟨_, _, h3⟩ | ⟨_, k, h1, _, h3⟩
      · rw [h3, U_out (fun hh => by have := nums_nn h hh; omega)] at hy; cases hy
      · obtain ⟨j, hj, e⟩ := ih k h1 p h3 y hy
        exact ⟨j, by omega, e⟩
end Go.Proofs.YtnjadfgfpebkdaaGreat.D
namespace Go.Proofs.YtnjadfgfpebkdaaGreat.D
open Go.RowKit
open Go.Proofs.YtnjadfgfpebkdaaGreat.H (B64 Cp)
set_option linter.unusedVariables false

def UndR (w : World) (l : Fo) (Gs : List Int) (x y : Int) (t : Value) (W : World) : Prop := ∃ (k : Nat) (z : Int), t = .int .i64 (k : Int) ∧ Gs[k]? = some z ∧ Hid (x ∈ U l y ↔ x ∈ U l z) ∧ w = W
set_option maxRecDepth 100000 in
set_option maxHeartbeats 1000000 in
theorem under_any {w : World} {X : List Tk} {l : Fo} {o : Int} {O : List Tok} {Gs : List Int} {m : Nat} (h : Ok m l) (hT : Told X l o O Gs) {a : Option Addr} {n : Nat} (c : Nat) (hR : Rt w a n O) {i at_ : Nat} {x y : Int} (hy : Gs[i]? = some y) (hx : Gs[at_]? = some x) :
    Calls Tryz.prog 16 #[.slice a n c, .int .i64 (i : Int), .int .i64 (at_ : Int)] w fun e w' => e = .returned (.bool (decide (y ∈ G true l x))) ∧ w' = w := by
  have HO := hid h
  have HT := hid hT
  have HR := hid hR
  have HX := hid hx
  obtain ⟨d, hd⟩ : ∃ d, d = decide (y ∈ G true l x) := ⟨_, rfl⟩
  rw [← hd]
  have HD : Hid (d = decide (x ∈ U l y)) := by unfold Hid; rw [hd]; congr 1; exact propext (mem_G_iff h)
  have HY := hid hy
  clear h hT hR hx hd hy
  go_enter Tryz.func16, Tryz.ntmps16
  go_upto_region 1 with fail
  go_loopw [1] (UndR w l Gs x y) (fun t _ => (intOf t).toNat)
  case atStart => exact ⟨i, y, rfl, HY.out, hid Iff.rfl, rfl⟩
  case round =>
    obtain ⟨k, z, rfl, hz, HI, rfl⟩ := hrel
    have HZ := hid hz
    obtain ⟨hzn, hzo, q, hOk, hq⟩ := HT.out.at_ k z hz
    by_cases hgt : at_ < k
    · have hd1 : decide ((k : Int) > (at_ : Int)) = true := decide_eq_true (by omega)
      have hd2 : (at_ : Int) < (k : Int) := by omega
      obtain ⟨b, off, rfl, hcet⟩ := rt_at HR.out hOk
      obtain ⟨-, -, -, -, c4⟩ := hcet
      obtain ⟨_, p, hp1, hp2, hp3⟩ : 0 < k ∧ ∃ p : Nat, p < k ∧ q = (p : Int) ∧ Gs[p]? = some (par l z) := by
        rcases hq with ⟨h0, _⟩ | h1
        · omega
        · exact h1
      have hkn : k < n := by rw [← HR.out.len, HT.out.len]; exact (List.getElem?_eq_some_iff.1 hz).1
      have hkn2 : (k : Int) < (n : Int) := by omega
      have hk0 : (0 : Int) ≤ (k : Int) := by omega
      have HP : Hid (x ∈ U l y ↔ x ∈ U l (par l z)) := by
        unfold Hid
        rw [HI.out]
        obtain ⟨pp, hpp⟩ := mem_nums.1 hzn
        rw [U_eq HO.out hpp, par_eq HO.out hpp, List.mem_cons]
        refine ⟨fun h => h.resolve_left (fun e => ?_), .inr⟩
        rw [← e] at hz
        have : k = at_ := nd_inj HT.out.nd hz HX.out
        omega
      have HP3 := hid hp3
      subst hp2
      clear hz hzn hzo hOk hq hgt hkn hp3
      go_wp2
      exact ⟨⟨p, par l z, rfl, HP3.out, HP, rfl⟩, by simp [intOf]; exact hp1⟩
    · have hd1 : decide ((k : Int) > (at_ : Int)) = false := decide_eq_false (by omega)
      have hd2 : ¬ (at_ : Int) < (k : Int) := by omega
      have hd3 : decide (at_ < k) = false := decide_eq_false hgt
      have HE : Hid (d = ((k : Int) == (at_ : Int))) := by
        unfold Hid
        rw [HD.out]
        by_cases e : k = at_
        · subst e
          rw [HX.out] at hz
          cases hz
          rw [decide_eq_true (HI.out.2 (U_self HO.out hzn))]; simp
        · rw [decide_eq_false]
          · symm; simp; omega
          · intro hm
            obtain ⟨j, hj, ej⟩ := up_place HO.out HT.out k z hz x (HI.out.1 hm)
            have : j = at_ := nd_inj HT.out.nd ej HX.out
            omega
      clear hz hzn hzo hOk hq
      go_wp2
      go_ret
      exact ⟨by rw [HE.out]; rfl, rfl⟩
end Go.Proofs.YtnjadfgfpebkdaaGreat.D
namespace Go.Proofs.YtnjadfgfpebkdaaGreat.D
open Go.RowKit
open Go.Proofs.YtnjadfgfpebkdaaGreat.H (B64 Cp)
set_option linter.unusedVariables false

theorem obj_root {mo : Nat} {s : Sta} (h : Inv mo s.X s.l) {o : Int} (ho : hasO s.X s.l o = true) : ∃ r, (r, -1) ∈ s.l ∧ ob s.X r = o ∧ Told s.X s.l o (ofL mo s.X s.l o) (G true s.l r) := by
  obtain ⟨n, hn, e1⟩ := hasO_iff.1 ho
  obtain ⟨r, hr, hor, _⟩ := h.toRoot n hn
  have hro : ob s.X r = o := hor.trans e1
  have := told_at h hr
  rw [hro] at this
  exact ⟨r, hr, hro, this⟩
theorem ofL_len {mo : Nat} {X : List Tk} {l : Fo} (h : Inv mo X l) (o : Int) : (ofL mo X l o).length = inN X l o := by
  cases ho : hasO X l o with
  | false =>
    rw [(ofL_nil h o).2 ho]
    have := (not_congr (hasO_inN (X := X) (l := l) (o := o))).1 (by rw [ho]; decide)
    simp; omega
  | true =>
    obtain ⟨n, hn, e1⟩ := hasO_iff.1 ho
    obtain ⟨Gs, hT⟩ := h.told hn
    rw [e1] at hT
    rw [hT.len, hT.inn]
/-- What goes, of a token of the list. -/
theorem rev_of {mo : Nat} {s : Sta} (h : Inv mo s.X s.l) {r x o : Int} (hr : (r, -1) ∈ s.l) (hro : ob s.X r = o) (hx : x ∈ G true s.l r) (al : Bool) :
    revA al s (tk s.X x).1 = if partB (needB al) (rg s.X x) = false then ⟨[], 4, s⟩ else ⟨(G true s.l (if al then r else x)).map (fun k => (tk s.X k).1), 0, felled s (if al then r else x) o⟩ := by
  have hxn := G_nums h.ok hx
  have hxo : ob s.X x = o := (G_obj h hx).trans hro
  have hc : hasC s.X s.l (tk s.X x).1 = true := hasC_iff.2 ⟨x, hxn, rfl⟩
  have hf := findN_in h hxn
  have hw : whom al s (tk s.X x).1 = if al then r else x := by
    unfold whom
    rw [hf]
    cases al with
    | false => rfl
    | true =>
      show topOf s.X s.l (tk s.X x).1.1 = r
      have e : (tk s.X x).1.1 = ob s.X r := by rw [hro]; exact hxo
      rw [e, topOf_eq h hr]
  unfold revA
  rw [if_neg (by rw [hc]; decide), hf, hw]
  have e : (tk s.X x).1.1 = o := hxo
  rw [e]
theorem other_count {s : Sta} {xm o id : Int} (hne : id ≠ o) : (felled s xm o).L.count id = s.L.count id := by
  show (Q.subS s.L o _).count id = _
  unfold Q.subS
  split
  · rfl
  · exact Q.subL_other _ _ _ _ hne
theorem size_is {mo : Nat} {s : Sta} (h : Fit mo s) (o : Int) : ∃ sz : Nat, S.szV (S.atV s.V o) = .tuple #[.int .i64 (sz : Int), .bool (decide (0 < (ofL mo s.X s.l o).length))] := by
  rw [ofL_len h.inv]
  cases ha : S.atV s.V o with
  | none =>
    have hn : ¬ 0 < inN s.X s.l o := fun e => by
      obtain ⟨p, hp, ep⟩ := (h.obj o).2 (hasO_inN.2 e)
      unfold S.atV at ha
      rw [Option.map_eq_none_iff] at ha
      have := List.find?_eq_none.1 ha p hp
      simp [ep] at this
    rw [decide_eq_false hn]
    exact ⟨0, rfl⟩
  | some l =>
    have hp : 0 < inN s.X s.l o := by
      unfold S.atV at ha
      rw [Option.map_eq_some_iff] at ha
      obtain ⟨p, hp, _⟩ := ha
      have h1 := List.mem_of_find?_eq_some hp
      have h2 := List.find?_some hp
      simp only [decide_eq_true_eq] at h2
      exact hasO_inN.1 ((h.obj o).1 ⟨p, h1, h2⟩)
    rw [decide_eq_true hp]
    exact ⟨l.length, rfl⟩
theorem par1 {q : Int} : (bits .and .i64 q 1 == 1) = true ∨ (bits .and .i64 q 1 == 1) = false := by
  cases (bits .and .i64 q 1 == 1)
  · exact .inr rfl
  · exact .inl rfl
end Go.Proofs.YtnjadfgfpebkdaaGreat.D
