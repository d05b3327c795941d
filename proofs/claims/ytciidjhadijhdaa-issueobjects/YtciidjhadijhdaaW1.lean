import Derived.Test.YtciidjhadijhdaaP2
namespace Go.Proofs.Ytciidjhadijhdaa
set_option linter.unusedVariables false

theorem Ok.ahead {m : Nat} {l : Fo} (h : Ok m l) {j i : Nat} {k p c : Int} (hj : l[j]? = some (k, p)) (hi : l[i]? = some (c, k)) : j < i := by
  rcases h.par i c k hi with e | ⟨i', q, hlt, hq⟩
  · have := h.range k (mem_nums.2 ⟨p, List.mem_of_getElem? hj⟩)
    omega
  · have h1 : (nums l)[i']? = some k := by simp [nums, hq]
    have h2 : (nums l)[j]? = some k := by simp [nums, hj]
    have := nd_idx h.nodup h1 h2
    omega
/-- From the children to the parent. -/
theorem tree_ind {m : Nat} {l : Fo} (h : Ok m l) {P : Int → Prop} (hs : ∀ n ∈ nums l, (∀ c ∈ ch l n, P c) → P n) : ∀ n ∈ nums l, P n := by
  have key : ∀ (d j : Nat) (k p : Int), l[j]? = some (k, p) → l.length ≤ d + j → P k := by
    intro d
    induction d with
    | zero =>
      intro j k p hj hd
      have := (List.getElem?_eq_some_iff.1 hj).1
      omega
    | succ d ih =>
      intro j k p hj hd
      refine hs k (mem_nums.2 ⟨p, List.mem_of_getElem? hj⟩) (fun c hc => ?_)
      obtain ⟨i, hi⟩ := List.getElem?_of_mem (mem_ch.1 hc)
      have := h.ahead hj hi
      exact ih i c k hi (by omega)
  intro n hn
  obtain ⟨p, hp⟩ := mem_nums.1 hn
  obtain ⟨j, hj⟩ := List.getElem?_of_mem hp
  exact key l.length j n p hj (by omega)
/-- From the parent to the children. -/
theorem up_ind {m : Nat} {l : Fo} (h : Ok m l) {P : Int → Prop} (hs : ∀ n p, (n, p) ∈ l → (p ∈ nums l → P p) → P n) : ∀ n ∈ nums l, P n := by
  have key : ∀ (d j : Nat) (k p : Int), l[j]? = some (k, p) → j < d → P k := by
    intro d
    induction d with
    | zero => intro j k p hj hd; omega
    | succ d ih =>
      intro j k p hj hd
      refine hs k p (List.mem_of_getElem? hj) (fun hp => ?_)
      obtain ⟨q, hq⟩ := mem_nums.1 hp
      obtain ⟨i, hi⟩ := List.getElem?_of_mem hq
      have := h.ahead hi hj
      exact ih i p q hi (by omega)
  intro n hn
  obtain ⟨p, hp⟩ := mem_nums.1 hn
  obtain ⟨j, hj⟩ := List.getElem?_of_mem hp
  exact key (j + 1) j n p hj (by omega)

theorem fm_congr {f g : Int → List Int} : ∀ {L : List Int}, (∀ c ∈ L, f c = g c) → L.flatMap f = L.flatMap g
  | [], _ => rfl
  | c :: L, h => by
    rw [List.flatMap_cons, List.flatMap_cons, h c (by simp), fm_congr (fun x hx => h x (by simp [hx]))]
/-- In which order children are gone through. -/
def ord (e : Bool) (c : List Int) : List Int := if e then c else c.reverse
theorem mem_ord {e : Bool} {c : List Int} {x : Int} : x ∈ ord e c ↔ x ∈ c := by unfold ord; split <;> simp
def gn (e : Bool) (l : Fo) : Nat → Int → List Int
  | 0, _ => []
  | d + 1, n => n :: (ord e (ch l n)).flatMap (gn e l d)
theorem gn_stable {m : Nat} {l : Fo} (h : Ok m l) (e : Bool) : ∀ (d j : Nat) (k p : Int), l[j]? = some (k, p) → l.length ≤ d + j → gn e l (d + 1) k = gn e l d k := by
  intro d
  induction d with
  | zero =>
    intro j k p hj hd
    have := (List.getElem?_eq_some_iff.1 hj).1
    omega
  | succ d ih =>
    intro j k p hj hd
    show k :: (ord e (ch l k)).flatMap (gn e l (d + 1)) = k :: (ord e (ch l k)).flatMap (gn e l d)
    rw [fm_congr (fun c hc => ?_)]
    obtain ⟨i, hi⟩ := List.getElem?_of_mem (mem_ch.1 (mem_ord.1 hc))
    have := h.ahead hj hi
    exact ih i c k hi (by omega)
/-- A node and all below it, each ahead of its children. -/
def G (e : Bool) (l : Fo) (n : Int) : List Int := if n ∈ nums l then gn e l l.length n else []
theorem G_out {e : Bool} {l : Fo} {n : Int} (hn : n ∉ nums l) : G e l n = [] := by unfold G; rw [if_neg hn]
theorem G_eq {m : Nat} {l : Fo} (h : Ok m l) {e : Bool} {n : Int} (hn : n ∈ nums l) : G e l n = n :: (ord e (ch l n)).flatMap (G e l) := by
  obtain ⟨p, hp⟩ := mem_nums.1 hn
  obtain ⟨j, hj⟩ := List.getElem?_of_mem hp
  have h1 := gn_stable h e l.length j n p hj (by omega)
  have h2 : G e l n = gn e l l.length n := by unfold G; rw [if_pos hn]
  rw [h2, ← h1]
  show n :: (ord e (ch l n)).flatMap (gn e l l.length) = _
  rw [fm_congr (fun c hc => ?_)]
  unfold G
  rw [if_pos (ch_mem (mem_ord.1 hc))]
theorem G_self {m : Nat} {l : Fo} (h : Ok m l) {e : Bool} {n : Int} (hn : n ∈ nums l) : n ∈ G e l n := by rw [G_eq h hn]; simp

def par (l : Fo) (k : Int) : Int := ((l.find? (fun x => decide (x.1 = k))).map (·.2)).getD (-1)
theorem par_eq {m : Nat} {l : Fo} (h : Ok m l) {n p : Int} (hn : (n, p) ∈ l) : par l n = p := by
  unfold par
  cases hf : l.find? (fun x => decide (x.1 = n)) with
  | none => exact absurd (List.find?_eq_none.1 hf _ hn) (by simp)
  | some x =>
    have h1 := List.mem_of_find?_eq_some hf
    have h2 := List.find?_some hf
    simp only [decide_eq_true_eq] at h2
    obtain ⟨a, b⟩ := x
    simp only at h2
    subst h2
    exact h.uniq h1 hn
def un (l : Fo) : Nat → Int → List Int
  | 0, _ => []
  | d + 1, n => n :: (if par l n ∈ nums l then un l d (par l n) else [])
theorem un_stable {m : Nat} {l : Fo} (h : Ok m l) : ∀ (d j : Nat) (k p : Int), l[j]? = some (k, p) → j < d → un l (d + 1) k = un l d k := by
  intro d
  induction d with
  | zero => intro j k p hj hd; omega
  | succ d ih =>
    intro j k p hj hd
    show k :: (if par l k ∈ nums l then un l (d + 1) (par l k) else []) = k :: (if par l k ∈ nums l then un l d (par l k) else [])
    rw [par_eq h (List.mem_of_getElem? hj)]
    split
    · next hp =>
      obtain ⟨q, hq⟩ := mem_nums.1 hp
      obtain ⟨i, hi⟩ := List.getElem?_of_mem hq
      have := h.ahead hi hj
      rw [ih i p q hi (by omega)]
    · rfl
/-- A node, its parent, .. up to the root. -/
def U (l : Fo) (n : Int) : List Int := if n ∈ nums l then un l l.length n else []
theorem U_out {l : Fo} {n : Int} (hn : n ∉ nums l) : U l n = [] := by unfold U; rw [if_neg hn]
theorem U_eq {m : Nat} {l : Fo} (h : Ok m l) {n p : Int} (hn : (n, p) ∈ l) : U l n = n :: U l p := by
  obtain ⟨j, hj⟩ := List.getElem?_of_mem hn
  have hlt := (List.getElem?_eq_some_iff.1 hj).1
  have h1 := un_stable h l.length j n p hj hlt
  have h2 : U l n = un l l.length n := by unfold U; rw [if_pos (mem_nums.2 ⟨p, hn⟩)]
  rw [h2, ← h1]
  show n :: (if par l n ∈ nums l then un l l.length (par l n) else []) = _
  rw [par_eq h hn]
  rfl
theorem U_mem {l : Fo} {a x : Int} (h : a ∈ U l x) : x ∈ nums l := Classical.byContradiction fun hx => by rw [U_out hx] at h; cases h
theorem U_self {m : Nat} {l : Fo} (h : Ok m l) {n : Int} (hn : n ∈ nums l) : n ∈ U l n := by
  obtain ⟨p, hp⟩ := mem_nums.1 hn
  rw [U_eq h hp]
  simp
theorem U_up {m : Nat} {l : Fo} (h : Ok m l) {c a : Int} (hc : (c, a) ∈ l) (ha : a ∈ nums l) : ∀ x ∈ nums l, c ∈ U l x → a ∈ U l x := by
  refine up_ind h (fun x p hx ih hm => ?_)
  rw [U_eq h hx, List.mem_cons] at hm ⊢
  rcases hm with rfl | hm
  · rw [h.uniq hc hx]
    exact .inr (U_self h (by rw [← h.uniq hc hx]; exact ha))
  · exact .inr (ih (U_mem hm) hm)
theorem G_down {m : Nat} {l : Fo} (h : Ok m l) {e : Bool} {x p : Int} (hx : (x, p) ∈ l) : ∀ a ∈ nums l, p ∈ G e l a → x ∈ G e l a := by
  refine tree_ind h (fun a ha ih hm => ?_)
  rw [G_eq h ha, List.mem_cons, List.mem_flatMap] at hm ⊢
  rcases hm with rfl | ⟨c, hc, hm⟩
  · exact .inr ⟨x, mem_ord.2 (mem_ch.2 hx), G_self h (mem_nums.2 ⟨_, hx⟩)⟩
  · exact .inr ⟨c, hc, ih c (mem_ord.1 hc) hm⟩
theorem G_to_U {m : Nat} {l : Fo} (h : Ok m l) {e : Bool} : ∀ a ∈ nums l, ∀ x ∈ G e l a, a ∈ U l x := by
  refine tree_ind h (fun a ha ih x hm => ?_)
  rw [G_eq h ha, List.mem_cons, List.mem_flatMap] at hm
  rcases hm with rfl | ⟨c, hc, hm⟩
  · exact U_self h ha
  · have h1 := ih c (mem_ord.1 hc) x hm
    exact U_up h (mem_ch.1 (mem_ord.1 hc)) ha x (U_mem h1) h1
theorem U_to_G {m : Nat} {l : Fo} (h : Ok m l) {e : Bool} : ∀ x ∈ nums l, ∀ a ∈ U l x, x ∈ G e l a := by
  refine up_ind h (fun x p hx ih a ha => ?_)
  rw [U_eq h hx, List.mem_cons] at ha
  rcases ha with rfl | ha
  · exact G_self h (mem_nums.2 ⟨_, hx⟩)
  · have h1 := ih (U_mem ha) a ha
    refine G_down h hx a (Classical.byContradiction fun hn => ?_) h1
    rw [G_out hn] at h1
    cases h1
theorem mem_G_iff {m : Nat} {l : Fo} (h : Ok m l) {e : Bool} {a x : Int} : x ∈ G e l a ↔ a ∈ U l x := by
  constructor
  · intro hx
    refine G_to_U h a (Classical.byContradiction fun hn => ?_) x hx
    rw [G_out hn] at hx
    cases hx
  · intro ha
    exact U_to_G h x (U_mem ha) a ha
theorem G_nums {m : Nat} {l : Fo} (h : Ok m l) {e : Bool} {a x : Int} (hx : x ∈ G e l a) : x ∈ nums l := U_mem ((mem_G_iff h).1 hx)
theorem U_pos {m : Nat} {l : Fo} (h : Ok m l) : ∀ x ∈ nums l, ∀ y ∈ U l x, ∀ (i j : Nat) (p q : Int), l[i]? = some (y, p) → l[j]? = some (x, q) → i ≤ j := by
  refine up_ind h (fun x p hx ih y hy i j r q hi hj => ?_)
  rw [U_eq h hx, List.mem_cons] at hy
  rcases hy with rfl | hy
  · have h1 : (nums l)[i]? = some y := by simp [nums, hi]
    have h2 : (nums l)[j]? = some y := by simp [nums, hj]
    rw [nd_idx h.nodup h1 h2]
    exact Nat.le_refl _
  · have hp := U_mem hy
    obtain ⟨r2, hr2⟩ := mem_nums.1 hp
    obtain ⟨i2, hi2⟩ := List.getElem?_of_mem hr2
    have hq : q = p := h.uniq (List.mem_of_getElem? hj) hx
    subst hq
    have h1 := h.ahead hi2 hj
    have h2 := ih hp y hy i i2 r r2 hi hi2
    omega
theorem U_par {m : Nat} {l : Fo} (h : Ok m l) {c p : Int} (hc : (c, p) ∈ l) : c ∉ U l p := by
  intro hm
  obtain ⟨q, hq⟩ := mem_nums.1 (U_mem hm)
  obtain ⟨i, hi⟩ := List.getElem?_of_mem hc
  obtain ⟨j, hj⟩ := List.getElem?_of_mem hq
  have h1 := U_pos h p (U_mem hm) c hm i j p q hi hj
  have h2 := h.ahead hj hi
  omega
theorem U_one {m : Nat} {l : Fo} (h : Ok m l) {c1 c2 a : Int} (h1 : (c1, a) ∈ l) (h2 : (c2, a) ∈ l) : ∀ x ∈ nums l, c1 ∈ U l x → c2 ∈ U l x → c1 = c2 := by
  refine up_ind h (fun x p hx ih hm1 hm2 => ?_)
  rw [U_eq h hx, List.mem_cons] at hm1 hm2
  rcases hm1 with rfl | hm1 <;> rcases hm2 with rfl | hm2
  · rfl
  · rw [h.uniq hx h1] at hm2
    exact absurd hm2 (U_par h h2)
  · rw [h.uniq hx h2] at hm1
    exact absurd hm1 (U_par h h1)
  · exact ih (U_mem hm1) hm1 hm2
theorem fm_nodup {f : Int → List Int} : ∀ {L : List Int}, L.Nodup → (∀ c ∈ L, (f c).Nodup) → (∀ c1 ∈ L, ∀ c2 ∈ L, ∀ x, x ∈ f c1 → x ∈ f c2 → c1 = c2) → (L.flatMap f).Nodup
  | [], _, _, _ => by simp
  | c :: L, h1, h2, h3 => by
    rw [List.nodup_cons] at h1
    rw [List.flatMap_cons, List.nodup_append]
    refine ⟨h2 c (by simp), fm_nodup h1.2 (fun x hx => h2 x (by simp [hx])) (fun a ha b hb => h3 a (by simp [ha]) b (by simp [hb])), fun a ha b hb e => ?_⟩
    subst e
    rw [List.mem_flatMap] at hb
    obtain ⟨d, hd, hb⟩ := hb
    have := h3 c (by simp) d (by simp [hd]) a ha hb
    subst this
    exact h1.1 hd
theorem nd_rev {c : List Int} (h : c.Nodup) : c.reverse.Nodup := List.pairwise_reverse.2 (h.imp (fun h e => h e.symm))
theorem ord_nodup {e : Bool} {c : List Int} (h : c.Nodup) : (ord e c).Nodup := by
  unfold ord
  split
  · exact h
  · exact nd_rev h
theorem G_nodup {m : Nat} {l : Fo} (h : Ok m l) (e : Bool) (n : Int) : (G e l n).Nodup := by
  by_cases hn : n ∈ nums l
  · refine tree_ind h (P := fun n => (G e l n).Nodup) (fun a ha ih => ?_) n hn
    rw [G_eq h ha, List.nodup_cons]
    refine ⟨fun hm => ?_, fm_nodup (ord_nodup (h.chNodup a)) (fun c hc => ih c (mem_ord.1 hc)) (fun c1 hc1 c2 hc2 x hx1 hx2 => ?_)⟩
    · rw [List.mem_flatMap] at hm
      obtain ⟨c, hc, hm⟩ := hm
      exact U_par h (mem_ch.1 (mem_ord.1 hc)) ((mem_G_iff h).1 hm)
    · exact U_one h (mem_ch.1 (mem_ord.1 hc1)) (mem_ch.1 (mem_ord.1 hc2)) x (G_nums h hx1) ((mem_G_iff h).1 hx1) ((mem_G_iff h).1 hx2)
  · rw [G_out hn]; exact List.nodup_nil
theorem G_len {m : Nat} {l : Fo} (h : Ok m l) (e : Bool) (n : Int) : (G e l n).length ≤ m := pigeon m _ (G_nodup h e n) (fun x hx => h.range x (G_nums h hx))
/-- Each stands behind its parent. -/
def Aft (l : Fo) : List Int → List Int → Prop
  | _, [] => True
  | q, x :: L => par l x ∈ q ∧ Aft l (x :: q) L
theorem Aft.mono {l : Fo} : ∀ {L q q' : List Int}, (∀ x ∈ q, x ∈ q') → Aft l q L → Aft l q' L
  | [], _, _, _, _ => trivial
  | x :: L, q, q', hq, h => ⟨hq _ h.1, Aft.mono (fun y hy => by
      rw [List.mem_cons] at hy ⊢
      exact hy.imp id (hq y)) h.2⟩
theorem Aft.app {l : Fo} : ∀ {A B q : List Int}, Aft l q A → Aft l q B → Aft l q (A ++ B)
  | [], _, _, _, h => h
  | x :: A, B, q, h1, h2 => ⟨h1.1, Aft.app h1.2 (h2.mono (fun y hy => List.mem_cons_of_mem _ hy))⟩
theorem Aft.fm {l : Fo} {f : Int → List Int} {q : List Int} : ∀ {L : List Int}, (∀ c ∈ L, Aft l q (f c)) → Aft l q (L.flatMap f)
  | [], _ => trivial
  | c :: L, h => by
    rw [List.flatMap_cons]
    exact (h c (by simp)).app (Aft.fm (fun x hx => h x (by simp [hx])))
theorem Aft.get {l : Fo} : ∀ {L q : List Int} {i : Nat} {x : Int}, Aft l q L → L[i]? = some x → par l x ∈ q ∨ par l x ∈ L.take i
  | [], _, _, _, _, h => by simp at h
  | y :: L, q, 0, x, h, hx => by
    simp at hx
    subst hx
    exact .inl h.1
  | y :: L, q, i + 1, x, h, hx => by
    rw [List.getElem?_cons_succ] at hx
    rcases h.2.get hx with h1 | h1
    · rw [List.mem_cons] at h1
      rcases h1 with h1 | h1
      · exact .inr (by rw [List.take_succ_cons, h1]; simp)
      · exact .inl h1
    · exact .inr (by rw [List.take_succ_cons]; exact List.mem_cons_of_mem _ h1)
theorem G_aft {m : Nat} {l : Fo} (h : Ok m l) : ∀ a ∈ nums l, ∀ q, par l a ∈ q → Aft l q (G true l a) := by
  refine tree_ind h (fun a ha ih q hq => ?_)
  rw [G_eq h ha]
  exact ⟨hq, Aft.fm (fun c hc => ih c (mem_ord.1 hc) _ (by rw [par_eq h (mem_ch.1 (mem_ord.1 hc))]; simp))⟩
/-- All but the first of a subtree stand behind their parents. -/
theorem G_behind {m : Nat} {l : Fo} (h : Ok m l) {n : Int} {i : Nat} {x : Int} (hi : 0 < i) (hx : (G true l n)[i]? = some x) : par l x ∈ (G true l n).take i := by
  have hn : n ∈ nums l := Classical.byContradiction fun hn => by rw [G_out hn] at hx; simp at hx
  rw [G_eq h hn] at hx ⊢
  obtain ⟨j, rfl⟩ : ∃ j, i = j + 1 := ⟨i - 1, by omega⟩
  rw [List.getElem?_cons_succ] at hx
  have h1 : Aft l [n] ((ord true (ch l n)).flatMap (G true l)) :=
    Aft.fm (fun c hc => G_aft h c (ch_mem (mem_ord.1 hc)) _ (by rw [par_eq h (mem_ch.1 (mem_ord.1 hc))]; simp))
  rcases h1.get hx with h2 | h2
  · rw [List.take_succ_cons]
    rw [List.mem_singleton] at h2
    rw [h2]
    simp
  · rw [List.take_succ_cons]
    exact List.mem_cons_of_mem _ h2
end Go.Proofs.Ytciidjhadijhdaa
