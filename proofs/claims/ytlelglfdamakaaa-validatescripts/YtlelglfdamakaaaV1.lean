import Derived.Test.YtlelglfdamakaaaMP
import Derived.Test.YtlelglfdamakaaaMO
namespace Go.Proofs.Ytlelglfdamakaaa
open H
set_option linter.unusedVariables false

/-- A token: its capability and rights. -/
abbrev Tk := Cp × Int
def tz : Tk := ((0, 0, 0), 0)
/-- The token that stands at a number. -/
def tk (X : List Tk) (n : Int) : Tk := (X[n.toNat]?).getD tz
def ob (X : List Tk) (n : Int) : Int := (tk X n).1.1
def rg (X : List Tk) (n : Int) : Int := (tk X n).2
def validB (r : Int) : Bool := decide (1 ≤ r ∧ r ≤ 31)
def partB (a b : Int) : Bool := validB a && validB b && decide (a.toNat &&& b.toNat = a.toNat)
theorem validB_iff {r : Int} : validB r = true ↔ 1 ≤ r ∧ r ≤ 31 := by unfold validB; exact decide_eq_true_iff
theorem partB_valid {a b : Int} (h : partB a b = true) : validB a = true := by
  unfold partB at h; simp only [Bool.and_eq_true] at h; exact h.1.1

/-- What a catalogue keeps to: its tokens by number, its forest. -/
structure Inv (m : Nat) (X : List Tk) (l : Fo) : Prop where
  ok : Ok m l
  len : X.length = m
  one : ∀ a ∈ nums l, ∀ b ∈ nums l, (tk X a).1 = (tk X b).1 → a = b
  val : ∀ a ∈ nums l, validB (rg X a) = true
  up : ∀ n p, (n, p) ∈ l → p ≠ -1 → ob X n = ob X p ∧ partB (rg X n) (rg X p) = true
  root : ∀ a b, (a, -1) ∈ l → (b, -1) ∈ l → ob X a = ob X b → a = b
  wide : ∀ a ∈ nums l, (tk X a).1.2.1 < B64 ∧ (tk X a).1.2.2 < B64

theorem nd_sub : ∀ {A B : List Int}, A.Nodup → (∀ x ∈ A, x ∈ B) → A.length ≤ B.length
  | [], B, _, _ => Nat.zero_le _
  | a :: A, B, hn, h => by
    rw [List.nodup_cons] at hn
    have h1 := nd_sub (A := A) (B := B.erase a) hn.2 (fun x hx => by
      have hne : x ≠ a := fun e => hn.1 (e ▸ hx)
      exact (List.mem_erase_of_ne hne).2 (h x (List.mem_cons_of_mem _ hx)))
    have h2 := List.length_erase_of_mem (h a (List.mem_cons_self ..))
    have h3 := List.length_pos_of_mem (h a (List.mem_cons_self ..))
    rw [List.length_cons]
    omega
/-- The numbers ahead of k. -/
def firsts (k : Nat) : List Int := (List.range k).map (fun (i : Nat) => (i : Int))
theorem firsts_len (k : Nat) : (firsts k).length = k := by simp [firsts]
theorem mem_firsts {k : Nat} {x : Int} : x ∈ firsts k ↔ 0 ≤ x ∧ x < (k : Int) := by
  unfold firsts
  simp only [List.mem_map, List.mem_range]
  constructor
  · rintro ⟨i, hi, rfl⟩; omega
  · rintro ⟨h0, h1⟩; exact ⟨x.toNat, by omega, by omega⟩
theorem firsts_nodup (k : Nat) : (firsts k).Nodup := by
  unfold firsts
  rw [List.Nodup, List.pairwise_map]
  exact List.nodup_range.imp (fun h e => h (by exact_mod_cast e))
/-- The lowest number that is free. -/
def lowF (l : Fo) : Nat → Nat → Nat
  | k, 0 => k
  | k, f + 1 => if (k : Int) ∈ nums l then lowF l (k + 1) f else k
def low (l : Fo) : Nat := lowF l 0 (l.length + 1)
theorem lowF_eq {l : Fo} {k : Nat} (h : (k : Int) ∉ nums l) (hb : ∀ j : Nat, j < k → (j : Int) ∈ nums l) : ∀ (f j : Nat), j ≤ k → k < j + f → lowF l j f = k
  | 0, j, h1, h2 => by omega
  | f + 1, j, h1, h2 => by
    unfold lowF
    by_cases e : j = k
    · subst e; rw [if_neg h]
    · rw [if_pos (hb j (by omega))]
      exact lowF_eq h hb f (j + 1) (by omega) (by omega)
theorem nums_len (l : Fo) : (nums l).length = l.length := by simp [nums]
theorem low_bound {l : Fo} {k : Nat} (hb : ∀ j : Nat, j < k → (j : Int) ∈ nums l) : k ≤ l.length := by
  have := nd_sub (firsts_nodup k) (B := nums l) (fun x hx => by
    have := mem_firsts.1 hx
    have e : x = (x.toNat : Int) := by omega
    rw [e]; exact hb _ (by omega))
  rw [firsts_len, nums_len] at this
  exact this
theorem low_eq {l : Fo} {k : Nat} (h : (k : Int) ∉ nums l) (hb : ∀ j : Nat, j < k → (j : Int) ∈ nums l) : low l = k := by
  have := low_bound hb
  exact lowF_eq h hb _ 0 (Nat.zero_le _) (by omega)
theorem low_ex (l : Fo) : ∃ k : Nat, (k : Int) ∉ nums l ∧ ∀ j : Nat, j < k → (j : Int) ∈ nums l := by
  have : ∀ n : Nat, (∃ k : Nat, (k : Int) ∉ nums l ∧ ∀ j : Nat, j < k → (j : Int) ∈ nums l) ∨ ∀ j : Nat, j < n → (j : Int) ∈ nums l := by
    intro n
    induction n with
    | zero => exact .inr (fun j h => by omega)
    | succ n ih =>
      rcases ih with h | h
      · exact .inl h
      · by_cases hn : (n : Int) ∈ nums l
        · refine .inr (fun j hj => ?_)
          by_cases e : j = n
          · rw [e]; exact hn
          · exact h j (by omega)
        · exact .inl ⟨n, hn, h⟩
  rcases this (l.length + 1) with h | h
  · exact h
  · have := low_bound h; omega
theorem low_not (l : Fo) : (low l : Int) ∉ nums l := by
  obtain ⟨k, h1, h2⟩ := low_ex l
  rw [low_eq h1 h2]; exact h1
theorem low_ahead {l : Fo} {j : Nat} (h : j < low l) : (j : Int) ∈ nums l := by
  obtain ⟨k, h1, h2⟩ := low_ex l
  rw [low_eq h1 h2] at h; exact h2 j h
/-- Where there is room, the lowest free number is one. -/
theorem low_lt {m : Nat} {l : Fo} (h : Ok m l) (hl : l.length < m) : low l < m := by
  have := low_bound (l := l) (k := low l) (fun j hj => low_ahead hj)
  omega
theorem low_full {m : Nat} {l : Fo} (h : Ok m l) (hl : low l < m) : l.length < m := by
  have h1 := nd_sub (A := (low l : Int) :: nums l) (B := firsts m) (List.nodup_cons.2 ⟨low_not l, h.nodup⟩) (fun x hx => by
    rcases List.mem_cons.1 hx with rfl | hx
    · exact mem_firsts.2 (by omega)
    · exact mem_firsts.2 (h.range x hx))
  rw [firsts_len, List.length_cons, nums_len] at h1
  omega
theorem tk_set_same {X : List Tk} {k : Nat} (x : Tk) (h : k < X.length) : tk (X.set k x) (k : Int) = x := by
  unfold tk; simp [h]
theorem tk_set_other {X : List Tk} {k : Nat} (x : Tk) {n : Int} (h0 : 0 ≤ n) (h : n ≠ (k : Int)) : tk (X.set k x) n = tk X n := by
  unfold tk; rw [List.getElem?_set_ne (by omega)]
/-- Numbers set to nothing. -/
def zer (X : List Tk) : List Int → List Tk
  | [] => X
  | a :: A => zer (X.set a.toNat tz) A
theorem zer_len : ∀ (A : List Int) (X : List Tk), (zer X A).length = X.length
  | [], X => rfl
  | a :: A, X => by unfold zer; rw [zer_len, List.length_set]
theorem zer_snoc : ∀ (A : List Int) (X : List Tk) (a : Int), zer X (A ++ [a]) = (zer X A).set a.toNat tz
  | [], X, a => rfl
  | b :: A, X, a => by show zer (X.set b.toNat tz) (A ++ [a]) = _; rw [zer_snoc]; rfl
theorem zer_tk : ∀ (A : List Int) (X : List Tk) (n : Int), 0 ≤ n → (∀ a ∈ A, 0 ≤ a) → n ∉ A → tk (zer X A) n = tk X n
  | [], X, n, _, _, _ => rfl
  | a :: A, X, n, h0, hA, hn => by
    unfold zer
    rw [zer_tk A _ n h0 (fun x hx => hA x (List.mem_cons_of_mem _ hx)) (fun h => hn (List.mem_cons_of_mem _ h))]
    have ha := hA a (List.mem_cons_self ..)
    have : (a.toNat : Int) = a := by omega
    exact tk_set_other tz h0 (fun e => hn (by rw [e, this]; exact List.mem_cons_self ..))

theorem nums_nn {m : Nat} {l : Fo} (h : Ok m l) {k : Int} (hk : k ∈ nums l) : 0 ≤ k := (h.range k hk).1
theorem Inv.ext {m : Nat} {X Y : List Tk} {l : Fo} (h : Inv m X l) (hl : Y.length = m) (he : ∀ a ∈ nums l, tk Y a = tk X a) : Inv m Y l := by
  have ho : ∀ a ∈ nums l, ob Y a = ob X a := fun a ha => by unfold ob; rw [he a ha]
  have hr : ∀ a ∈ nums l, rg Y a = rg X a := fun a ha => by unfold rg; rw [he a ha]
  refine ⟨h.ok, hl, fun a ha b hb e => h.one a ha b hb (by rw [← he a ha, ← he b hb]; exact e), fun a ha => by rw [hr a ha]; exact h.val a ha, fun n p hp h1 => ?_, fun a b ha hb e => ?_, fun a ha => by rw [he a ha]; exact h.wide a ha⟩
  · have hn := mem_nums.2 ⟨p, hp⟩
    have hp2 : p ∈ nums l := (h.ok.up hp).resolve_left h1
    rw [ho n hn, ho p hp2, hr n hn, hr p hp2]
    exact h.up n p hp h1
  · rw [ho a (mem_nums.2 ⟨_, ha⟩), ho b (mem_nums.2 ⟨_, hb⟩)] at e
    exact h.root a b ha hb e
theorem mem_cuts {l : Fo} {A : List Int} {x : Int × Int} : x ∈ cuts l A ↔ x ∈ l ∧ x.1 ∉ A := by unfold cuts; rw [List.mem_filter, decide_eq_true_eq]
/-- A part of the tokens goes, so that what is left is a forest. -/
theorem Inv.cuts {m : Nat} {X : List Tk} {l : Fo} (h : Inv m X l) (A : List Int) (hk : Ok m (cuts l A)) : Inv m X (cuts l A) := by
  have hs : ∀ a ∈ nums (Go.Proofs.Ytlelglfdamakaaa.cuts l A), a ∈ nums l := fun a ha => (nums_cuts.1 ha).1
  exact ⟨hk, h.len, fun a ha b hb e => h.one a (hs a ha) b (hs b hb) e, fun a ha => h.val a (hs a ha), fun n p hp h1 => h.up n p (mem_cuts.1 hp).1 h1, fun a b ha hb e => h.root a b (mem_cuts.1 ha).1 (mem_cuts.1 hb).1 e, fun a ha => h.wide a (hs a ha)⟩
/-- Is a token of the object there? -/
def hasO (X : List Tk) (l : Fo) (o : Int) : Bool := (nums l).any (fun n => decide (ob X n = o))
def hasC (X : List Tk) (l : Fo) (c : Cp) : Bool := (nums l).any (fun n => decide ((tk X n).1 = c))
theorem hasO_iff {X : List Tk} {l : Fo} {o : Int} : hasO X l o = true ↔ ∃ n ∈ nums l, ob X n = o := by unfold hasO; simp
theorem hasC_iff {X : List Tk} {l : Fo} {c : Cp} : hasC X l c = true ↔ ∃ n ∈ nums l, (tk X n).1 = c := by unfold hasC; simp
theorem hasO_of_hasC {X : List Tk} {l : Fo} {c : Cp} (h : hasC X l c = true) : hasO X l c.1 = true := by
  obtain ⟨n, hn, e⟩ := hasC_iff.1 h
  exact hasO_iff.2 ⟨n, hn, by unfold ob; rw [e]⟩
/-- A token more. -/
theorem Inv.add {m : Nat} {X : List Tk} {l : Fo} (h : Inv m X l) {k : Nat} {p : Int} {c : Cp} {r : Int} (hk : k < m) (hn : (k : Int) ∉ nums l) (hc : hasC X l c = false) (hw : c.2.1 < B64 ∧ c.2.2 < B64) (hv : validB r = true)
    (hp : (p = -1 ∧ hasO X l c.1 = false) ∨ (p ∈ nums l ∧ ob X p = c.1 ∧ partB r (rg X p) = true)) : Inv m (X.set k (c, r)) (l ++ [((k : Int), p)]) := by
  have hlen : k < X.length := by rw [h.len]; exact hk
  have hs := tk_set_same (X := X) (c, r) hlen
  have ho : ∀ a ∈ nums l, tk (X.set k (c, r)) a = tk X a := fun a ha => tk_set_other _ (nums_nn h.ok ha) (fun e => hn (e ▸ ha))
  have hN : ∀ a, a ∈ nums (l ++ [((k : Int), p)]) ↔ a ∈ nums l ∨ a = (k : Int) := fun a => by rw [nums_app, List.mem_append, List.mem_singleton]
  have hC : ∀ a ∈ nums l, (tk X a).1 ≠ c := fun a ha e => by
    have := hasC_iff.2 ⟨a, ha, e⟩; rw [hc] at this; cases this
  have hpn : p ≠ (k : Int) := by
    rcases hp with ⟨rfl, _⟩ | ⟨hp, _⟩
    · omega
    · exact fun e => hn (e ▸ hp)
  have hob : ∀ a ∈ nums l, ob (X.set k (c, r)) a = ob X a := fun a ha => by unfold ob; rw [ho a ha]
  have hrg : ∀ a ∈ nums l, rg (X.set k (c, r)) a = rg X a := fun a ha => by unfold rg; rw [ho a ha]
  have hobk : ob (X.set k (c, r)) (k : Int) = c.1 := by unfold ob; rw [hs]
  have hrgk : rg (X.set k (c, r)) (k : Int) = r := by unfold rg; rw [hs]
  refine ⟨h.ok.add (by omega) (by omega) hn (hp.imp (·.1) (·.1)), by rw [List.length_set]; exact h.len, ?_, ?_, ?_, ?_, ?_⟩
  · intro a ha b hb e
    rcases (hN a).1 ha with ha | rfl <;> rcases (hN b).1 hb with hb | rfl
    · rw [ho a ha, ho b hb] at e; exact h.one a ha b hb e
    · rw [ho a ha, hs] at e; exact absurd e (hC a ha)
    · rw [ho b hb, hs] at e; exact absurd e.symm (hC b hb)
    · rfl
  · intro a ha
    rcases (hN a).1 ha with ha | rfl
    · rw [hrg a ha]; exact h.val a ha
    · rw [hrgk]; exact hv
  · intro n q hq h1
    rw [List.mem_append, List.mem_singleton, Prod.mk.injEq] at hq
    rcases hq with hq | ⟨rfl, rfl⟩
    · have hn1 := mem_nums.2 ⟨q, hq⟩
      have hq1 : q ∈ nums l := (h.ok.up hq).resolve_left h1
      rw [hob n hn1, hob q hq1, hrg n hn1, hrg q hq1]
      exact h.up n q hq h1
    · rcases hp with ⟨h2, _⟩ | ⟨hp1, hp2, hp3⟩
      · exact absurd h2 h1
      · rw [hobk, hrgk, hob _ hp1, hrg _ hp1]
        exact ⟨hp2.symm, hp3⟩
  · intro a b ha hb e
    rw [List.mem_append, List.mem_singleton, Prod.mk.injEq] at ha hb
    rcases ha with ha | ⟨rfl, hpa⟩ <;> rcases hb with hb | ⟨rfl, hpb⟩
    · rw [hob a (mem_nums.2 ⟨_, ha⟩), hob b (mem_nums.2 ⟨_, hb⟩)] at e
      exact h.root a b ha hb e
    · rcases hp with ⟨_, hf⟩ | ⟨hp1, _⟩
      · rw [hobk, hob a (mem_nums.2 ⟨_, ha⟩)] at e
        have := hasO_iff.2 ⟨a, mem_nums.2 ⟨_, ha⟩, e⟩
        rw [hf] at this; cases this
      · have := nums_nn h.ok hp1; omega
    · rcases hp with ⟨_, hf⟩ | ⟨hp1, _⟩
      · rw [hobk, hob b (mem_nums.2 ⟨_, hb⟩)] at e
        have := hasO_iff.2 ⟨b, mem_nums.2 ⟨_, hb⟩, e.symm⟩
        rw [hf] at this; cases this
      · have := nums_nn h.ok hp1; omega
    · rfl
  · intro a ha
    rcases (hN a).1 ha with ha | rfl
    · rw [ho a ha]; exact h.wide a ha
    · rw [hs]; exact hw
theorem Inv.init (m : Nat) : Inv m (List.replicate m tz) [] := by
  refine ⟨Ok.nil, by simp, ?_, ?_, ?_, ?_, ?_⟩
  · intro a ha; cases ha
  · intro a ha; cases ha
  · intro n p hp; cases hp
  · intro a b ha; cases ha
  · intro a ha; cases ha

/-- Each token's object has a root, at or above it. -/
theorem Inv.toRoot {m : Nat} {X : List Tk} {l : Fo} (h : Inv m X l) : ∀ n ∈ nums l, ∃ r, (r, -1) ∈ l ∧ ob X r = ob X n ∧ n ∈ G true l r := by
  refine up_ind h.ok (P := fun n => ∃ r, (r, -1) ∈ l ∧ ob X r = ob X n ∧ n ∈ G true l r) (fun n p hn ih => ?_)
  by_cases hp : p = -1
  · subst hp
    exact ⟨n, hn, rfl, G_self h.ok (mem_nums.2 ⟨_, hn⟩)⟩
  · have hp1 : p ∈ nums l := (h.ok.up hn).resolve_left hp
    obtain ⟨r, hr, ho, hG⟩ := ih hp1
    exact ⟨r, hr, by rw [ho, (h.up n p hn hp).1], G_down h.ok hn r (mem_nums.2 ⟨_, hr⟩) hG⟩
/-- All of a subtree are of one object. -/
theorem Inv.same {m : Nat} {X : List Tk} {l : Fo} (h : Inv m X l) : ∀ n ∈ nums l, ∀ a ∈ U l n, ob X a = ob X n := by
  refine up_ind h.ok (P := fun n => ∀ a ∈ U l n, ob X a = ob X n) (fun n p hn ih => ?_)
  intro a ha
  rw [U_eq h.ok hn] at ha
  rcases List.mem_cons.1 ha with rfl | ha
  · rfl
  · have hp := U_mem ha
    rw [ih hp a ha, (h.up n p hn (fun e => by have := nums_nn h.ok hp; omega)).1]
end Go.Proofs.Ytlelglfdamakaaa
