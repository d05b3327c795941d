import Derived.Test.YtgihdchgdejkhaaGreatDoorF2
import Derived.Test.YtgihdchgdejkhaaGreatDoorF3
import Derived.Test.YtgihdchgdejkhaaGreatDoorS1
namespace Go.Proofs.YtgihdchgdejkhaaGreatDoor.D
open Go.RowKit
open Go.Proofs.YtgihdchgdejkhaaGreatDoor.H (B64 Cp)
set_option linter.unusedVariables false

/-! ### DeriveWeaker, as plain lists -/
/-- A root has all rights; what has children may derive. -/
def Wk (s : Sta) : Prop := ∀ n p, (n, p) ∈ s.l → (p = -1 → rg s.X n = 31) ∧ (p ≠ -1 → partB 4 (rg s.X p) = true)
/-- What a call did that was refused. -/
structure Ref (P : Par) (s : Sta) (R : Ans) : Prop where
  c : R.c = (0, 0, 0)
  X : R.s.X = s.X
  l : R.s.l = s.l
  L : R.s.L = s.L
  t : ∃ q : Nat, R.s.t = s.t + q ∧ R.s.t ≤ P.n ∧ (q ≠ 0 → R.code = 11 ∨ R.code = 12) ∧ (R.code = 12 → q = 9) ∧ (R.code = 11 → R.s.t = P.n ∧ q ≤ 8)
/-- What a call did that made a token. -/
structure Mad (P : Par) (s : Sta) (o : Int) (R : Ans) : Prop where
  ex : ∃ (N : Nat) (p r : Int) (t : Nat), R.c = cap o N ∧ R.s = addS s o N p r t ∧ s.t < t ∧ t ≤ s.t + 9 ∧ t ≤ P.n ∧ Q.may P.e P.a s.L o = 0 ∧ May P s (cap o N) p r ∧ (p = -1 → r = 31) ∧ (p ≠ -1 → partB 4 (rg s.X p) = true)
theorem may_codes (e a : Int) (L : List Int) (x : Int) : Q.may e a L x = 0 ∨ Q.may e a L x = 9 ∨ Q.may e a L x = 10 := by
  unfold Q.may
  split
  · exact .inr (.inl rfl)
  · split
    · exact .inr (.inr rfl)
    · exact .inl rfl
theorem no_ref {P : Par} {s : Sta} (h : Fit P s) (c : Int) (h1 : c ≠ 11) (h2 : c ≠ 12) : Ref P s (no s c) := ⟨rfl, rfl, rfl, rfl, 0, rfl, h.le, fun h => absurd rfl h, fun h => absurd h h2, fun h => absurd h h1⟩
theorem tok_cases {P : Par} {s : Sta} (h : Fit P s) {o p r : Int} {D : Nat × Int × Nat} (hs : ∃ q : Nat, D.2.2 = s.t + q ∧ D.2.2 ≤ P.n ∧ ((D.2.1 = 0 ∧ 0 < q ∧ q ≤ 9) ∨ (D.2.1 = 11 ∧ D.2.2 = P.n ∧ q ≤ 8) ∨ (D.2.1 = 12 ∧ q = 9)))
    (hy : Q.may P.e P.a s.L o = 0 → D.2.1 = 0 → May P s (cap o D.1) p r) (hp : p = -1 → r = 31) (hq : p ≠ -1 → partB 4 (rg s.X p) = true) :
    ((tokR P s o D p r).code ≠ 0 ∧ Ref P s (tokR P s o D p r)) ∨ ((tokR P s o D p r).code = 0 ∧ Mad P s o (tokR P s o D p r)) := by
  obtain ⟨q, h1, h2, hc⟩ := hs
  unfold tokR
  by_cases hm : Q.may P.e P.a s.L o = 0
  · rw [if_neg (by simp [hm])]
    by_cases hd : D.2.1 = 0
    · rw [if_neg (by simp [hd])]
      refine .inr ⟨rfl, ⟨D.1, p, r, D.2.2, rfl, rfl, ?_, ?_, h2, hm, hy hm hd, hp, hq⟩⟩
      · rcases hc with ⟨_, g1, g2⟩ | ⟨g1, _⟩ | ⟨g1, _⟩
        · omega
        · rw [hd] at g1; cases g1
        · rw [hd] at g1; cases g1
      · rcases hc with ⟨_, g1, g2⟩ | ⟨g1, _⟩ | ⟨g1, _⟩
        · omega
        · rw [hd] at g1; cases g1
        · rw [hd] at g1; cases g1
    · rw [if_pos hd]
      refine .inl ⟨hd, rfl, rfl, rfl, rfl, q, h1, h2, fun _ => ?_, fun e => ?_, fun e => ?_⟩
      · rcases hc with ⟨g1, _⟩ | ⟨g1, _⟩ | ⟨g1, _⟩
        · exact absurd g1 hd
        · exact .inl g1
        · exact .inr g1
      · change D.2.1 = 12 at e
        rcases hc with ⟨g1, _⟩ | ⟨g1, _⟩ | ⟨_, g2⟩
        · exact absurd g1 hd
        · rw [e] at g1; cases g1
        · exact g2
      · change D.2.1 = 11 at e
        rcases hc with ⟨g1, _⟩ | ⟨_, g2, g3⟩ | ⟨g1, _⟩
        · exact absurd g1 hd
        · exact ⟨g2, g3⟩
        · rw [e] at g1; cases g1
  · rw [if_pos hm]
    rcases may_codes P.e P.a s.L o with e | e | e
    · exact absurd e hm
    · exact .inl ⟨hm, no_ref h _ (by rw [e]; decide) (by rw [e]; decide)⟩
    · exact .inl ⟨hm, no_ref h _ (by rw [e]; decide) (by rw [e]; decide)⟩
theorem root_cases {P : Par} {s : Sta} (h : Fit P s) (o : Int) : ((rootA P s o).code ≠ 0 ∧ Ref P s (rootA P s o)) ∨ ((rootA P s o).code = 0 ∧ Mad P s o (rootA P s o)) := by
  unfold rootA
  by_cases ho : 0 < inN s.X s.l o
  · rw [if_pos ho]
    exact .inl ⟨(fun e => by cases e), no_ref h _ (by decide) (by decide)⟩
  · rw [if_neg ho]
    refine tok_cases h ?_ (fun _ _ => rootMay h ho (drawD_small h s.t)) (fun _ => rfl) (fun e => absurd rfl e)
    have hle := h.le
    unfold drawD
    by_cases ht : s.t < P.n
    · rw [if_pos ht]; exact ⟨1, rfl, by show s.t + 1 ≤ P.n; omega, .inl ⟨rfl, by omega, by omega⟩⟩
    · rw [if_neg ht]; exact ⟨0, rfl, h.le, .inr (.inl ⟨rfl, by show s.t = P.n; omega, by omega⟩)⟩
theorem child_cases {P : Par} {s : Sta} (h : Fit P s) (c : Cp) (r : Int) : ((childA P s c r).code ≠ 0 ∧ Ref P s (childA P s c r)) ∨ ((childA P s c r).code = 0 ∧ Mad P s c.1 (childA P s c r)) := by
  unfold childA
  by_cases hc : hasC s.X s.l c = true
  · rw [if_neg (by rw [hc]; decide)]
    by_cases hp : partB 4 (rgt s c) = false ∨ partB r (rgt s c) = false
    · rw [if_pos hp]
      exact .inl ⟨(fun e => by cases e), no_ref h _ (by decide) (by decide)⟩
    · rw [if_neg hp]
      have hp1 : partB 4 (rgt s c) = true := by
        cases hq : partB 4 (rgt s c) with
        | true => rfl
        | false => exact absurd (.inl hq) hp
      have hp2 : partB r (rgt s c) = true := by
        cases hq : partB r (rgt s c) with
        | true => rfl
        | false => exact absurd (.inr hq) hp
      have hf := found h.inv hc
      have hnn := nums_nn h.inv.ok hf.1
      refine tok_cases h ?_ (fun _ hd => childMay h hc hp2 hd) (fun e => absurd e (by omega)) (fun _ => hp1)
      obtain ⟨q, h1, h2, h3, hcc⟩ := childD_spec h c.1
      refine ⟨q, h1, by rw [h1]; exact h3, ?_⟩
      rcases hcc with ⟨e1, e2, _⟩ | ⟨e1, _, e3, e4, _⟩ | ⟨e1, _, e3, _⟩
      · exact .inl ⟨e1, e2, h2⟩
      · exact .inr (.inl ⟨e1, by rw [h1]; exact e3, by omega⟩)
      · exact .inr (.inr ⟨e1, e3⟩)
  · rw [if_pos (by simpa using hc)]
    exact .inl ⟨(fun e => by cases e), no_ref h _ (by decide) (by decide)⟩
theorem Wk.ref {P : Par} {s : Sta} {R : Ans} (h : Wk s) (hr : Ref P s R) : Wk R.s := fun n p hp => by rw [hr.l] at hp; rw [hr.X]; exact h n p hp
theorem Wk.mad {P : Par} {s : Sta} {o : Int} {R : Ans} (hf : Fit P s) (h : Wk s) (hm : Mad P s o R) : Wk R.s := by
  obtain ⟨N, p0, r, t, hc, hs, _, _, _, hq, hy, hp, hp4⟩ := hm
  rw [hs]
  have hlo := low_lt hf.inv.ok (hf.room hq)
  have hlen : low s.l < s.X.length := by rw [hf.inv.len]; exact hlo
  have hold : ∀ a ∈ nums s.l, rg (s.X.set (low s.l) (cap o N, r)) a = rg s.X a := fun a ha => by unfold rg; rw [tk_set_other _ (nums_nn hf.inv.ok ha) (fun e => low_not s.l (e ▸ ha))]
  intro n p hnp
  rcases List.mem_append.1 hnp with h1 | h1
  · have hn := mem_nums.2 ⟨p, h1⟩
    obtain ⟨g1, g2⟩ := h n p h1
    refine ⟨fun e => by rw [show rg (addS s o N p0 r t).X n = rg s.X n from hold n hn]; exact g1 e, fun e => ?_⟩
    have hp2 : p ∈ nums s.l := (hf.inv.ok.up h1).resolve_left e
    rw [show rg (addS s o N p0 r t).X p = rg s.X p from hold p hp2]
    exact g2 e
  · obtain ⟨rfl, rfl⟩ := Prod.mk.inj (List.mem_singleton.1 h1)
    refine ⟨fun e => ?_, fun e => ?_⟩
    · show rg (s.X.set (low s.l) (cap o N, r)) (low s.l : Int) = 31
      unfold rg
      rw [tk_set_same _ hlen]
      exact hp e
    · have hin : p ∈ nums s.l := by
        rcases hy.at_ with ⟨g, _⟩ | ⟨g, _⟩
        · exact absurd g e
        · exact g
      rw [show rg (addS s o N p r t).X p = rg s.X p from hold p hin]
      exact hp4 e
theorem Wk.start (mo : Nat) : Wk (s0 mo) := fun n p h => by cases h
/-- How many tokens Of tells. -/
theorem of_len {m : Nat} {X : List Tk} {l : Fo} (h : Inv m X l) (o : Int) : (ofL m X l o).length = inN X l o := by
  by_cases ho : 0 < inN X l o
  · obtain ⟨n, hn, e⟩ := hasO_iff.1 (hasO_inN.2 ho)
    obtain ⟨Gs, hT⟩ := h.told hn
    rw [e] at hT
    rw [hT.len, hT.inn]
  · have hz : inN X l o = 0 := by omega
    rw [hz]
    have : rootOf X l o = none := rootOf_none (fun r hr e => ho (hasO_inN.1 (hasO_iff.2 ⟨r, mem_nums.2 ⟨_, hr⟩, e⟩)))
    unfold ofL
    rw [this]
    rfl
/-- What the law asks of the tokens that are told. -/
structure NowP (O : List Tok) (x : Cp) : Prop where
  one : ∀ (j k : Nat) (a b : Tok), O[j]? = some a → O[k]? = some b → a.1 = b.1 → j = k
  k0 : ∃ (k : Nat) (a : Tok), O[k]? = some a ∧ a.1 = x
  fst : ∀ a : Tok, O[0]? = some a → a.2.2 = -1 ∧ a.2.1 = 31
  nxt : ∀ (k : Nat) (a : Tok), 0 < k → O[k]? = some a → ∃ p : Nat, p < k ∧ a.2.2 = (p : Int) ∧ ∃ b : Tok, O[p]? = some b ∧ partB a.2.1 b.2.1 = true ∧ partB 4 b.2.1 = true
theorem now_ok {P : Par} {s : Sta} {o : Int} {R : Ans} (hf : Fit P s) (h : Wk s) (hm : Mad P s o R) (hf2 : Fit P R.s) : NowP (ofL P.mo R.s.X R.s.l o) R.c := by
  have hw := h.mad hf hm
  obtain ⟨N, p0, r, t, hc, hs, _, _, _, hq, hy, hp, hp4⟩ := hm
  have hlo := low_lt hf.inv.ok (hf.room hq)
  have hlen : low s.l < s.X.length := by rw [hf.inv.len]; exact hlo
  have hnew : (low s.l : Int) ∈ nums R.s.l := by rw [hs]; exact mem_nums.2 ⟨p0, List.mem_append_right _ (List.mem_singleton.2 rfl)⟩
  have hcap : (tk R.s.X (low s.l : Int)).1 = cap o N := by rw [hs]; show (tk (s.X.set (low s.l) (cap o N, r)) (low s.l : Int)).1 = _; rw [tk_set_same _ hlen]
  have hob : ob R.s.X (low s.l : Int) = o := by unfold ob; rw [hcap]; rfl
  obtain ⟨Gs, hT⟩ := hf2.inv.told hnew
  rw [hob] at hT
  have get : ∀ (k : Nat) (a : Tok), (ofL P.mo R.s.X R.s.l o)[k]? = some a → ∃ x, Gs[k]? = some x ∧ x ∈ nums R.s.l ∧ a.1 = (tk R.s.X x).1 ∧ a.2.1 = rg R.s.X x ∧ ((k = 0 ∧ a.2.2 = -1 ∧ par R.s.l x = -1) ∨ (0 < k ∧ ∃ p : Nat, p < k ∧ a.2.2 = (p : Int) ∧ Gs[p]? = some (par R.s.l x))) := fun k a ha => by
    have hk : k < Gs.length := by rw [← hT.len]; exact (List.getElem?_eq_some_iff.1 ha).1
    obtain ⟨h1, h2, q, h3, h4⟩ := hT.at_ k Gs[k] (List.getElem?_eq_getElem hk)
    rw [ha] at h3
    cases h3
    exact ⟨Gs[k], List.getElem?_eq_getElem hk, h1, rfl, rfl, h4⟩
  have hpar : ∀ x ∈ nums R.s.l, (x, par R.s.l x) ∈ R.s.l := fun x hx => by
    obtain ⟨p, hxp⟩ := mem_nums.1 hx
    rw [par_eq hf2.inv.ok hxp]
    exact hxp
  refine ⟨fun j k a b ha hb e => ?_, ?_, fun a ha => ?_, fun k a hk ha => ?_⟩
  · obtain ⟨x, gx, mx, ex, _⟩ := get j a ha
    obtain ⟨y, gy, my, ey, _⟩ := get k b hb
    have exy : x = y := hf2.inv.one x mx y my (by rw [← ex, ← ey, e])
    subst exy
    exact (List.getElem?_inj (List.getElem?_eq_some_iff.1 gx).1 hT.nd).1 (gx.trans gy.symm)
  · have hm : (low s.l : Int) ∈ Gs := by
      have hx := (ofL_iff hf2.inv o (cap o N)).2 ⟨rfl, hasC_iff.2 ⟨_, hnew, hcap⟩⟩
      obtain ⟨j, a, ha, e⟩ := hx
      obtain ⟨x, gx, mx, ex, _⟩ := get j a ha
      have : x = (low s.l : Int) := hf2.inv.one x mx _ hnew (by rw [← ex, e, hcap])
      rw [← this]
      exact List.mem_of_getElem? gx
    obtain ⟨k, hk⟩ := List.getElem?_of_mem hm
    obtain ⟨_, _, q, h3, _⟩ := hT.at_ k _ hk
    exact ⟨k, _, h3, by rw [hc]; exact hcap⟩
  · obtain ⟨x, gx, mx, ex, er, h4⟩ := get 0 a ha
    rcases h4 with ⟨_, e2, e3⟩ | ⟨e, _⟩
    · refine ⟨e2, ?_⟩
      rw [er]
      exact (hw x _ (hpar x mx)).1 e3
    · omega
  · obtain ⟨x, gx, mx, ex, er, h4⟩ := get k a ha
    rcases h4 with ⟨e, _⟩ | ⟨_, p, hpk, e2, e3⟩
    · omega
    · refine ⟨p, hpk, e2, ?_⟩
      obtain ⟨h1, _, q, h3, _⟩ := hT.at_ p _ e3
      have hne : par R.s.l x ≠ -1 := fun e => by have := nums_nn hf2.inv.ok h1; omega
      refine ⟨_, h3, ?_, (hw x _ (hpar x mx)).2 hne⟩
      rw [er]
      exact (hf2.inv.up x _ (hpar x mx) hne).2
end Go.Proofs.YtgihdchgdejkhaaGreatDoor.D
namespace Go.Proofs.YtgihdchgdejkhaaGreatDoor.D
open Go.RowKit
open Go.Proofs.YtgihdchgdejkhaaGreatDoor.H (B64 Cp)
set_option linter.unusedVariables false

/-! ### DeriveTwins, as plain numbers -/
def twW (at_ many j : Nat) : Nat := if at_ < many ∧ j = 1 + at_ then 0 else 1
theorem twW_small (at_ many j : Nat) : twW at_ many j < B64 * B64 := by unfold twW; split <;> decide
theorem cut_one {wd : Int} (h : 1 ≤ wd) : cutN 1 wd = 1 := Nat.mod_eq_of_lt (by
  have h1 : 2 ^ 1 ≤ 2 ^ wd.toNat := Nat.pow_le_pow_right (by omega) (by omega)
  omega)
theorem tw_cut {wd : Int} (h : 1 ≤ wd) (at_ many j : Nat) : cutF (twW at_ many) wd j = twW at_ many j := by
  unfold cutF twW
  split
  · exact Nat.zero_mod _
  · exact cut_one h
def TP (wd : Int) (at_ many : Nat) : Par := ⟨9, 9, 9, many + 1, cutF (twW at_ many) wd⟩
def y1 : Sta := addS (s0 9) 5 1 (-1) 31 1
theorem cap50 : cap 5 0 = (5, 0, 0) := by kernel_rfl
theorem cap51 : cap 5 1 = (5, 0, 1) := by kernel_rfl
theorem y1_has : hasC y1.X y1.l (5, 0, 1) = true := by kernel_rfl
theorem y1_rgt : rgt y1 (5, 0, 1) = 31 := by kernel_rfl
theorem y1_may : Q.may 9 9 y1.L 5 = 0 := by kernel_rfl
theorem y1_one : ofP y1.X y1.l 5 1 = true := by kernel_rfl
theorem y1_two : ofP y1.X y1.l 5 0 = false := by kernel_rfl
theorem y1_cnt : y1.L.count 5 = 1 := by kernel_rfl
theorem tp_fit {wd : Int} (h : 1 ≤ wd) (at_ many : Nat) : Fit (TP wd at_ many) (s0 9) := Fit.start _ (fun i _ => by show cutF (twW at_ many) wd i < _; rw [tw_cut h]; exact twW_small _ _ _) (by show (9 : Int) ≤ ((9 : Nat) : Int); decide)
theorem tw_root {wd : Int} (h : 1 ≤ wd) (at_ many : Nat) : rootA (TP wd at_ many) (s0 9) 5 = ⟨(5, 0, 1), 0, y1⟩ := by
  have hc : drawD (TP wd at_ many) (s0 9).t = (1, 0, 1) := by
    unfold drawD
    rw [if_pos (show (s0 9).t < (TP wd at_ many).n from Nat.succ_pos _)]
    show (cutF (twW at_ many) wd 0, _, _) = _
    rw [tw_cut h]
    have : twW at_ many 0 = 1 := by unfold twW; rw [if_neg (by omega)]
    rw [this]; rfl
  unfold rootA
  rw [hc, if_neg (by decide)]
  unfold tokR
  rw [if_neg (show ¬ (Q.may (TP wd at_ many).e (TP wd at_ many).a (s0 9).L 5 ≠ 0) from by show ¬ (Q.may 9 9 [] 5 ≠ 0); decide), if_neg (by decide)]
  show (⟨cap 5 1, 0, y1⟩ : Ans) = _
  rw [cap51]
theorem tw_fit1 {wd : Int} (h : 1 ≤ wd) (at_ many : Nat) : Fit (TP wd at_ many) y1 := by
  have := (tp_fit h at_ many).root 5
  rwa [tw_root h] at this
theorem tw_draw {wd : Int} (h : 1 ≤ wd) (at_ many : Nat) : childD (TP wd at_ many) y1 5 = if at_ < many ∧ at_ < 9 then (0, 0, at_ + 2) else if 9 ≤ many then (0, 12, 10) else (0, 11, many + 1) := by
  obtain ⟨q, h1, h2, h3, hc⟩ := childD_spec (tw_fit1 h at_ many) 5
  generalize childD (TP wd at_ many) y1 5 = R at *
  obtain ⟨r1, r2, r3⟩ := R
  have hy : y1.t = 1 := rfl
  rw [hy] at h1 h3 hc
  change 1 + q ≤ many + 1 at h3
  simp only at h1
  subst h1
  have hcc : ∀ j, (TP wd at_ many).c j = twW at_ many j := fun j => tw_cut h at_ many j
  simp only [hcc] at hc
  have hall : ∀ m, (∀ j, j < m → ofP y1.X y1.l 5 (twW at_ many (1 + j)) = true) → ∀ j, j < m → ¬ (at_ < many ∧ j = at_) := fun m hm j hj he => by
    have := hm j hj
    have e : twW at_ many (1 + j) = 0 := by unfold twW; rw [if_pos ⟨he.1, by omega⟩]
    rw [e, y1_two] at this
    cases this
  rcases hc with ⟨e1, e2, e3, e4, e5⟩ | ⟨e1, e2, e3, e4, e5⟩ | ⟨e1, e2, e3, e5⟩
  · change r2 = 0 at e1
    change r1 = _ at e3
    change ofP _ _ 5 r1 = false at e4
    subst e1
    have hq : at_ < many ∧ q = 1 + at_ := by
      by_cases hx : at_ < many ∧ 1 + q - 1 = 1 + at_
      · exact ⟨hx.1, by omega⟩
      · have : twW at_ many (1 + q - 1) = 1 := by unfold twW; rw [if_neg hx]
        rw [e3, this, y1_one] at e4
        cases e4
    have e6 : r1 = 0 := by rw [e3]; unfold twW; rw [if_pos ⟨hq.1, by omega⟩]
    rw [if_pos ⟨hq.1, by omega⟩, e6]
    congr 2
    omega
  · change r2 = 11 at e1
    change r1 = 0 at e2
    subst e1 e2
    change 1 + q = many + 1 at e3
    have hn : ¬ at_ < many := fun hx => hall q e5 at_ (by omega) ⟨hx, rfl⟩
    rw [if_neg (by omega), if_neg (by omega)]
    congr 2
  · change r2 = 12 at e1
    change r1 = 0 at e2
    subst e1 e2
    have hn : ¬ (at_ < many ∧ at_ < 9) := fun hx => hall q e5 at_ (by omega) ⟨hx.1, rfl⟩
    rw [if_neg hn, if_pos (by omega)]
    congr 2
    omega
/-- What Child answers there. -/
theorem tw_child {wd : Int} (h : 1 ≤ wd) (at_ many : Nat) :
    (at_ < many ∧ at_ < 9 ∧ ∃ s, childA (TP wd at_ many) y1 (5, 0, 1) 31 = ⟨(5, 0, 0), 0, s⟩ ∧ s.t = at_ + 2) ∨
    (¬ (at_ < many ∧ at_ < 9) ∧ 9 ≤ many ∧ ∃ s, childA (TP wd at_ many) y1 (5, 0, 1) 31 = ⟨(0, 0, 0), 12, s⟩ ∧ s.t = 10 ∧ s.L.count 5 = 1) ∨
    (¬ (at_ < many ∧ at_ < 9) ∧ ¬ 9 ≤ many ∧ ∃ s, childA (TP wd at_ many) y1 (5, 0, 1) 31 = ⟨(0, 0, 0), 11, s⟩ ∧ s.t = many + 1 ∧ s.L.count 5 = 1) := by
  have hA : childA (TP wd at_ many) y1 (5, 0, 1) 31 = (if (childD (TP wd at_ many) y1 5).2.1 ≠ 0 then no { y1 with t := (childD (TP wd at_ many) y1 5).2.2 } (childD (TP wd at_ many) y1 5).2.1 else ⟨cap 5 (childD (TP wd at_ many) y1 5).1, 0, addS y1 5 (childD (TP wd at_ many) y1 5).1 (findN y1.X y1.l (5, 0, 1)) 31 (childD (TP wd at_ many) y1 5).2.2⟩) := by
    unfold childA
    rw [if_neg (by rw [y1_has]; decide), y1_rgt, if_neg (by decide)]
    unfold tokR
    rw [if_neg (by show ¬ (Q.may 9 9 y1.L 5 ≠ 0); rw [y1_may]; decide)]
  rw [hA, tw_draw h]
  by_cases h1 : at_ < many ∧ at_ < 9
  · rw [if_pos h1]
    exact .inl ⟨h1.1, h1.2, addS y1 5 0 (findN y1.X y1.l (5, 0, 1)) 31 (at_ + 2), by rw [if_neg (show ¬ (0 : Int) ≠ 0 by decide)]; show (⟨cap 5 0, 0, _⟩ : Ans) = _; rw [cap50], rfl⟩
  · rw [if_neg h1]
    by_cases h2 : 9 ≤ many
    · rw [if_pos h2]
      exact .inr (.inl ⟨h1, h2, { y1 with t := 10 }, by rw [if_pos (by decide)]; rfl, rfl, y1_cnt⟩)
    · rw [if_neg h2]
      exact .inr (.inr ⟨h1, h2, { y1 with t := many + 1 }, by rw [if_pos (show (11 : Int) ≠ 0 by decide)]; rfl, rfl, y1_cnt⟩)
end Go.Proofs.YtgihdchgdejkhaaGreatDoor.D
namespace Go.Proofs.YtgihdchgdejkhaaGreatDoor.D
open Go.RowKit
open Go.Proofs.YtgihdchgdejkhaaGreatDoor.H (B64 Cp)
set_option linter.unusedVariables false

/-! ### DeriveTwins -/
/-- A world of the law in a variable. -/
structure Wl (w : World) (b : Nat) (wd en ea kn : Int) (a : Option Addr) (n cap : Nat) : Prop where
  c0 : Lies w ⟨b, 0, none⟩ (.int .i64 wd)
  c1 : Lies w ⟨b, 1, none⟩ (.int .i64 en)
  c2 : Lies w ⟨b, 2, none⟩ (.int .i64 ea)
  c3 : Lies w ⟨b, 3, none⟩ (.int .i64 kn)
  c4 : Lies w ⟨b, 4, none⟩ (.slice a n cap)
theorem Wl.but {S : Nat → Prop} {w w' : World} {b : Nat} {wd en ea kn : Int} {a : Option Addr} {n cap : Nat} (h : Wl w b wd en ea kn a n cap) (hb : But S w w') (hn : ¬ S b) : Wl w' b wd en ea kn a n cap := ⟨h.c0.but hb hn, h.c1.but hb hn, h.c2.but hb hn, h.c3.but hb hn, h.c4.but hb hn⟩
theorem Wl.later {w w' : World} {b : Nat} {wd en ea kn : Int} {a : Option Addr} {n cap : Nat} (h : Wl w b wd en ea kn a n cap) (hb : Below w.heap.size w w') : Wl w' b wd en ea kn a n cap := h.but (S := fun _ => False) (But.of hb) (fun h => h)
theorem Wl.mk_ (w : World) (wd en ea kn : Int) (a : Option Addr) (n cap : Nat) : Wl (w.alloc (Obj.cells #[.int .i64 wd, .int .i64 en, .int .i64 ea, .int .i64 kn, .slice a n cap] 24)) w.heap.size wd en ea kn a n cap :=
  ⟨⟨by simp [go_sem], by simp [go_sem]⟩, ⟨by simp [go_sem], by simp [go_sem]⟩, ⟨by simp [go_sem], by simp [go_sem]⟩, ⟨by simp [go_sem], by simp [go_sem]⟩, ⟨by simp [go_sem], by simp [go_sem]⟩⟩
theorem _root_.Go.Proofs.YtgihdchgdejkhaaGreatDoor.Lies.off {w : World} {b o o' : Nat} {v u : Value} (h : Lies w ⟨b, o, none⟩ v) (hne : o' ≠ o) : Lies (w.setCell ⟨b, o', none⟩ u) ⟨b, o, none⟩ v := h.other (fun e => hne (Addr.mk.inj e).2.1)
def set5w (w : World) (b : Nat) (wd en ea kn : Int) (a : Option Addr) (n cap : Nat) : World := ((((w.setCell ⟨b, 0, none⟩ (.int .i64 wd)).setCell ⟨b, 1, none⟩ (.int .i64 en)).setCell ⟨b, 2, none⟩ (.int .i64 ea)).setCell ⟨b, 3, none⟩ (.int .i64 kn)).setCell ⟨b, 4, none⟩ (.slice a n cap)
theorem Wl.set {w : World} {b : Nat} {wd en ea kn : Int} {a : Option Addr} {n cap : Nat} (h : Wl w b wd en ea kn a n cap) (wd' en' ea' kn' : Int) (a' : Option Addr) (n' cap' : Nat) : Wl (set5w w b wd' en' ea' kn' a' n' cap') b wd' en' ea' kn' a' n' cap' :=
  ⟨(((h.c0.put.off (by omega)).off (by omega)).off (by omega)).off (by omega), ((((h.c1.off (by omega)).put).off (by omega)).off (by omega)).off (by omega), ((((h.c2.off (by omega)).off (by omega)).put).off (by omega)).off (by omega), ((((h.c3.off (by omega)).off (by omega)).off (by omega)).put).off (by omega), ((((h.c4.off (by omega)).off (by omega)).off (by omega)).off (by omega)).put⟩
theorem set5w_but {S : Nat → Prop} {a w : World} (h : But S a w) {b : Nat} (hb : a.heap.size ≤ b) (wd en ea kn : Int) (x : Option Addr) (n cap : Nat) : But S a (set5w w b wd en ea kn x n cap) :=
  ((((h.put (p := ⟨b, 0, none⟩) hb _).put (p := ⟨b, 1, none⟩) hb _).put (p := ⟨b, 2, none⟩) hb _).put (p := ⟨b, 3, none⟩) hb _).put (p := ⟨b, 4, none⟩) hb _
theorem Below.ofBut {w w' : World} (h : But (fun _ => False) w w') : Below w.heap.size w w' := But.below (Below.refl _ _) h (fun _ h => h.elim)
theorem neqW (a b c d : Int) (w : World) : (binOp .neq 30 (.agg #[.int .u64 a, .int .u64 b]) (.agg #[.int .u64 c, .int .u64 d])).run Tryz.prog w = .ok (.bool (!wEq a b c d)) w := by
  unfold wEq
  by_cases h1 : a = c
  · subst h1
    by_cases h2 : b = d
    · subst h2
      simp [go_sem]
    · simp [go_sem, h2]
  · simp [go_sem, h1]
/-- The words that are gathered. -/
structure Tw (w W : World) (b0 b7 : Nat) (wd en ea kn : Int) (a : Option Addr) (k c : Nat) : Prop where
  v : Wl W b0 wd en ea kn a k c
  o7 : Box W b7 0 1
  o8 : Box W (b7 + 1) 0 0
  ow : Ow W (b7 + 2) 30 2 a k c (wvs (fun _ => 1) k)
  lo : w.heap.size ≤ b0 ∧ b0 < b7
  b : Below w.heap.size w W
def TwRel (w : World) (b0 b7 : Nat) (wd en ea kn : Int) (m : Nat) (t : Value) (W : World) : Prop :=
  ∃ (i : Nat) (a : Option Addr) (c : Nat), i ≤ m ∧ t = .int .i64 (i : Int) ∧ Hid (Tw w W b0 b7 wd en ea kn a (i + 1) c)
theorem wcs_one : wcs 1 = [.int .u64 0, .int .u64 1] := by kernel_rfl
theorem Gr.box {a a' : Option Addr} {w w' : World} {b : Nat} {x y : Int} (h : Box w b x y) (hg : Gr a a' w w') (hn : ¬ Blk a b) : Box w' b x y := h.but hg.but hn
theorem tw_step {w W : World} {b0 b7 : Nat} {wd en ea kn : Int} {a : Option Addr} {k c : Nat} (h : Tw w W b0 b7 wd en ea kn a k c) (hk : k ≤ 100) :
    ∃ a' c' w9, (Builtin.append_ #[22, 22] 22 #[.slice a k c, .slice (some ⟨W.heap.size, 0, none⟩) 1 1]).run Tryz.prog (W.alloc (Obj.cells #[.int .u64 0, .int .u64 1] 30)) = .ok (.slice a' (k + 1) c') w9 ∧ Lies w9 ⟨b0, 4, none⟩ (.slice a k c) ∧ Tw w (w9.setCell ⟨b0, 4, none⟩ (.slice a' (k + 1) c')) b0 b7 wd en ea kn a' (k + 1) c' := by
  have hcr := Cr.lit W 30 [.int .u64 0, .int .u64 1] (fun u hu => by
    simp only [List.mem_cons, List.not_mem_nil, or_false] at hu
    rcases hu with rfl | rfl <;> rfl)
  have hb7 : b7 + 1 < W.heap.size := World.block_lt_of_cell? _ _ h.o8.1
  have hB := below1 W (Obj.cells #[.int .u64 0, .int .u64 1] 30)
  obtain ⟨a', c', w9, hrun, hO, hG0⟩ := append_k 22 30 _ 2 16 Tryz.underlying22 info30 rfl (by omega) (by omega) (h.ow.later hB) hcr (by simp; omega) (by omega)
  have hG := hG0.pre hB
  have hO : Ow w9 (b7 + 2) 30 2 a' (k + 1) c' (wvs (fun _ => 1) k ++ [.int .u64 0, .int .u64 1]) := hO
  have hbl : ∀ j, Blk a j → b7 + 2 ≤ j := fun j hj => (h.ow.blk j hj).1
  have hl := h.lo
  have hv : Wl w9 b0 wd en ea kn a k c := h.v.but hG.but (fun e => by have := hbl _ e; omega)
  have hle : w.heap.size ≤ W.heap.size := h.b.size
  refine ⟨a', c', w9, hrun, hv.c4, ⟨hv.c0.off (by omega), hv.c1.off (by omega), hv.c2.off (by omega), hv.c3.off (by omega), hv.c4.put⟩, (Gr.box h.o7 hG (fun e => by have := hbl _ e; omega)).but (S := (· = b0)) ((But.refl _ _).own _ _) (fun e => by omega), (Gr.box h.o8 hG (fun e => by have := hbl _ e; omega)).but (S := (· = b0)) ((But.refl _ _).own _ _) (fun e => by omega), ?_, h.lo, ?_⟩
  · rw [wvs_succ, wcs_one]
    exact hO.but (S := (· = b0)) ((But.refl _ _).own _ _) (fun j hj e => by have := (hO.blk j hj).1; omega)
  · exact But.below (S := fun j => j = b0 ∨ Blk a j) h.b ((hG.but.mono (fun j hj => .inr hj)).setCell (p := ⟨b0, 4, none⟩) (.inl rfl) _) (fun j hj => by
      rcases hj with rfl | hj
      · exact hl.1
      · have := hbl j hj; omega)
/-- The words are there. -/
structure Tq (w W : World) (b0 b7 : Nat) (wd en ea kn : Int) (a : Option Addr) (k c : Nat) (f : Nat → Nat) : Prop where
  v : Wl W b0 wd en ea kn a k c
  o7 : Box W b7 0 1
  o8 : Box W (b7 + 1) 0 0
  ws : Ws W a k c f
  ab : ∀ j, Blk a j → b7 + 2 ≤ j
  lo : w.heap.size ≤ b0 ∧ b0 < b7
  b : Below w.heap.size w W
theorem tw_here {w W : World} {b0 b7 : Nat} {wd en ea kn : Int} {a : Option Addr} {k c : Nat} (h : Tw w W b0 b7 wd en ea kn a (k + 1) c) : ∃ g, a = some ⟨g, 0, none⟩ ∧ Ar W g (k + 1) (fun _ => 1) ∧ b7 + 2 ≤ g ∧ k + 1 ≤ c ∧ (∀ j, j < (k + 1) * 2 → ∃ u, Lies W ⟨g, j, none⟩ u) := by
  rcases h.ow.2 with ⟨_, h'⟩ | ⟨g, cp, cur, hv, _⟩
  · omega
  · simp only [Value.slice.injEq] at hv
    obtain ⟨rfl, _, rfl⟩ := hv
    have ho := h.ow
    obtain ⟨h1, h2, h3⟩ := ar_of ho
    refine ⟨g, rfl, h1, h2, h3, fun j hj => ?_⟩
    have hc := World.ownsRow.cellAt ho j hj
    have hl : j < (wvs (fun _ => 1) (k + 1)).length := by rw [wvs_length]; exact hj
    rw [List.getElem?_eq_getElem hl] at hc
    exact ⟨_, hc, World.ownsRow.frozenAt ho j⟩
theorem tq_none {w W : World} {b0 b7 : Nat} {wd en ea kn : Int} {a : Option Addr} {k c : Nat} (h : Tw w W b0 b7 wd en ea kn a (k + 1) c) (at_ : Nat) (ha : ¬ at_ < k) : Tq w W b0 b7 wd en ea kn a (k + 1) c (twW at_ k) := by
  obtain ⟨g, rfl, har, hg, hc, _⟩ := tw_here h
  refine ⟨h.v, h.o7, h.o8, Ws.at hc (twW_small _ _) (fun i hi => ?_), fun j hj => (h.ow.blk j hj).1, h.lo, h.b⟩
  have e : twW at_ k i = 1 := by unfold twW; rw [if_neg (by omega)]
  rw [e]
  have := har.at_ i hi
  simpa using this
theorem tq_some {w W : World} {b0 b7 g : Nat} {wd en ea kn : Int} {k c : Nat} (h : Tw w W b0 b7 wd en ea kn (some ⟨g, 0, none⟩) (k + 1) c) (at_ : Nat) (ha : at_ < k) : Tq w ((W.setCell ⟨g, (1 + at_) * 2, none⟩ (.int .u64 0)).setCell ⟨g, (1 + at_) * 2 + 1, none⟩ (.int .u64 0)) b0 b7 wd en ea kn (some ⟨g, 0, none⟩) (k + 1) c (twW at_ k) := by
  obtain ⟨g', e, har, hg, hc, _⟩ := tw_here h
  cases e
  have hl := h.lo
  have hB : But (· = g) W ((W.setCell ⟨g, (1 + at_) * 2, none⟩ (.int .u64 0)).setCell ⟨g, (1 + at_) * 2 + 1, none⟩ (.int .u64 0)) := ((But.refl _ _).own _ _).own _ _
  have hset := har.set (g := twW at_ k) (i := 1 + at_) (N := 0) (by omega) (fun j hj => by
    unfold twW
    by_cases e : j = 1 + at_
    · rw [if_pos ⟨ha, e⟩, if_pos e]
    · rw [if_neg (fun x => e x.2), if_neg e])
  refine ⟨h.v.but hB (fun e => by omega), h.o7.but hB (fun e => by omega), h.o8.but hB (fun e => by omega), Ws.at hc (twW_small _ _) (fun i hi => ?_), fun j hj => by obtain ⟨x, hx, rfl⟩ := hj; cases hx; exact hg, h.lo, ?_⟩
  · have z1 : hiI 0 = 0 := by simp [hiI]
    have z2 : loI 0 = 0 := by simp [loI]
    have := hset.at_ i hi
    simpa [z1, z2] using this
  · exact But.below h.b hB (fun j hj => by omega)
set_option maxRecDepth 100000 in
set_option maxHeartbeats 8000000 in
theorem twins_any {w : World} (hl : Laid w) (wd en ea kn : Int) {a : Option Addr} {n0 cap : Nat} {f : Nat → Nat} (h : Ws w a n0 cap f) (hn0 : n0 ≤ 9223372036854775807) (x y : Int) :
    Calls Tryz.prog 3 #[woV wd en ea kn a n0 cap, .int .i64 x, .int .i64 y] w fun e w' => e = .returned (.bool true) ∧ Below w.heap.size w w' := by
  obtain ⟨w0, hw0⟩ : ∃ w0, w0 = w.alloc (Obj.cells #[.int .i64 wd, .int .i64 en, .int .i64 ea, .int .i64 kn, .slice a n0 cap] 24) := ⟨_, rfl⟩
  have hB0 : Below w.heap.size w w0 := by rw [hw0]; exact below1 _ _
  have hv : Wl w0 w.heap.size wd en ea kn a n0 cap := by rw [hw0]; exact Wl.mk_ _ _ _ _ _ _ _ _
  have HHd := hid (head_any w0 (hl.later hB0))
  have HRt := hid (fun (U : World) (hU : Below w0.heap.size w0 U) => right_any wd en ea kn (h.later (below_call hB0 hU)) hn0)
  have k1 := hid (fun U => mod_below x 30 30 rfl U (by decide) (by decide))
  have k2 := hid (fun U => mod_below y 30 30 rfl U (by decide) (by decide))
  have HV : Hid (∀ U, Below w0.heap.size w0 U → Wl U w.heap.size wd en ea kn a n0 cap) := fun U hU => hv.later hU
  have HB0 := hid hB0
  have HL := hid hl
  have q1 : intoN wd 128 < 128 := intoN_lt _ (by decide)
  have q4 : intoN kn 65 < 65 := intoN_lt _ (by decide)
  have q5 : intoN x 30 < 30 := intoN_lt _ (by decide)
  have q6 : intoN y 30 < 30 := intoN_lt _ (by decide)
  generalize intoN wd 128 = m1 at *
  generalize intoN en 256 = m2 at *
  generalize intoN ea 256 = m3 at *
  generalize intoN kn 65 = m4 at *
  generalize intoN x 30 = at_ at *
  generalize intoN y 30 = many at *
  clear h hl hB0 hv
  unfold woV at HRt ⊢
  go_enter Tryz.func3, Tryz.ntmps3
  go_upto_region 1 with fail
  rw [← hw0]
  clear hw0
  go_upto_region 3 with (first | (go_at_call 6; refine HHd.out.mono ?_; rintro e w1 ⟨rfl, hb1⟩; have HB1 := hid hb1; obtain ⟨⟨x0, _⟩, ⟨x1, _⟩, ⟨x2, _⟩, ⟨x3, _⟩, ⟨x4, _⟩⟩ := HV.out w1 hb1; clear hb1))
  go_upto_region 4 with (first | (go_at_call 7; refine (HRt.out w1 HB1.out).mono ?_; rintro e w2 ⟨n, hn, _, hW, rfl, hb2⟩; have HB2 := hid (below_call HB1.out hb2); obtain ⟨⟨z0, f0⟩, ⟨z1, f1⟩, ⟨z2, f2⟩, ⟨z3, f3⟩, ⟨z4, f4⟩⟩ := HV.out w2 HB2.out; clear hb2 hW hn))
  obtain ⟨w3, hw3⟩ : ∃ w3, w3 = set5w w2 w.heap.size (1 + (m1 : Int)) (1 + (m2 : Int)) (1 + (m3 : Int)) (m4 : Int) a n cap := ⟨_, rfl⟩
  have HV3 : Hid (Wl w3 w.heap.size (1 + (m1 : Int)) (1 + (m2 : Int)) (1 + (m3 : Int)) (m4 : Int) a n cap) := by rw [hw3]; exact (HV.out w2 HB2.out).set _ _ _ _ _ _ _
  have HB3 : Hid (Below w.heap.size w w3) := by rw [hw3]; exact Below.ofBut (set5w_but (But.of (below_call HB0.out HB2.out)) (Nat.le_refl _) _ _ _ _ _ _ _)
  unfold set5w at hw3
  rw [← hw3]
  clear hw3 z0 z1 z2 z3 z4 f0 f1 f2 f3 f4 x0 x1 x2 x3 x4
  go_upto_region 5 with (first
    | (have hq := hb4; clear hq; go_at_call 8; refine (k2.out _).mono ?_; rintro e w5 ⟨rfl, hv⟩; have hb5 := hid (below_call hb4.out hv); clear hv)
    | (go_at_call 8; refine (k1.out _).mono ?_; rintro e w4 ⟨rfl, hv⟩; have hb4 := hid (below_call (Below.refl w3.heap.size w3) hv); clear hv))
  have HV5 := hid (HV3.out.later hb5.out)
  have HB5 := hid (below_call HB3.out hb5.out)
  clear HV HV3 HB0 HB1 HB2 HB3 hb4 hb5 HHd HRt k1 k2
  have hlt5 : w.heap.size < w5.heap.size := World.block_lt_of_cell? _ _ HV5.out.c0.1
  go_upto_region 6 with fail
  obtain ⟨w6, hw6⟩ : ∃ w6, w6 = (w5.alloc (Obj.cells #[.int .u64 0, .int .u64 1] 30)).alloc (Obj.cells #[.int .u64 0, .int .u64 0] 30) := ⟨_, rfl⟩
  have hB6 : Below w5.heap.size w5 w6 := by rw [hw6]; exact below2 _ _ _
  have ho7 : Box w6 w5.heap.size 0 1 := by rw [hw6]; exact (Box.new w5 0 1).later (below1 _ _)
  have ho8 : Box w6 (w5.heap.size + 1) 0 0 := by rw [hw6]; exact ⟨by simp [go_sem], by simp [go_sem]⟩
  have hs6 : w6.heap.size = w5.heap.size + 1 + 1 := by rw [hw6]; simp
  have hr6 := World.ownsRow_lit (base := w6.heap.size) (e := 30) (size := 2) w6 #[.int .u64 0, .int .u64 1] 1 (Nat.le_refl _) (by decide) (by simp)
  obtain ⟨w7, hw7⟩ : ∃ w7, w7 = w6.alloc (Obj.cells #[.int .u64 0, .int .u64 1] 30) := ⟨_, rfl⟩
  rw [← hw7] at hr6
  have hB7 : Below w6.heap.size w6 w7 := by rw [hw7]; exact below1 _ _
  have hv7 := (HV5.out.later hB6).later hB7
  have z4 : (w6.alloc (Obj.cells #[.int .u64 0, .int .u64 1] 30)).cell? ⟨w.heap.size, 4, none⟩ = some (.slice a n cap) := by rw [← hw7]; exact hv7.c4.1
  have f4 : (w6.alloc (Obj.cells #[.int .u64 0, .int .u64 1] 30)).frozen? ⟨w.heap.size, 4, none⟩ = false := by rw [← hw7]; exact hv7.c4.2
  have x7 := ho7.1
  have x8 := ho7.2
  have HT : Hid (Tw w (w7.setCell ⟨w.heap.size, 4, none⟩ (.slice (some ⟨w6.heap.size, 0, none⟩) 1 1)) w.heap.size w5.heap.size (1 + (m1 : Int)) (1 + (m2 : Int)) (1 + (m3 : Int)) (m4 : Int) (some ⟨w6.heap.size, 0, none⟩) 1 1) := by
    refine ⟨⟨hv7.c0.off (by omega), hv7.c1.off (by omega), hv7.c2.off (by omega), hv7.c3.off (by omega), hv7.c4.put⟩, (ho7.later hB7).but (S := (· = w.heap.size)) ((But.refl _ _).own _ _) (fun e => by omega), (ho8.later hB7).but (S := (· = w.heap.size)) ((But.refl _ _).own _ _) (fun e => by omega), ?_, ⟨Nat.le_refl _, hlt5⟩, ?_⟩
    · have h1 : Ow w7 w6.heap.size 30 2 (some ⟨w6.heap.size, 0, none⟩) 1 1 [.int .u64 0, .int .u64 1] := hr6
      have h1 := h1.mono (b := w5.heap.size + 2) (by omega)
      exact h1.but (S := (· = w.heap.size)) ((But.refl _ _).own _ _) (fun j hj e => by have := (h1.blk j hj).1; omega)
    · exact But.below (S := (· = w.heap.size)) (below_call HB5.out (below_call hB6 hB7)) ((But.refl _ _).own _ _) (fun k hk => by omega)
  rw [hw7] at HT
  rw [← hw6]
  clear hw6 hw7 hB6 ho7 ho8 hr6 hB7 hv7 hlt5 hs6 HV5 HB5
  go_upto_region 7 with fail
  obtain ⟨w8, hw8⟩ : ∃ w8, w8 = (w6.alloc (Obj.cells #[.int .u64 0, .int .u64 1] 30)).setCell ⟨w.heap.size, 4, none⟩ (.slice (some ⟨w6.heap.size, 0, none⟩) 1 1) := ⟨_, rfl⟩
  rw [← hw8] at HT ⊢
  clear hw8 z4 f4 x7 x8
  generalize w5.heap.size = b7 at *
  generalize w6.heap.size = b9 at *
  go_wp2
  go_loopw [9] (TwRel w w.heap.size b7 (1 + (m1 : Int)) (1 + (m2 : Int)) (1 + (m3 : Int)) (m4 : Int) many) (fun t _ => many - (intOf t).toNat)
  case atStart => exact ⟨0, _, _, Nat.zero_le _, rfl, HT⟩
  case round =>
    obtain ⟨i, a1, c1, hi, rfl, hT⟩ := hrel
    by_cases hlt : i < many
    · obtain ⟨a2, c2, w9, hrun, hl9, hT9⟩ := tw_step hT.out (by omega)
      have HRUN := hid hrun
      have HT9 := hid hT9
      have z4 := hT.out.v.c4.1
      have x7 := hT.out.o7.1
      have x8 := hT.out.o7.2
      obtain ⟨z9, f9⟩ := hl9
      clear hrun hT9 hT HT
      go_wp2_with (first | (at_builtin; refine wpList_append_known rfl _ _ 22 rfl _ _ rfl rfl _ w9 HRUN.out ?_))
      exact ⟨⟨i + 1, a2, c2, by omega, by go_num, HT9⟩, by simp [intOf]; omega⟩
    · obtain rfl : many = i := by omega
      clear HT
      go_upto_if 43 with fail
      go_cut [] (fun W => Hid (∃ a2 c2, Tq w W w.heap.size b7 (1 + (m1 : Int)) (1 + (m2 : Int)) (1 + (m3 : Int)) (m4 : Int) a2 (many + 1) c2 (twW at_ many)))
      case first =>
        by_cases hat : at_ < many
        · have hd : decide ((at_ : Int) < (many : Int)) = true := decide_eq_true (by omega)
          have hd2 : (at_ : Int) < (many : Int) := by omega
          obtain ⟨g, rfl, har, hg, hc, hfr⟩ := tw_here hT.out
          have z4 := hT.out.v.c4.1
          have x7 := hT.out.o8.1
          have x8 := hT.out.o8.2
          obtain ⟨u0, y0, g0⟩ := hfr ((1 + at_) * 2) (by omega)
          obtain ⟨u1, y1, g1⟩ := hfr ((1 + at_) * 2 + 1) (by omega)
          have HTs := hid (tq_some hT.out at_ hat)
          have gw : IntKind.i64.wrap (1 + (at_ : Int)) = 1 + (at_ : Int) := by rw [IntKind.wrap_i64]; omega
          have gi : (1 + (at_ : Int)).toNat = 1 + at_ := by omega
          have gl : ¬ (1 + (at_ : Int) < 0) := by omega
          have gm : 1 + (at_ : Int) < ((many + 1 : Nat) : Int) := by omega
          clear hT har hg hc hfr
          go_wp2
          go_meet
          exact ⟨_, _, HTs.out⟩
        · have hd : decide ((at_ : Int) < (many : Int)) = false := decide_eq_false (by omega)
          have hd2 : ¬ (at_ : Int) < (many : Int) := by omega
          have HTs := hid (tq_none hT.out at_ hat)
          clear hT
          go_wp2
          go_meet
          exact ⟨_, _, HTs.out⟩
      case rest =>
      clear hT
      rename World => wq
      obtain ⟨a2, c2, hq⟩ := hcut.out
      have HQ := hid hq
      obtain ⟨y1, g1⟩ := hq.v.c1
      obtain ⟨y2, g2⟩ := hq.v.c2
      clear hq hcut
      go_upto_region 14 with fail
      obtain ⟨wp, hwp⟩ : ∃ wp, wp = (wq.setCell ⟨w.heap.size, 1, none⟩ (.int .i64 9)).setCell ⟨w.heap.size, 2, none⟩ (.int .i64 9) := ⟨_, rfl⟩
      have hBp : But (· = w.heap.size) wq wp := by rw [hwp]; exact ((But.refl _ _).own _ _).own _ _
      have hbp : Below w.heap.size w wp := But.below HQ.out.b hBp (fun k hk => by omega)
      have hlo := HQ.out.lo
      obtain ⟨x0, x1, x2, x3, x4⟩ : Wl wp w.heap.size (1 + (m1 : Int)) 9 9 (m4 : Int) a2 (many + 1) c2 := by
        rw [hwp]
        exact ⟨(HQ.out.v.c0.off (by omega)).off (by omega), HQ.out.v.c1.put.off (by omega), (HQ.out.v.c2.off (by omega)).put, (HQ.out.v.c3.off (by omega)).off (by omega), (HQ.out.v.c4.off (by omega)).off (by omega)⟩
      have x0 := x0.1
      have x1 := x1.1
      have x2 := x2.1
      have x3 := x3.1
      have x4 := x4.1
      have HO7 := hid (HQ.out.o7.but hBp (fun e => by omega))
      have HO8 := hid (HQ.out.o8.but hBp (fun e => by omega))
      have HBp := hid hbp
      have HMd := hid (made_any (HL.out.later hbp) (1 + (m1 : Int)) 9 9 m4 (HQ.out.ws.butN hBp (fun _ x hx e => by have := HQ.out.ab _ ⟨x, hx, rfl⟩; omega)) (by omega) (by omega) (by omega) (by decide) (by decide) (by decide) (by decide) (by omega))
      have HL7 : Hid (b7 + 1 < wp.heap.size) := World.block_lt_of_cell? _ _ HO8.out.1
      unfold woV at HMd
      rw [← hwp]
      clear hwp hBp hbp hlo y1 g1 y2 g2 HQ
      go_upto_region 17 with (first
        | (go_at_call 9; refine HMd.out.mono ?_; rintro e v0 ⟨H, K, sb, rb, rfl, hP, hT, hD, htp, _, hwr, hm1, hall, ⟨hsb, _⟩, _, hb0⟩; have HP : Hid (H.toPar = TP (1 + (m1 : Int)) at_ many) := hP; have HT0 : Hid (Tri v0 H (s0 9)) := hT; have HTp := hid htp; have HWr := hid (fun k (hk : H.Wr k) => And.intro (hwr k hk) (hall k (Hd.wr_all hk))); have HSb := hid hsb; have HBz := hid hb0; clear hP hT hD htp hwr hm1 hall hsb hb0))
      have HZ : Hid (∀ k, H.Wr k → k < v0.heap.size) := fun k hk => HT0.out.lt k hk
      have HTo0 : Hid (But H.Wr v0 v0) := But.refl _ _
      have h1m : 1 ≤ 1 + (m1 : Int) := by omega
      have HR1 : Hid (∀ U, Below v0.heap.size v0 U → Calls Tryz.prog 10 #[.pointer (some ⟨H.g, 0, none⟩), .pointer (some ⟨H.A.g, 0, none⟩), .pointer (some ⟨H.qg, 0, none⟩), .int .i64 5] U fun e w' => e = .returned (.tuple #[.agg #[.int .i64 5, .int .u64 0, .int .u64 1], .int .i64 0]) ∧ Tri w' H y1 ∧ But H.Wr U w') := fun U hU => by
        have := root_any (HT0.out.later hU) (by rw [HP.out]; exact tp_fit h1m _ _) 5 (by decide)
        rw [HP.out, tw_root h1m] at this
        exact this
      have HS1 : Hid (∀ U, But H.Wr v0 U → (U.cell? ⟨sb, 0, none⟩ = some (.pointer (some ⟨H.g, 0, none⟩)) ∧ U.cell? ⟨sb, 1, none⟩ = some (.pointer (some ⟨H.A.g, 0, none⟩)) ∧ U.cell? ⟨sb, 2, none⟩ = some (.pointer (some ⟨H.qg, 0, none⟩))) ∧ But H.Wr v0 U) := fun U hU => by
        obtain ⟨q0, q1, q2⟩ := HTp.out.but hU (fun e => by have := (HWr.out _ e).2; have := HSb.out; omega)
        exact ⟨⟨q0, q1, q2⟩, hU⟩
      go_cut [12, 13] (fun s3 s4 W => ∃ b, s3 = .pointer (some ⟨b, 0, none⟩) ∧ s4 = .int .i64 (0) ∧ Hid (Lv v0 H W b ((5, 0, 1)) (y1)))
      case first =>
        go_region_held3 (fun U => (U.cell? ⟨sb, 0, none⟩ = some (.pointer (some ⟨H.g, 0, none⟩)) ∧ U.cell? ⟨sb, 1, none⟩ = some (.pointer (some ⟨H.A.g, 0, none⟩)) ∧ U.cell? ⟨sb, 2, none⟩ = some (.pointer (some ⟨H.qg, 0, none⟩))) ∧ But H.Wr v0 U) (first | exact HS1.out _ HBt.out | exact HS1.out _ (But.of (Below.refl _ _).drew) | exact HS1.out _ (But.of (below1 _ _).drew) | exact HS1.out _ (But.of (below1 _ _)) | exact HS1.out _ (HBt.out.alloc _) | exact HS1.out _ (((HBt.out.put (Nat.le_refl _) _).put (Nat.le_refl _) _).put (Nat.le_refl _) _)) (first
          | (go_at_call 10; refine (HR1.out _ (below1 _ _).drew).mono ?_; rintro e u_ ⟨rfl, ht, hb⟩; have HTt := hid ht; have HBt := hid ((But.of (S := H.Wr) (below1 v0 (Obj.cells #[.int .i64 0, .int .u64 0, .int .u64 0] 36)).drew).trans hb); have hzc := (Zc.mk_ v0).drew_.but hb (fun e => by have := HZ.out _ e; have := HTo0.out.size; omega); have HZc := hid hzc; obtain ⟨⟨z0, f0⟩, ⟨z1, f1⟩, ⟨z2, f2⟩⟩ := hzc; clear ht hb)
          | (go_at_call 10; refine (HR1.out _ (Below.refl _ _).drew).mono ?_; rintro e u_ ⟨rfl, ht, hb⟩; have HTt := hid ht; have HBt := hid ((But.of (S := H.Wr) (Below.refl v0.heap.size v0).drew).trans hb); clear ht hb))
        all_goals (try go_wp2)
        all_goals go_meet
        all_goals (first | exact ⟨_, rfl, rfl, Lv.first HT0.out HTt.out HBt.out HZc.out ((5, 0, 1))⟩ | exact ⟨_, rfl, rfl, Lv.then_ HTt.out HBt.out ((5, 0, 1))⟩)
      case rest =>
      rename World => v1
      obtain ⟨b1, rfl, rfl, HLv1⟩ := hcut
      have HT1 := hid HLv1.out.tri
      have HBv := hid HLv1.out.but
      have HTo1 : Hid (But H.Wr v0 v1) := HTo0.out.trans HBv.out
      have HCb1 : Hid (∀ U, But H.Wr v1 U → Cw U b1 (5, 0, 1)) := fun U hU => HLv1.out.cw.but hU (fun e => by have := HZ.out _ e; have := HLv1.out.lo; omega)
      clear HLv1 HBv HR1 HS1 HT0
      obtain ⟨R, hR⟩ : ∃ R, R = childA (TP (1 + (m1 : Int)) at_ many) y1 (5, 0, 1) 31 := ⟨_, rfl⟩
      have HR2 : Hid (∀ U, Below v1.heap.size v1 U → Calls Tryz.prog 11 #[.pointer (some ⟨H.g, 0, none⟩), .pointer (some ⟨H.A.g, 0, none⟩), .pointer (some ⟨H.qg, 0, none⟩), .agg #[.int .i64 5, .int .u64 0, .int .u64 1], .int .i64 31] U fun e w' => e = .returned (.tuple #[.agg #[.int .i64 R.c.1, .int .u64 (R.c.2.1 : Int), .int .u64 (R.c.2.2 : Int)], .int .i64 R.code]) ∧ Tri w' H R.s ∧ But H.Wr U w') := fun U hU => by
        have := dchild_any (HT1.out.later hU) (by rw [HP.out]; exact tw_fit1 h1m _ _) (5, 0, 1) 31 (by decide) (by decide)
        rw [HP.out, ← hR] at this
        exact this
      have HRR := hid hR
      clear hR
      have HS2 : Hid (∀ U, But H.Wr v1 U → (U.cell? ⟨sb, 0, none⟩ = some (.pointer (some ⟨H.g, 0, none⟩)) ∧ U.cell? ⟨sb, 1, none⟩ = some (.pointer (some ⟨H.A.g, 0, none⟩)) ∧ U.cell? ⟨sb, 2, none⟩ = some (.pointer (some ⟨H.qg, 0, none⟩)) ∧ U.cell? ⟨b1, 0, none⟩ = some (.int .i64 5) ∧ U.cell? ⟨b1, 1, none⟩ = some (.int .u64 0) ∧ U.cell? ⟨b1, 2, none⟩ = some (.int .u64 1)) ∧ But H.Wr v1 U) := fun U hU => by
        obtain ⟨q0, q1, q2⟩ := HTp.out.but (HTo1.out.trans hU) (fun e => by have := (HWr.out _ e).2; have := HSb.out; omega)
        obtain ⟨p0, p1, p2⟩ := HCb1.out U hU
        exact ⟨⟨q0, q1, q2, p0, p1, p2⟩, hU⟩
      go_upto_region 18 with fail
      go_cut [14, 15] (fun s3 s4 W => ∃ b, s3 = .pointer (some ⟨b, 0, none⟩) ∧ s4 = .int .i64 (R.code) ∧ Hid (Lv v1 H W b (R.c) (R.s)))
      case first =>
        go_region_held3 (fun U => (U.cell? ⟨sb, 0, none⟩ = some (.pointer (some ⟨H.g, 0, none⟩)) ∧ U.cell? ⟨sb, 1, none⟩ = some (.pointer (some ⟨H.A.g, 0, none⟩)) ∧ U.cell? ⟨sb, 2, none⟩ = some (.pointer (some ⟨H.qg, 0, none⟩)) ∧ U.cell? ⟨b1, 0, none⟩ = some (.int .i64 5) ∧ U.cell? ⟨b1, 1, none⟩ = some (.int .u64 0) ∧ U.cell? ⟨b1, 2, none⟩ = some (.int .u64 1)) ∧ But H.Wr v1 U) (first | exact HS2.out _ HBt.out | exact HS2.out _ (But.of (Below.refl _ _).drew) | exact HS2.out _ (But.of (below1 _ _).drew) | exact HS2.out _ (But.of (below1 _ _)) | exact HS2.out _ (HBt.out.alloc _) | exact HS2.out _ (((HBt.out.put (Nat.le_refl _) _).put (Nat.le_refl _) _).put (Nat.le_refl _) _)) (first
          | (go_at_call 11; refine (HR2.out _ (below1 _ _).drew).mono ?_; rintro e u_ ⟨rfl, ht, hb⟩; have HTt := hid ht; have HBt := hid ((But.of (S := H.Wr) (below1 v1 (Obj.cells #[.int .i64 0, .int .u64 0, .int .u64 0] 36)).drew).trans hb); have hzc := (Zc.mk_ v1).drew_.but hb (fun e => by have := HZ.out _ e; have := HTo1.out.size; omega); have HZc := hid hzc; obtain ⟨⟨z0, f0⟩, ⟨z1, f1⟩, ⟨z2, f2⟩⟩ := hzc; clear ht hb)
          | (go_at_call 11; refine (HR2.out _ (Below.refl _ _).drew).mono ?_; rintro e u_ ⟨rfl, ht, hb⟩; have HTt := hid ht; have HBt := hid ((But.of (S := H.Wr) (Below.refl v1.heap.size v1).drew).trans hb); clear ht hb))
        all_goals (try go_wp2)
        all_goals go_meet
        all_goals (first | exact ⟨_, rfl, rfl, Lv.first HT1.out HTt.out HBt.out HZc.out (R.c)⟩ | exact ⟨_, rfl, rfl, Lv.then_ HTt.out HBt.out (R.c)⟩)
      case rest =>
      rename World => v2
      obtain ⟨b2, rfl, rfl, HLv2⟩ := hcut
      have HT2 := hid HLv2.out.tri
      have HBv := hid HLv2.out.but
      have HTo2 : Hid (But H.Wr v0 v2) := HTo1.out.trans HBv.out
      obtain ⟨p0, p1, p2⟩ := HCb1.out v2 HBv.out
      obtain ⟨r0, r1, r2⟩ := HLv2.out.cw
      obtain ⟨q0, q1, q2⟩ := HTp.out.but HTo2.out (fun e => by have := (HWr.out _ e).2; have := HSb.out; omega)
      have hbo : ∀ k, k < wp.heap.size → ¬ H.Wr k := fun k hk e => by have := (HWr.out _ e).1; omega
      obtain ⟨o70, o71⟩ := (HO7.out.later HBz.out).but HTo2.out (hbo _ (by have := HL7.out; omega))
      obtain ⟨o80, o81⟩ := (HO8.out.later HBz.out).but HTo2.out (hbo _ HL7.out)
      have HTk := hid (taken_any _ _ _ _ _ _ HT2.out.d)
      have HOf := hid (Q.of_any HT2.out.qu 5 (by decide))
      have HFin : Hid (Below w.heap.size w v2) := But.below (below_call HBp.out HBz.out) HTo2.out (fun k hk => Nat.le_trans HBp.out.size (HWr.out k hk).1)
      have heq := Go.Proofs.YtgihdchgdejkhaaGreatDoor.H.eqlC
      have hne := neqW
      clear HS2 HR2 HLv2 HBv HTo1 HTo2 HCb1 HT1 HT2 HO7 HO8 HL7 hbo HMd HZ HWr HTp HSb HBz HBp HP
      rcases tw_child h1m at_ many with ⟨c1, c2, s, hs, ht⟩ | ⟨c1, c2, s, hs, ht, hk⟩ | ⟨c1, c2, s, hs, ht, hk⟩
      · rw [← HRR.out] at hs
        subst hs
        rw [ht] at HTk
        have d1 : decide ((at_ : Int) < (many : Int)) = true := decide_eq_true (by omega)
        have d2 : decide ((at_ : Int) < 9) = true := decide_eq_true (by omega)
        rw [show ((at_ + 2 : Nat) : Int) = (at_ : Int) + 2 by omega] at HTk
        have g1 : IntKind.i64.wrap ((at_ : Int) + 2 - 1) = (at_ : Int) + 1 := by rw [IntKind.wrap_i64]; omega
        have g2 : IntKind.i64.wrap ((at_ : Int) + 1) = (at_ : Int) + 1 := by rw [IntKind.wrap_i64]; omega
        clear HOf ht
        go_wp2_with (first
          | (go_at_call 12; refine HTk.out.mono ?_; rintro e w9 ⟨rfl, hw9⟩; obtain rfl := hw9.symm; clear hw9))
        go_ret
        exact ⟨rfl, HFin.out⟩
      · rw [← HRR.out] at hs
        subst hs
        rw [ht] at HTk
        rw [hk] at HOf
        have d1 : ¬ ((at_ : Int) < (many : Int) ∧ (at_ : Int) < 9) := by omega
        have d3 : decide ((many : Int) ≥ 9) = true := decide_eq_true (by omega)
        have d4 : 9 ≤ (many : Int) := by omega
        clear ht hk
        by_cases d5 : (at_ : Int) < (many : Int)
        · have d6 : ¬ (at_ : Int) < 9 := fun x => d1 ⟨d5, x⟩
          clear d1 c1
          go_wp2_with (first
            | (go_at_call 12; refine HTk.out.mono ?_; rintro e w9 ⟨rfl, hw9⟩; obtain rfl := hw9.symm; clear hw9)
            | (go_at_call 13; refine HOf.out.mono ?_; rintro e w9 ⟨rfl, hw9⟩; obtain rfl := hw9.symm; clear hw9))
          go_ret
          exact ⟨rfl, HFin.out⟩
        · clear d1 c1
          go_wp2_with (first
            | (go_at_call 12; refine HTk.out.mono ?_; rintro e w9 ⟨rfl, hw9⟩; obtain rfl := hw9.symm; clear hw9)
            | (go_at_call 13; refine HOf.out.mono ?_; rintro e w9 ⟨rfl, hw9⟩; obtain rfl := hw9.symm; clear hw9))
          go_ret
          exact ⟨rfl, HFin.out⟩
      · rw [← HRR.out] at hs
        subst hs
        rw [ht] at HTk
        rw [hk] at HOf
        have d1 : ¬ ((at_ : Int) < (many : Int) ∧ (at_ : Int) < 9) := by omega
        have d3 : decide ((many : Int) ≥ 9) = false := decide_eq_false (by omega)
        have d4 : ¬ 9 ≤ (many : Int) := by omega
        rw [show ((many + 1 : Nat) : Int) = (many : Int) + 1 by omega] at HTk
        have g1 : IntKind.i64.wrap ((many : Int) + 1 - 1) = (many : Int) := by rw [IntKind.wrap_i64]; omega
        have d5 : ¬ (at_ : Int) < (many : Int) := by omega
        clear ht hk d1 c1
        go_wp2_with (first
          | (go_at_call 12; refine HTk.out.mono ?_; rintro e w9 ⟨rfl, hw9⟩; obtain rfl := hw9.symm; clear hw9)
          | (go_at_call 13; refine HOf.out.mono ?_; rintro e w9 ⟨rfl, hw9⟩; obtain rfl := hw9.symm; clear hw9))
        go_ret
        exact ⟨rfl, HFin.out⟩
end Go.Proofs.YtgihdchgdejkhaaGreatDoor.D
namespace Go.Proofs.YtgihdchgdejkhaaGreatDoor.D
open Go.RowKit
open Go.Proofs.YtgihdchgdejkhaaGreatDoor.H (B64 Cp)
set_option linter.unusedVariables false

/-! ### DeriveWeaker -/
theorem Ss.but {S : Nat → Prop} {w w' : World} {a : Option Addr} {n : Nat} {f : Nat → Sp} (h : Ss w a n f) (hb : But S w w') (hn : ∀ k, k < w.heap.size → ¬ S k) : Ss w' a n f :=
  ⟨fun h0 => by obtain ⟨b, o, e, hi⟩ := h.at_ h0; exact ⟨b, o, e, fun i hi' => (hi i hi').but hb (hn b (hi i hi').lt)⟩, h.ok⟩
def stepA (P : Par) (s : Sta) (p : Sp) : Ans :=
  if p.kd = 0 ∨ (ofL P.mo s.X s.l p.ob).length = 0 then rootA P s p.ob else childA P s (((ofL P.mo s.X s.l p.ob)[intoN p.at_ (ofL P.mo s.X s.l p.ob).length]?).getD ((0, 0, 0), 0, 0)).1 p.r
theorem step_fit {P : Par} {s : Sta} (h : Fit P s) (p : Sp) : Fit P (stepA P s p).s := by
  unfold stepA
  split
  · exact h.root _
  · exact h.child _ _
theorem step_pick {P : Par} {s : Sta} (h : Fit P s) {p : Sp} (hk : ¬ (p.kd = 0 ∨ (ofL P.mo s.X s.l p.ob).length = 0)) : ∃ a : Tok, (ofL P.mo s.X s.l p.ob)[intoN p.at_ (ofL P.mo s.X s.l p.ob).length]? = some a ∧ a.1.1 = p.ob ∧ stepA P s p = childA P s a.1 p.r ∧ hasC s.X s.l a.1 = true := by
  have hl : 0 < (ofL P.mo s.X s.l p.ob).length := by omega
  have hj := intoN_lt p.at_ hl
  refine ⟨_, List.getElem?_eq_getElem hj, ?_, ?_, ?_⟩
  · exact ((ofL_iff h.inv p.ob _).1 ⟨_, _, List.getElem?_eq_getElem hj, rfl⟩).1
  · unfold stepA
    rw [if_neg hk, List.getElem?_eq_getElem hj]
    rfl
  · exact ((ofL_iff h.inv p.ob _).1 ⟨_, _, List.getElem?_eq_getElem hj, rfl⟩).2
theorem step_cases {P : Par} {s : Sta} (h : Fit P s) (p : Sp) : ((stepA P s p).code ≠ 0 ∧ Ref P s (stepA P s p)) ∨ ((stepA P s p).code = 0 ∧ Mad P s p.ob (stepA P s p)) := by
  by_cases hk : p.kd = 0 ∨ (ofL P.mo s.X s.l p.ob).length = 0
  · unfold stepA
    rw [if_pos hk]
    exact root_cases h _
  · obtain ⟨a, _, ho, e, _⟩ := step_pick h hk
    rw [e, ← ho]
    exact child_cases h _ _
structure WI (v0 : World) (H : Hd) (s : Sta) (W : World) : Prop where
  tri : Tri W H s
  fit : Fit H.toPar s
  wk : Wk s
  but : But H.Wr v0 W
def WRel (v0 : World) (H : Hd) (n : Nat) (t : Value) (W : World) : Prop := ∃ (i : Nat) (s : Sta), i ≤ n ∧ t = .int .i64 (i : Int) ∧ Hid (WI v0 H s W)
/-- Behind the call: its answer lies in block b. -/
structure Sw (w4 : World) (H : Hd) (b : Nat) (R : Ans) (W : World) : Prop where
  tri : Tri W H R.s
  cw : Cw W b R.c
  but : But (fun k => H.Wr k ∨ k = b) w4 W
theorem Sw.mk_ {w4 u : World} {H : Hd} {b : Nat} {R : Ans} (ht : Tri u H R.s) (hz : Zc u b) (hb : But H.Wr w4 u) (ho : ∀ k, H.All k → k < b) : Sw w4 H b R (((u.setCell ⟨b, 0, none⟩ (.int .i64 R.c.1)).setCell ⟨b, 1, none⟩ (.int .u64 (R.c.2.1 : Int))).setCell ⟨b, 2, none⟩ (.int .u64 (R.c.2.2 : Int))) :=
  ⟨((ht.own ho 0 _).own ho 1 _).own ho 2 _, Cw.put hz R.c, (((hb.mono (fun k hk => .inl hk)).setCell (p := ⟨b, 0, none⟩) (.inr rfl) _).setCell (p := ⟨b, 1, none⟩) (.inr rfl) _).setCell (p := ⟨b, 2, none⟩) (.inr rfl) _⟩
theorem set5w_own (w : World) (b : Nat) (wd en ea kn : Int) (x : Option Addr) (n cap : Nat) : But (· = b) w (set5w w b wd en ea kn x n cap) := ((((((But.refl (· = b) w).own _ _).own _ _).own _ _).own _ _).own _ _)
theorem Ws.older {w : World} {a : Option Addr} {n cap : Nat} {f : Nat → Nat} (h : Ws w a n cap f) (h0 : 0 < n) : ∀ y, a = some y → y.block < w.heap.size := by
  intro y hy
  obtain ⟨b, o, e, hw⟩ := h.plain h0
  rw [e] at hy
  cases hy
  exact World.block_lt_of_cell? _ _ (hw 0 h0).1
theorem taken_below {w : World} {H : Hd} {s : Sta} (h : Tri w H s) : Calls Tryz.prog 12 #[.pointer (some ⟨H.g, 0, none⟩)] w fun e w' => e = .returned (.int .i64 (s.t : Int)) ∧ Below w.heap.size w w' :=
  (taken_any _ _ _ _ _ _ h.d).mono (fun e w' h => ⟨h.1, by rw [h.2]; exact Below.refl _ _⟩)
theorem mod_len (x : Int) (t : Nat) (w : World) (ht : 0 < t) (h2 : t ≤ 1024) :
    Calls Tryz.prog 8 #[.int .i64 x, .int .i64 (t : Int)] w fun e w' => e = .returned (.int .i64 (intoN x t : Int)) ∧ Below w.heap.size w w' :=
  (into_any x t w ht h2).mono (fun e w' h => ⟨h.1, by rw [h.2]; exact Below.refl _ _⟩)
theorem inN_le {m : Nat} {X : List Tk} {l : Fo} (h : Inv m X l) (o : Int) : inN X l o ≤ l.length := by
  unfold inN
  rw [← nums_len l]
  exact List.length_filter_le _ _
theorem ok_len {m : Nat} {l : Fo} (h : Ok m l) : l.length ≤ m := by
  have h1 := nd_sub (A := nums l) (B := firsts m) h.nodup (fun x hx => mem_firsts.2 (h.range x hx))
  rwa [firsts_len, nums_len] at h1
/-- What the round keeps of its call. -/
structure Bo (w : World) (b : Nat) (s : Sp) : Prop where
  c0 : w.cell? ⟨b, 0, none⟩ = some (.int .i64 s.kd)
  c1 : w.cell? ⟨b, 1, none⟩ = some (.int .i64 s.ob)
  c2 : w.cell? ⟨b, 2, none⟩ = some (.int .i64 s.at_)
  c3 : w.cell? ⟨b, 3, none⟩ = some (.int .i64 s.r)
theorem Bo.but {S : Nat → Prop} {w w' : World} {b : Nat} {s : Sp} (h : Bo w b s) (hb : But S w w') (hn : ¬ S b) : Bo w' b s := ⟨cell_but hb h.c0 hn, cell_but hb h.c1 hn, cell_but hb h.c2 hn, cell_but hb h.c3 hn⟩
theorem Bo.later {w w' : World} {b : Nat} {s : Sp} (h : Bo w b s) (hb : Below w.heap.size w w') : Bo w' b s := h.but (S := fun _ => False) (But.of hb) (fun h => h)
theorem rt_of {w : World} {base : Nat} {a : Option Addr} {n cap : Nat} {K : List Tok} (h : Ow w base 55 5 a n cap (toks K)) (hn : K.length = n) : Rt w a n K :=
  ⟨hn, fun h0 => by
    obtain ⟨b, e, hc⟩ := h.at_ h0
    refine ⟨b, 0, e, fun i c hi => ?_⟩
    have hg := fun d (hd : d < 5) => toks_get (L := K) (i := i) (x := c) hi d hd
    rw [Nat.zero_add]
    exact ⟨hc _ _ (hg 0 (by omega)), hc _ _ (hg 1 (by omega)), hc _ _ (hg 2 (by omega)), hc _ _ (hg 3 (by omega)), hc _ _ (hg 4 (by omega))⟩⟩
theorem cEq_same (a b c : Int) : Go.Proofs.YtgihdchgdejkhaaGreatDoor.H.cEq a b c a b c = true := by unfold Go.Proofs.YtgihdchgdejkhaaGreatDoor.H.cEq; simp
theorem cEq_ne {a b : Cp} (h : a ≠ b) : Go.Proofs.YtgihdchgdejkhaaGreatDoor.H.cEq a.1 (a.2.1 : Int) (a.2.2 : Int) b.1 (b.2.1 : Int) (b.2.2 : Int) = false := by
  unfold Go.Proofs.YtgihdchgdejkhaaGreatDoor.H.cEq
  refine decide_eq_false (fun e => h ?_)
  obtain ⟨a0, a1, a2⟩ := a
  obtain ⟨b0, b1, b2⟩ := b
  obtain ⟨e0, e1, e2⟩ := e
  simp only at e0 e1 e2
  rw [e0, Int.ofNat.inj e1, Int.ofNat.inj e2]
theorem neqC (a b c d e f : Int) (w : World) : (binOp .neq 36 (.agg #[.int .i64 a, .int .u64 b, .int .u64 c]) (.agg #[.int .i64 d, .int .u64 e, .int .u64 f])).run Tryz.prog w = .ok (.bool (!Go.Proofs.YtgihdchgdejkhaaGreatDoor.H.cEq a b c d e f)) w := by
  unfold Go.Proofs.YtgihdchgdejkhaaGreatDoor.H.cEq
  by_cases h1 : a = d
  · subst h1
    by_cases h2 : b = e
    · subst h2
      by_cases h3 : c = f
      · subst h3; simp [go_sem]
      · simp [go_sem, h3]
    · simp [go_sem, h2]
  · simp [go_sem, h1]
/-- What a call that made a token leaves, by numbers. -/
structure Nums (P : Par) (s : Sta) (o : Int) (R : Ans) : Prop where
  len : (ofL P.mo R.s.X R.s.l o).length = (ofL P.mo s.X s.l o).length + 1
  all : R.s.L.length = s.L.length + 1
  cnt : R.s.L.count o = (ofL P.mo R.s.X R.s.l o).length
  t1 : ∃ q : Nat, R.s.t = s.t + q ∧ 1 ≤ q ∧ q ≤ 9
  ob : R.c.1 = o
theorem mad_nums {P : Par} {s : Sta} {o : Int} {R : Ans} (hf : Fit P s) (hm : Mad P s o R) (hR : Fit P R.s) : Nums P s o R := by
  obtain ⟨N, p0, r, t, hc, hs, h1, h2, _⟩ := hm
  have hL : R.s.L = s.L ++ [o] := by rw [hs]; rfl
  have ht : R.s.t = t := by rw [hs]; rfl
  have hcn : R.s.L.count o = s.L.count o + 1 := by rw [hL, List.count_append]; simp
  refine ⟨?_, by rw [hL]; simp, ?_, ⟨t - s.t, by omega, by omega, by omega⟩, by rw [hc]; rfl⟩
  · rw [of_len hR.inv, of_len hf.inv, ← hR.cnt, ← hf.cnt, hcn]
  · rw [of_len hR.inv, hR.cnt]
/-- The bits of rights. -/
theorem part_bits {a b : Int} (h : partB a b = true) : 1 ≤ a ∧ bits .and .i64 b a = a := by
  unfold partB at h
  simp only [Bool.and_eq_true, decide_eq_true_eq] at h
  obtain ⟨⟨ha, hb⟩, h3⟩ := h
  have ha' := validB_iff.1 ha
  have hb' := validB_iff.1 hb
  refine ⟨ha'.1, ?_⟩
  obtain ⟨x, rfl⟩ : ∃ x : Nat, a = (x : Int) := ⟨a.toNat, by omega⟩
  obtain ⟨y, rfl⟩ : ∃ y : Nat, b = (y : Int) := ⟨b.toNat, by omega⟩
  have hx : x < 32 := by omega
  have hy : y < 32 := by omega
  simp only [Int.toNat_natCast] at h3
  have key : ∀ x : Fin 32, ∀ y : Fin 32, x.1 &&& y.1 = x.1 → bits .and .i64 (y.1 : Int) (x.1 : Int) = (x.1 : Int) := by decide +kernel
  exact key ⟨x, hx⟩ ⟨y, hy⟩ h3
theorem len_le {P : Par} {s : Sta} (h : Fit P s) (o : Int) : (ofL P.mo s.X s.l o).length ≤ P.mo := by
  rw [of_len h.inv]
  exact Nat.le_trans (inN_le h.inv o) (ok_len h.inv.ok)
end Go.Proofs.YtgihdchgdejkhaaGreatDoor.D
namespace Go.Proofs.YtgihdchgdejkhaaGreatDoor.D
open Go.RowKit
open Go.Proofs.YtgihdchgdejkhaaGreatDoor.H (B64 Cp)
set_option linter.unusedVariables false
set_option linter.unusedSimpArgs false
/-- Pieces of a text, by their places. -/
def pR : Code → Code
  | .seq _ b => b
  | c => c
def pL : Code → Code
  | .seq a _ => a
  | c => c
def pI : Code → Code
  | .block _ c => c
  | .loop c => c
  | .scope c => c
  | .cond _ a _ => a
  | c => c
def rs : Nat → Code → Code
  | 0, c => c
  | n + 1, .seq _ b => rs n b
  | _ + 1, c => c
def b4 (b : Option Code) : Code := pI (pL (pR (pI (pI (pR (pL (rs 5 (b.getD .skip))))))))
def c4 (b : Option Code) (n : Nat) : Code := pL (rs n (b4 b))
def b3 (b : Option Code) : Code := pI (pL (pR (pI (pI (pR (c4 b 11))))))
def pE : Code → Code
  | .cond _ _ b => b
  | c => c
set_option maxRecDepth 1000000 in
set_option maxHeartbeats 4000000 in
theorem wk_11 {u0 u1 u2 u3 u4 u6 u7 u9 u10 u11 u12 u13 u14 u15 u16 u17 u18 u19 u20 u21 u22 u23 u24 u25 u26 u27 u28 u29 u30 u31 u32 u33 u34 u35 u36 u37 u38 u39 u40 u41 u42 u43 u44 u45 u46 u47 u48 u49 u50 u51 u52 u53 u54 u55 u56 u57 u58 u59 u60 u61 u62 u63 u64 u65 u66 u67 u68 u69 u70 u71 u72 u73 u74 u75 u76 u77 u78 u79 u80 u81 u82 u83 u84 u85 u86 u87 u88 u89 u90 u91 u92 u93 u94 u95 u96 u97 u98 u99 u100 u101 u102 u103 u104 u105 u106 u107 u108 u109 u110 u111 u112 u113 u114 u115 u116 u117 u118 u119 u120 u121 u122 u123 u124 u125 u126 u127 u128 u129 u130 u131 u132 u133 u134 u135 u136 u137 u138 u139 u140 u141 u142 u143 u144 u145 u146 u147 u148 u149 u150 u151 u152 u153 u154 u155 u156 u157 u158 u159 u160 u161 u162 u163 u164 u165 u166 u167 u168 u169 u170 u171 u172 u173 u174 u175 u176 u177 u178 u179 u180 u181 u182 u183 u184 u185 u186 u187 u188 u189 u190 u191 u192 u193 u194 u195 u196 u197 u198 u199 u200 u201 u202 u203 u204 u205 u206 u207 u208 u209 u210 u211 u212 u213 u214 u215 u216 u217 u218 u219 u220 u221 u222 u223 u224 u225 u226 u227 u228 u229 u230 u231 u232 u233 u234 u235 u236 u237 u238 u239 u240 u241 u242 u243 u244 u245 u246 u247 u248 u249 u250 u251 u252 u253 u254 u255 u256 u257 u258 u259 u260 u261 u262 u263 u264 u265 u266 u267 u268 u269 u270 u271 u272 u273 u274 u275 u276 u277 u278 u279 u280 u281 u282 u283 u284 u285 u286 u287 u288 u289 u290 u291 u292 u293 u294 u295 u296 u297 u298 u299 u300 u301 u302 u303 u304 u305 u306 u307 u308 u309 u310 u311 u312 u313 u314 u315 u316 u317 u318 u319 u320 u321 u322 u323 u324 : Value} {Qx : Exit → Act → World → Prop} {H : Hd} {s : Sta} (sp : Sp) (sb bo m : Nat) (O : List Tok) (w : World) (hT : Tri w H s) (hTp : Tp w sb H.g H.A.g H.qg) (hBo : Bo w bo sp) (hO : O = ofL H.mo s.X s.l sp.ob) (hm : m = O.length)
    (hK : ∀ (a9 : Option Addr) (c9 : Nat) (w' : World), Ow w' w.heap.size 55 5 a9 m c9 (toks O) ∧ Below w.heap.size w w' → ∀ (v42 v43 v44 v45 v46 v47 v48 : Value), Qx .normal ⟨List.toArray (u0 :: u1 :: u2 :: u3 :: u4 :: .pointer (some ⟨sb, 0, none⟩) :: u6 :: u7 :: .pointer (some ⟨bo, 0, none⟩) :: .slice a9 m c9 :: u10 :: u11 :: u12 :: u13 :: u14 :: u15 :: u16 :: u17 :: u18 :: u19 :: u20 :: u21 :: u22 :: u23 :: u24 :: u25 :: u26 :: u27 :: u28 :: u29 :: u30 :: u31 :: u32 :: u33 :: u34 :: u35 :: u36 :: u37 :: u38 :: u39 :: u40 :: u41 :: v42 :: v43 :: v44 :: v45 :: v46 :: v47 :: v48 :: u49 :: u50 :: u51 :: u52 :: u53 :: u54 :: u55 :: u56 :: u57 :: u58 :: u59 :: u60 :: u61 :: u62 :: u63 :: u64 :: u65 :: u66 :: u67 :: u68 :: u69 :: u70 :: u71 :: u72 :: u73 :: u74 :: u75 :: u76 :: u77 :: u78 :: u79 :: u80 :: u81 :: u82 :: u83 :: u84 :: u85 :: u86 :: u87 :: u88 :: u89 :: u90 :: u91 :: u92 :: u93 :: u94 :: u95 :: u96 :: u97 :: u98 :: u99 :: u100 :: u101 :: u102 :: u103 :: u104 :: u105 :: u106 :: u107 :: u108 :: u109 :: u110 :: u111 :: u112 :: u113 :: u114 :: u115 :: u116 :: u117 :: u118 :: u119 :: u120 :: u121 :: u122 :: u123 :: u124 :: u125 :: u126 :: u127 :: u128 :: u129 :: u130 :: u131 :: u132 :: u133 :: u134 :: u135 :: u136 :: u137 :: u138 :: u139 :: u140 :: u141 :: u142 :: u143 :: u144 :: u145 :: u146 :: u147 :: u148 :: u149 :: u150 :: u151 :: u152 :: u153 :: u154 :: u155 :: u156 :: u157 :: u158 :: u159 :: u160 :: u161 :: u162 :: u163 :: u164 :: u165 :: u166 :: u167 :: u168 :: u169 :: u170 :: u171 :: u172 :: u173 :: u174 :: u175 :: u176 :: u177 :: u178 :: u179 :: u180 :: u181 :: u182 :: u183 :: u184 :: u185 :: u186 :: u187 :: u188 :: u189 :: u190 :: u191 :: u192 :: u193 :: u194 :: u195 :: u196 :: u197 :: u198 :: u199 :: u200 :: u201 :: u202 :: u203 :: u204 :: u205 :: u206 :: u207 :: u208 :: u209 :: u210 :: u211 :: u212 :: u213 :: u214 :: u215 :: u216 :: u217 :: u218 :: u219 :: u220 :: u221 :: u222 :: u223 :: u224 :: u225 :: u226 :: u227 :: u228 :: u229 :: u230 :: u231 :: u232 :: u233 :: u234 :: u235 :: u236 :: u237 :: u238 :: u239 :: u240 :: u241 :: u242 :: u243 :: u244 :: u245 :: u246 :: u247 :: u248 :: u249 :: u250 :: u251 :: u252 :: u253 :: u254 :: u255 :: u256 :: u257 :: u258 :: u259 :: u260 :: u261 :: u262 :: u263 :: u264 :: u265 :: u266 :: u267 :: u268 :: u269 :: u270 :: u271 :: u272 :: u273 :: u274 :: u275 :: u276 :: u277 :: u278 :: u279 :: u280 :: u281 :: u282 :: u283 :: u284 :: u285 :: u286 :: u287 :: u288 :: u289 :: u290 :: u291 :: u292 :: u293 :: u294 :: u295 :: u296 :: u297 :: u298 :: u299 :: u300 :: u301 :: u302 :: u303 :: u304 :: u305 :: u306 :: u307 :: u308 :: u309 :: u310 :: u311 :: u312 :: u313 :: u314 :: u315 :: u316 :: u317 :: u318 :: u319 :: u320 :: u321 :: u322 :: u323 :: u324 :: []), []⟩ w') :
    Code.wp Tryz.prog (c4 Tryz.f4.body 1) Qx ⟨List.toArray (u0 :: u1 :: u2 :: u3 :: u4 :: .pointer (some ⟨sb, 0, none⟩) :: u6 :: u7 :: .pointer (some ⟨bo, 0, none⟩) :: u9 :: u10 :: u11 :: u12 :: u13 :: u14 :: u15 :: u16 :: u17 :: u18 :: u19 :: u20 :: u21 :: u22 :: u23 :: u24 :: u25 :: u26 :: u27 :: u28 :: u29 :: u30 :: u31 :: u32 :: u33 :: u34 :: u35 :: u36 :: u37 :: u38 :: u39 :: u40 :: u41 :: u42 :: u43 :: u44 :: u45 :: u46 :: u47 :: u48 :: u49 :: u50 :: u51 :: u52 :: u53 :: u54 :: u55 :: u56 :: u57 :: u58 :: u59 :: u60 :: u61 :: u62 :: u63 :: u64 :: u65 :: u66 :: u67 :: u68 :: u69 :: u70 :: u71 :: u72 :: u73 :: u74 :: u75 :: u76 :: u77 :: u78 :: u79 :: u80 :: u81 :: u82 :: u83 :: u84 :: u85 :: u86 :: u87 :: u88 :: u89 :: u90 :: u91 :: u92 :: u93 :: u94 :: u95 :: u96 :: u97 :: u98 :: u99 :: u100 :: u101 :: u102 :: u103 :: u104 :: u105 :: u106 :: u107 :: u108 :: u109 :: u110 :: u111 :: u112 :: u113 :: u114 :: u115 :: u116 :: u117 :: u118 :: u119 :: u120 :: u121 :: u122 :: u123 :: u124 :: u125 :: u126 :: u127 :: u128 :: u129 :: u130 :: u131 :: u132 :: u133 :: u134 :: u135 :: u136 :: u137 :: u138 :: u139 :: u140 :: u141 :: u142 :: u143 :: u144 :: u145 :: u146 :: u147 :: u148 :: u149 :: u150 :: u151 :: u152 :: u153 :: u154 :: u155 :: u156 :: u157 :: u158 :: u159 :: u160 :: u161 :: u162 :: u163 :: u164 :: u165 :: u166 :: u167 :: u168 :: u169 :: u170 :: u171 :: u172 :: u173 :: u174 :: u175 :: u176 :: u177 :: u178 :: u179 :: u180 :: u181 :: u182 :: u183 :: u184 :: u185 :: u186 :: u187 :: u188 :: u189 :: u190 :: u191 :: u192 :: u193 :: u194 :: u195 :: u196 :: u197 :: u198 :: u199 :: u200 :: u201 :: u202 :: u203 :: u204 :: u205 :: u206 :: u207 :: u208 :: u209 :: u210 :: u211 :: u212 :: u213 :: u214 :: u215 :: u216 :: u217 :: u218 :: u219 :: u220 :: u221 :: u222 :: u223 :: u224 :: u225 :: u226 :: u227 :: u228 :: u229 :: u230 :: u231 :: u232 :: u233 :: u234 :: u235 :: u236 :: u237 :: u238 :: u239 :: u240 :: u241 :: u242 :: u243 :: u244 :: u245 :: u246 :: u247 :: u248 :: u249 :: u250 :: u251 :: u252 :: u253 :: u254 :: u255 :: u256 :: u257 :: u258 :: u259 :: u260 :: u261 :: u262 :: u263 :: u264 :: u265 :: u266 :: u267 :: u268 :: u269 :: u270 :: u271 :: u272 :: u273 :: u274 :: u275 :: u276 :: u277 :: u278 :: u279 :: u280 :: u281 :: u282 :: u283 :: u284 :: u285 :: u286 :: u287 :: u288 :: u289 :: u290 :: u291 :: u292 :: u293 :: u294 :: u295 :: u296 :: u297 :: u298 :: u299 :: u300 :: u301 :: u302 :: u303 :: u304 :: u305 :: u306 :: u307 :: u308 :: u309 :: u310 :: u311 :: u312 :: u313 :: u314 :: u315 :: u316 :: u317 :: u318 :: u319 :: u320 :: u321 :: u322 :: u323 :: u324 :: []), []⟩ w := by
  conv => arg 2; whnf
  have HR := hid (fun (U : World) (hU : Below w.heap.size w U) => cof_any (hT.later hU).cat sp.ob)
  rw [← hO, ← hm] at HR
  have HS : Hid (∀ U, Below w.heap.size w U → (U.cell? ⟨sb, 1, none⟩ = some (.pointer (some ⟨H.A.g, 0, none⟩)) ∧ U.cell? ⟨bo, 1, none⟩ = some (.int .i64 sp.ob)) ∧ Below w.heap.size w U) := fun U hU => ⟨⟨(hTp.later hU).c1, (hBo.later hU).c1⟩, hU⟩
  have HK := hid hK
  clear hT hTp hBo hO hm hK
  go_region_held3 (fun U => (U.cell? ⟨sb, 1, none⟩ = some (.pointer (some ⟨H.A.g, 0, none⟩)) ∧ U.cell? ⟨bo, 1, none⟩ = some (.int .i64 sp.ob)) ∧ Below w.heap.size w U) (first | exact HS.out _ hb2.out | exact HS.out _ (Below.refl _ _).drew) (first
    | (go_at_call 14; refine (HR.out _ (Below.refl _ _).drew).mono ?_; rintro e w2 ⟨a9, c9, rfl, hO2, hb⟩; have hb2 := hid (below_call (Below.refl w.heap.size w).drew hb); have HO2 := hid (hO2.mono (b := w.heap.size) (Below.refl w.heap.size w).drew.size); clear hb hO2))
  exact HK.out _ _ _ ⟨HO2.out, hb2.out⟩ ..
set_option maxRecDepth 1000000 in
set_option maxHeartbeats 4000000 in
theorem wk_18 {u0 u1 u2 u3 u4 u6 u7 u9 u10 u11 u12 u13 u14 u15 u16 u17 u18 u19 u20 u21 u22 u23 u24 u25 u26 u27 u28 u29 u30 u31 u32 u33 u34 u35 u36 u37 u38 u39 u40 u41 u42 u43 u44 u45 u46 u47 u48 u49 u50 u51 u52 u53 u54 u55 u56 u57 u58 u59 u60 u61 u62 u63 u64 u65 u66 u67 u68 u69 u70 u71 u72 u73 u74 u75 u76 u77 u78 u79 u80 u81 u82 u83 u84 u85 u86 u87 u88 u89 u90 u91 u92 u93 u94 u95 u96 u97 u98 u99 u100 u101 u102 u103 u104 u105 u106 u107 u108 u109 u110 u111 u112 u113 u114 u115 u116 u117 u118 u119 u120 u121 u122 u123 u124 u125 u126 u127 u128 u129 u130 u131 u132 u133 u134 u135 u136 u137 u138 u139 u140 u141 u142 u143 u144 u145 u146 u147 u148 u149 u150 u151 u152 u153 u154 u155 u156 u157 u158 u159 u160 u161 u162 u163 u164 u165 u166 u167 u168 u169 u170 u171 u172 u173 u174 u175 u176 u177 u178 u179 u180 u181 u182 u183 u184 u185 u186 u187 u188 u189 u190 u191 u192 u193 u194 u195 u196 u197 u198 u199 u200 u201 u202 u203 u204 u205 u206 u207 u208 u209 u210 u211 u212 u213 u214 u215 u216 u217 u218 u219 u220 u221 u222 u223 u224 u225 u226 u227 u228 u229 u230 u231 u232 u233 u234 u235 u236 u237 u238 u239 u240 u241 u242 u243 u244 u245 u246 u247 u248 u249 u250 u251 u252 u253 u254 u255 u256 u257 u258 u259 u260 u261 u262 u263 u264 u265 u266 u267 u268 u269 u270 u271 u272 u273 u274 u275 u276 u277 u278 u279 u280 u281 u282 u283 u284 u285 u286 u287 u288 u289 u290 u291 u292 u293 u294 u295 u296 u297 u298 u299 u300 u301 u302 u303 u304 u305 u306 u307 u308 u309 u310 u311 u312 u313 u314 u315 u316 u317 u318 u319 u320 u321 u322 u323 u324 : Value} {Qx : Exit → Act → World → Prop} {H : Hd} {s : Sta} (sp : Sp) (sb bo m : Nat) (O : List Tok) (w : World) (hT : Tri w H s) (hTp : Tp w sb H.g H.A.g H.qg) (hBo : Bo w bo sp) (hO : O = ofL H.mo s.X s.l sp.ob) (hm : m = O.length)
    (hK : ∀ (a9 : Option Addr) (c9 : Nat) (w' : World), Ow w' w.heap.size 55 5 a9 m c9 (toks O) ∧ Below w.heap.size w w' → ∀ (v112 v113 v114 v115 v116 v117 v118 : Value), Qx .normal ⟨List.toArray (u0 :: u1 :: u2 :: u3 :: u4 :: .pointer (some ⟨sb, 0, none⟩) :: u6 :: u7 :: .pointer (some ⟨bo, 0, none⟩) :: u9 :: u10 :: u11 :: u12 :: u13 :: .slice a9 m c9 :: u15 :: u16 :: u17 :: u18 :: u19 :: u20 :: u21 :: u22 :: u23 :: u24 :: u25 :: u26 :: u27 :: u28 :: u29 :: u30 :: u31 :: u32 :: u33 :: u34 :: u35 :: u36 :: u37 :: u38 :: u39 :: u40 :: u41 :: u42 :: u43 :: u44 :: u45 :: u46 :: u47 :: u48 :: u49 :: u50 :: u51 :: u52 :: u53 :: u54 :: u55 :: u56 :: u57 :: u58 :: u59 :: u60 :: u61 :: u62 :: u63 :: u64 :: u65 :: u66 :: u67 :: u68 :: u69 :: u70 :: u71 :: u72 :: u73 :: u74 :: u75 :: u76 :: u77 :: u78 :: u79 :: u80 :: u81 :: u82 :: u83 :: u84 :: u85 :: u86 :: u87 :: u88 :: u89 :: u90 :: u91 :: u92 :: u93 :: u94 :: u95 :: u96 :: u97 :: u98 :: u99 :: u100 :: u101 :: u102 :: u103 :: u104 :: u105 :: u106 :: u107 :: u108 :: u109 :: u110 :: u111 :: v112 :: v113 :: v114 :: v115 :: v116 :: v117 :: v118 :: u119 :: u120 :: u121 :: u122 :: u123 :: u124 :: u125 :: u126 :: u127 :: u128 :: u129 :: u130 :: u131 :: u132 :: u133 :: u134 :: u135 :: u136 :: u137 :: u138 :: u139 :: u140 :: u141 :: u142 :: u143 :: u144 :: u145 :: u146 :: u147 :: u148 :: u149 :: u150 :: u151 :: u152 :: u153 :: u154 :: u155 :: u156 :: u157 :: u158 :: u159 :: u160 :: u161 :: u162 :: u163 :: u164 :: u165 :: u166 :: u167 :: u168 :: u169 :: u170 :: u171 :: u172 :: u173 :: u174 :: u175 :: u176 :: u177 :: u178 :: u179 :: u180 :: u181 :: u182 :: u183 :: u184 :: u185 :: u186 :: u187 :: u188 :: u189 :: u190 :: u191 :: u192 :: u193 :: u194 :: u195 :: u196 :: u197 :: u198 :: u199 :: u200 :: u201 :: u202 :: u203 :: u204 :: u205 :: u206 :: u207 :: u208 :: u209 :: u210 :: u211 :: u212 :: u213 :: u214 :: u215 :: u216 :: u217 :: u218 :: u219 :: u220 :: u221 :: u222 :: u223 :: u224 :: u225 :: u226 :: u227 :: u228 :: u229 :: u230 :: u231 :: u232 :: u233 :: u234 :: u235 :: u236 :: u237 :: u238 :: u239 :: u240 :: u241 :: u242 :: u243 :: u244 :: u245 :: u246 :: u247 :: u248 :: u249 :: u250 :: u251 :: u252 :: u253 :: u254 :: u255 :: u256 :: u257 :: u258 :: u259 :: u260 :: u261 :: u262 :: u263 :: u264 :: u265 :: u266 :: u267 :: u268 :: u269 :: u270 :: u271 :: u272 :: u273 :: u274 :: u275 :: u276 :: u277 :: u278 :: u279 :: u280 :: u281 :: u282 :: u283 :: u284 :: u285 :: u286 :: u287 :: u288 :: u289 :: u290 :: u291 :: u292 :: u293 :: u294 :: u295 :: u296 :: u297 :: u298 :: u299 :: u300 :: u301 :: u302 :: u303 :: u304 :: u305 :: u306 :: u307 :: u308 :: u309 :: u310 :: u311 :: u312 :: u313 :: u314 :: u315 :: u316 :: u317 :: u318 :: u319 :: u320 :: u321 :: u322 :: u323 :: u324 :: []), []⟩ w') :
    Code.wp Tryz.prog (c4 Tryz.f4.body 6) Qx ⟨List.toArray (u0 :: u1 :: u2 :: u3 :: u4 :: .pointer (some ⟨sb, 0, none⟩) :: u6 :: u7 :: .pointer (some ⟨bo, 0, none⟩) :: u9 :: u10 :: u11 :: u12 :: u13 :: u14 :: u15 :: u16 :: u17 :: u18 :: u19 :: u20 :: u21 :: u22 :: u23 :: u24 :: u25 :: u26 :: u27 :: u28 :: u29 :: u30 :: u31 :: u32 :: u33 :: u34 :: u35 :: u36 :: u37 :: u38 :: u39 :: u40 :: u41 :: u42 :: u43 :: u44 :: u45 :: u46 :: u47 :: u48 :: u49 :: u50 :: u51 :: u52 :: u53 :: u54 :: u55 :: u56 :: u57 :: u58 :: u59 :: u60 :: u61 :: u62 :: u63 :: u64 :: u65 :: u66 :: u67 :: u68 :: u69 :: u70 :: u71 :: u72 :: u73 :: u74 :: u75 :: u76 :: u77 :: u78 :: u79 :: u80 :: u81 :: u82 :: u83 :: u84 :: u85 :: u86 :: u87 :: u88 :: u89 :: u90 :: u91 :: u92 :: u93 :: u94 :: u95 :: u96 :: u97 :: u98 :: u99 :: u100 :: u101 :: u102 :: u103 :: u104 :: u105 :: u106 :: u107 :: u108 :: u109 :: u110 :: u111 :: u112 :: u113 :: u114 :: u115 :: u116 :: u117 :: u118 :: u119 :: u120 :: u121 :: u122 :: u123 :: u124 :: u125 :: u126 :: u127 :: u128 :: u129 :: u130 :: u131 :: u132 :: u133 :: u134 :: u135 :: u136 :: u137 :: u138 :: u139 :: u140 :: u141 :: u142 :: u143 :: u144 :: u145 :: u146 :: u147 :: u148 :: u149 :: u150 :: u151 :: u152 :: u153 :: u154 :: u155 :: u156 :: u157 :: u158 :: u159 :: u160 :: u161 :: u162 :: u163 :: u164 :: u165 :: u166 :: u167 :: u168 :: u169 :: u170 :: u171 :: u172 :: u173 :: u174 :: u175 :: u176 :: u177 :: u178 :: u179 :: u180 :: u181 :: u182 :: u183 :: u184 :: u185 :: u186 :: u187 :: u188 :: u189 :: u190 :: u191 :: u192 :: u193 :: u194 :: u195 :: u196 :: u197 :: u198 :: u199 :: u200 :: u201 :: u202 :: u203 :: u204 :: u205 :: u206 :: u207 :: u208 :: u209 :: u210 :: u211 :: u212 :: u213 :: u214 :: u215 :: u216 :: u217 :: u218 :: u219 :: u220 :: u221 :: u222 :: u223 :: u224 :: u225 :: u226 :: u227 :: u228 :: u229 :: u230 :: u231 :: u232 :: u233 :: u234 :: u235 :: u236 :: u237 :: u238 :: u239 :: u240 :: u241 :: u242 :: u243 :: u244 :: u245 :: u246 :: u247 :: u248 :: u249 :: u250 :: u251 :: u252 :: u253 :: u254 :: u255 :: u256 :: u257 :: u258 :: u259 :: u260 :: u261 :: u262 :: u263 :: u264 :: u265 :: u266 :: u267 :: u268 :: u269 :: u270 :: u271 :: u272 :: u273 :: u274 :: u275 :: u276 :: u277 :: u278 :: u279 :: u280 :: u281 :: u282 :: u283 :: u284 :: u285 :: u286 :: u287 :: u288 :: u289 :: u290 :: u291 :: u292 :: u293 :: u294 :: u295 :: u296 :: u297 :: u298 :: u299 :: u300 :: u301 :: u302 :: u303 :: u304 :: u305 :: u306 :: u307 :: u308 :: u309 :: u310 :: u311 :: u312 :: u313 :: u314 :: u315 :: u316 :: u317 :: u318 :: u319 :: u320 :: u321 :: u322 :: u323 :: u324 :: []), []⟩ w := by
  conv => arg 2; whnf
  have HR := hid (fun (U : World) (hU : Below w.heap.size w U) => cof_any (hT.later hU).cat sp.ob)
  rw [← hO, ← hm] at HR
  have HS : Hid (∀ U, Below w.heap.size w U → (U.cell? ⟨sb, 1, none⟩ = some (.pointer (some ⟨H.A.g, 0, none⟩)) ∧ U.cell? ⟨bo, 1, none⟩ = some (.int .i64 sp.ob)) ∧ Below w.heap.size w U) := fun U hU => ⟨⟨(hTp.later hU).c1, (hBo.later hU).c1⟩, hU⟩
  have HK := hid hK
  clear hT hTp hBo hO hm hK
  go_region_held3 (fun U => (U.cell? ⟨sb, 1, none⟩ = some (.pointer (some ⟨H.A.g, 0, none⟩)) ∧ U.cell? ⟨bo, 1, none⟩ = some (.int .i64 sp.ob)) ∧ Below w.heap.size w U) (first | exact HS.out _ hb2.out | exact HS.out _ (Below.refl _ _).drew) (first
    | (go_at_call 14; refine (HR.out _ (Below.refl _ _).drew).mono ?_; rintro e w2 ⟨a9, c9, rfl, hO2, hb⟩; have hb2 := hid (below_call (Below.refl w.heap.size w).drew hb); have HO2 := hid (hO2.mono (b := w.heap.size) (Below.refl w.heap.size w).drew.size); clear hb hO2))
  exact HK.out _ _ _ ⟨HO2.out, hb2.out⟩ ..
set_option maxRecDepth 1000000 in
set_option maxHeartbeats 4000000 in
theorem wk_12 {u0 u1 u2 u3 u4 u6 u7 u8 u9 u10 u11 u12 u13 u14 u15 u16 u17 u18 u19 u20 u21 u22 u23 u24 u25 u26 u27 u28 u29 u30 u31 u32 u33 u34 u35 u36 u37 u38 u39 u40 u41 u42 u43 u44 u45 u46 u47 u48 u49 u50 u51 u52 u53 u54 u55 u56 u57 u58 u59 u60 u61 u62 u63 u64 u65 u66 u67 u68 u69 u70 u71 u72 u73 u74 u75 u76 u77 u78 u79 u80 u81 u82 u83 u84 u85 u86 u87 u88 u89 u90 u91 u92 u93 u94 u95 u96 u97 u98 u99 u100 u101 u102 u103 u104 u105 u106 u107 u108 u109 u110 u111 u112 u113 u114 u115 u116 u117 u118 u119 u120 u121 u122 u123 u124 u125 u126 u127 u128 u129 u130 u131 u132 u133 u134 u135 u136 u137 u138 u139 u140 u141 u142 u143 u144 u145 u146 u147 u148 u149 u150 u151 u152 u153 u154 u155 u156 u157 u158 u159 u160 u161 u162 u163 u164 u165 u166 u167 u168 u169 u170 u171 u172 u173 u174 u175 u176 u177 u178 u179 u180 u181 u182 u183 u184 u185 u186 u187 u188 u189 u190 u191 u192 u193 u194 u195 u196 u197 u198 u199 u200 u201 u202 u203 u204 u205 u206 u207 u208 u209 u210 u211 u212 u213 u214 u215 u216 u217 u218 u219 u220 u221 u222 u223 u224 u225 u226 u227 u228 u229 u230 u231 u232 u233 u234 u235 u236 u237 u238 u239 u240 u241 u242 u243 u244 u245 u246 u247 u248 u249 u250 u251 u252 u253 u254 u255 u256 u257 u258 u259 u260 u261 u262 u263 u264 u265 u266 u267 u268 u269 u270 u271 u272 u273 u274 u275 u276 u277 u278 u279 u280 u281 u282 u283 u284 u285 u286 u287 u288 u289 u290 u291 u292 u293 u294 u295 u296 u297 u298 u299 u300 u301 u302 u303 u304 u305 u306 u307 u308 u309 u310 u311 u312 u313 u314 u315 u316 u317 u318 u319 u320 u321 u322 u323 u324 : Value} {Qx : Exit → Act → World → Prop} {H : Hd} {s : Sta} (sb : Nat) (w : World) (hT : Tri w H s) (hTp : Tp w sb H.g H.A.g H.qg)
    (hK : ∀ (w' : World), Below w.heap.size w w' → ∀ (v49 v50 v51 v52 v53 v54 v55 v56 v57 v58 : Value), Qx .normal ⟨List.toArray (u0 :: u1 :: u2 :: u3 :: u4 :: .pointer (some ⟨sb, 0, none⟩) :: u6 :: u7 :: u8 :: u9 :: .int .i64 (s.t : Int) :: .int .i64 (s.L.length : Int) :: u12 :: u13 :: u14 :: u15 :: u16 :: u17 :: u18 :: u19 :: u20 :: u21 :: u22 :: u23 :: u24 :: u25 :: u26 :: u27 :: u28 :: u29 :: u30 :: u31 :: u32 :: u33 :: u34 :: u35 :: u36 :: u37 :: u38 :: u39 :: u40 :: u41 :: u42 :: u43 :: u44 :: u45 :: u46 :: u47 :: u48 :: v49 :: v50 :: v51 :: v52 :: v53 :: v54 :: v55 :: v56 :: v57 :: v58 :: u59 :: u60 :: u61 :: u62 :: u63 :: u64 :: u65 :: u66 :: u67 :: u68 :: u69 :: u70 :: u71 :: u72 :: u73 :: u74 :: u75 :: u76 :: u77 :: u78 :: u79 :: u80 :: u81 :: u82 :: u83 :: u84 :: u85 :: u86 :: u87 :: u88 :: u89 :: u90 :: u91 :: u92 :: u93 :: u94 :: u95 :: u96 :: u97 :: u98 :: u99 :: u100 :: u101 :: u102 :: u103 :: u104 :: u105 :: u106 :: u107 :: u108 :: u109 :: u110 :: u111 :: u112 :: u113 :: u114 :: u115 :: u116 :: u117 :: u118 :: u119 :: u120 :: u121 :: u122 :: u123 :: u124 :: u125 :: u126 :: u127 :: u128 :: u129 :: u130 :: u131 :: u132 :: u133 :: u134 :: u135 :: u136 :: u137 :: u138 :: u139 :: u140 :: u141 :: u142 :: u143 :: u144 :: u145 :: u146 :: u147 :: u148 :: u149 :: u150 :: u151 :: u152 :: u153 :: u154 :: u155 :: u156 :: u157 :: u158 :: u159 :: u160 :: u161 :: u162 :: u163 :: u164 :: u165 :: u166 :: u167 :: u168 :: u169 :: u170 :: u171 :: u172 :: u173 :: u174 :: u175 :: u176 :: u177 :: u178 :: u179 :: u180 :: u181 :: u182 :: u183 :: u184 :: u185 :: u186 :: u187 :: u188 :: u189 :: u190 :: u191 :: u192 :: u193 :: u194 :: u195 :: u196 :: u197 :: u198 :: u199 :: u200 :: u201 :: u202 :: u203 :: u204 :: u205 :: u206 :: u207 :: u208 :: u209 :: u210 :: u211 :: u212 :: u213 :: u214 :: u215 :: u216 :: u217 :: u218 :: u219 :: u220 :: u221 :: u222 :: u223 :: u224 :: u225 :: u226 :: u227 :: u228 :: u229 :: u230 :: u231 :: u232 :: u233 :: u234 :: u235 :: u236 :: u237 :: u238 :: u239 :: u240 :: u241 :: u242 :: u243 :: u244 :: u245 :: u246 :: u247 :: u248 :: u249 :: u250 :: u251 :: u252 :: u253 :: u254 :: u255 :: u256 :: u257 :: u258 :: u259 :: u260 :: u261 :: u262 :: u263 :: u264 :: u265 :: u266 :: u267 :: u268 :: u269 :: u270 :: u271 :: u272 :: u273 :: u274 :: u275 :: u276 :: u277 :: u278 :: u279 :: u280 :: u281 :: u282 :: u283 :: u284 :: u285 :: u286 :: u287 :: u288 :: u289 :: u290 :: u291 :: u292 :: u293 :: u294 :: u295 :: u296 :: u297 :: u298 :: u299 :: u300 :: u301 :: u302 :: u303 :: u304 :: u305 :: u306 :: u307 :: u308 :: u309 :: u310 :: u311 :: u312 :: u313 :: u314 :: u315 :: u316 :: u317 :: u318 :: u319 :: u320 :: u321 :: u322 :: u323 :: u324 :: []), []⟩ w') :
    Code.wp Tryz.prog (c4 Tryz.f4.body 2) Qx ⟨List.toArray (u0 :: u1 :: u2 :: u3 :: u4 :: .pointer (some ⟨sb, 0, none⟩) :: u6 :: u7 :: u8 :: u9 :: u10 :: u11 :: u12 :: u13 :: u14 :: u15 :: u16 :: u17 :: u18 :: u19 :: u20 :: u21 :: u22 :: u23 :: u24 :: u25 :: u26 :: u27 :: u28 :: u29 :: u30 :: u31 :: u32 :: u33 :: u34 :: u35 :: u36 :: u37 :: u38 :: u39 :: u40 :: u41 :: u42 :: u43 :: u44 :: u45 :: u46 :: u47 :: u48 :: u49 :: u50 :: u51 :: u52 :: u53 :: u54 :: u55 :: u56 :: u57 :: u58 :: u59 :: u60 :: u61 :: u62 :: u63 :: u64 :: u65 :: u66 :: u67 :: u68 :: u69 :: u70 :: u71 :: u72 :: u73 :: u74 :: u75 :: u76 :: u77 :: u78 :: u79 :: u80 :: u81 :: u82 :: u83 :: u84 :: u85 :: u86 :: u87 :: u88 :: u89 :: u90 :: u91 :: u92 :: u93 :: u94 :: u95 :: u96 :: u97 :: u98 :: u99 :: u100 :: u101 :: u102 :: u103 :: u104 :: u105 :: u106 :: u107 :: u108 :: u109 :: u110 :: u111 :: u112 :: u113 :: u114 :: u115 :: u116 :: u117 :: u118 :: u119 :: u120 :: u121 :: u122 :: u123 :: u124 :: u125 :: u126 :: u127 :: u128 :: u129 :: u130 :: u131 :: u132 :: u133 :: u134 :: u135 :: u136 :: u137 :: u138 :: u139 :: u140 :: u141 :: u142 :: u143 :: u144 :: u145 :: u146 :: u147 :: u148 :: u149 :: u150 :: u151 :: u152 :: u153 :: u154 :: u155 :: u156 :: u157 :: u158 :: u159 :: u160 :: u161 :: u162 :: u163 :: u164 :: u165 :: u166 :: u167 :: u168 :: u169 :: u170 :: u171 :: u172 :: u173 :: u174 :: u175 :: u176 :: u177 :: u178 :: u179 :: u180 :: u181 :: u182 :: u183 :: u184 :: u185 :: u186 :: u187 :: u188 :: u189 :: u190 :: u191 :: u192 :: u193 :: u194 :: u195 :: u196 :: u197 :: u198 :: u199 :: u200 :: u201 :: u202 :: u203 :: u204 :: u205 :: u206 :: u207 :: u208 :: u209 :: u210 :: u211 :: u212 :: u213 :: u214 :: u215 :: u216 :: u217 :: u218 :: u219 :: u220 :: u221 :: u222 :: u223 :: u224 :: u225 :: u226 :: u227 :: u228 :: u229 :: u230 :: u231 :: u232 :: u233 :: u234 :: u235 :: u236 :: u237 :: u238 :: u239 :: u240 :: u241 :: u242 :: u243 :: u244 :: u245 :: u246 :: u247 :: u248 :: u249 :: u250 :: u251 :: u252 :: u253 :: u254 :: u255 :: u256 :: u257 :: u258 :: u259 :: u260 :: u261 :: u262 :: u263 :: u264 :: u265 :: u266 :: u267 :: u268 :: u269 :: u270 :: u271 :: u272 :: u273 :: u274 :: u275 :: u276 :: u277 :: u278 :: u279 :: u280 :: u281 :: u282 :: u283 :: u284 :: u285 :: u286 :: u287 :: u288 :: u289 :: u290 :: u291 :: u292 :: u293 :: u294 :: u295 :: u296 :: u297 :: u298 :: u299 :: u300 :: u301 :: u302 :: u303 :: u304 :: u305 :: u306 :: u307 :: u308 :: u309 :: u310 :: u311 :: u312 :: u313 :: u314 :: u315 :: u316 :: u317 :: u318 :: u319 :: u320 :: u321 :: u322 :: u323 :: u324 :: []), []⟩ w := by
  conv => arg 2; whnf
  have HR := hid (fun (U : World) (hU : Below w.heap.size w U) => taken_below (hT.later hU))
  have HA := hid (fun (U : World) (hU : Below w.heap.size w U) => Q.all_any (hT.later hU).qu)
  have HS : Hid (∀ U, Below w.heap.size w U → (U.cell? ⟨sb, 0, none⟩ = some (.pointer (some ⟨H.g, 0, none⟩)) ∧ U.cell? ⟨sb, 2, none⟩ = some (.pointer (some ⟨H.qg, 0, none⟩))) ∧ Below w.heap.size w U) := fun U hU => ⟨⟨(hTp.later hU).c0, (hTp.later hU).c2⟩, hU⟩
  have HK := hid hK
  clear hT hTp hK
  go_region_held3 (fun U => (U.cell? ⟨sb, 0, none⟩ = some (.pointer (some ⟨H.g, 0, none⟩)) ∧ U.cell? ⟨sb, 2, none⟩ = some (.pointer (some ⟨H.qg, 0, none⟩))) ∧ Below w.heap.size w U) (first | exact HS.out _ hb3.out | exact HS.out _ hb3a.out | exact HS.out _ (Below.refl _ _).drew) (first
    | (go_at_call 15; refine (HA.out _ hb3a.out).mono ?_; rintro e w3a ⟨rfl, hb⟩; have hb3 := hid (below_call hb3a.out hb); clear hb)
    | (go_at_call 12; refine (HR.out _ (Below.refl _ _).drew).mono ?_; rintro e w3b ⟨rfl, hb⟩; have hb3a := hid (below_call (Below.refl w.heap.size w).drew hb); clear hb))
  exact HK.out _ hb3.out ..
set_option maxRecDepth 1000000 in
set_option maxHeartbeats 4000000 in
theorem wk_15 {u0 u1 u2 u3 u4 u5 u6 u7 u10 u11 u12 u13 u14 u15 u16 u17 u18 u19 u20 u21 u22 u23 u24 u25 u26 u27 u28 u29 u30 u31 u32 u33 u34 u35 u36 u37 u38 u39 u40 u41 u42 u43 u44 u45 u46 u47 u48 u49 u50 u51 u52 u53 u54 u55 u56 u57 u58 u59 u60 u61 u62 u63 u64 u65 u66 u67 u68 u69 u70 u71 u72 u73 u74 u75 u76 u77 u78 u79 u80 u81 u82 u83 u84 u85 u86 u87 u88 u89 u90 u91 u92 u93 u94 u95 u96 u97 u98 u99 u100 u101 u102 u103 u104 u105 u106 u107 u108 u109 u110 u111 u112 u113 u114 u115 u116 u117 u118 u119 u120 u121 u122 u123 u124 u125 u126 u127 u128 u129 u130 u131 u132 u133 u134 u135 u136 u137 u138 u139 u140 u141 u142 u143 u144 u145 u146 u147 u148 u149 u150 u151 u152 u153 u154 u155 u156 u157 u158 u159 u160 u161 u162 u163 u164 u165 u166 u167 u168 u169 u170 u171 u172 u173 u174 u175 u176 u177 u178 u179 u180 u181 u182 u183 u184 u185 u186 u187 u188 u189 u190 u191 u192 u193 u194 u195 u196 u197 u198 u199 u200 u201 u202 u203 u204 u205 u206 u207 u208 u209 u210 u211 u212 u213 u214 u215 u216 u217 u218 u219 u220 u221 u222 u223 u224 u225 u226 u227 u228 u229 u230 u231 u232 u233 u234 u235 u236 u237 u238 u239 u240 u241 u242 u243 u244 u245 u246 u247 u248 u249 u250 u251 u252 u253 u254 u255 u256 u257 u258 u259 u260 u261 u262 u263 u264 u265 u266 u267 u268 u269 u270 u271 u272 u273 u274 u275 u276 u277 u278 u279 u280 u281 u282 u283 u284 u285 u286 u287 u288 u289 u290 u291 u292 u293 u294 u295 u296 u297 u298 u299 u300 u301 u302 u303 u304 u305 u306 u307 u308 u309 u310 u311 u312 u313 u314 u315 u316 u317 u318 u319 u320 u321 u322 u323 u324 : Value} {Qx : Exit → Act → World → Prop} (sp : Sp) (bo m c9 : Nat) (a9 : Option Addr) (w : World) (hBo : Bo w bo sp)
    (hK : ∀ (w' : World), w' = w → ∀ (v59 v60 v61 v62 v63 v64 v65 : Value), Qx .normal ⟨List.toArray (u0 :: u1 :: u2 :: u3 :: u4 :: u5 :: u6 :: u7 :: .pointer (some ⟨bo, 0, none⟩) :: .slice a9 m c9 :: u10 :: u11 :: u12 :: u13 :: u14 :: u15 :: u16 :: u17 :: u18 :: u19 :: u20 :: u21 :: u22 :: u23 :: u24 :: u25 :: u26 :: u27 :: u28 :: u29 :: u30 :: u31 :: u32 :: u33 :: u34 :: u35 :: u36 :: u37 :: u38 :: u39 :: u40 :: u41 :: u42 :: u43 :: u44 :: u45 :: u46 :: u47 :: u48 :: u49 :: u50 :: u51 :: u52 :: u53 :: u54 :: u55 :: u56 :: u57 :: u58 :: v59 :: v60 :: v61 :: v62 :: v63 :: v64 :: v65 :: .bool (decide (sp.kd = 0 ∨ m = 0)) :: u67 :: u68 :: u69 :: u70 :: u71 :: u72 :: u73 :: u74 :: u75 :: u76 :: u77 :: u78 :: u79 :: u80 :: u81 :: u82 :: u83 :: u84 :: u85 :: u86 :: u87 :: u88 :: u89 :: u90 :: u91 :: u92 :: u93 :: u94 :: u95 :: u96 :: u97 :: u98 :: u99 :: u100 :: u101 :: u102 :: u103 :: u104 :: u105 :: u106 :: u107 :: u108 :: u109 :: u110 :: u111 :: u112 :: u113 :: u114 :: u115 :: u116 :: u117 :: u118 :: u119 :: u120 :: u121 :: u122 :: u123 :: u124 :: u125 :: u126 :: u127 :: u128 :: u129 :: u130 :: u131 :: u132 :: u133 :: u134 :: u135 :: u136 :: u137 :: u138 :: u139 :: u140 :: u141 :: u142 :: u143 :: u144 :: u145 :: u146 :: u147 :: u148 :: u149 :: u150 :: u151 :: u152 :: u153 :: u154 :: u155 :: u156 :: u157 :: u158 :: u159 :: u160 :: u161 :: u162 :: u163 :: u164 :: u165 :: u166 :: u167 :: u168 :: u169 :: u170 :: u171 :: u172 :: u173 :: u174 :: u175 :: u176 :: u177 :: u178 :: u179 :: u180 :: u181 :: u182 :: u183 :: u184 :: u185 :: u186 :: u187 :: u188 :: u189 :: u190 :: u191 :: u192 :: u193 :: u194 :: u195 :: u196 :: u197 :: u198 :: u199 :: u200 :: u201 :: u202 :: u203 :: u204 :: u205 :: u206 :: u207 :: u208 :: u209 :: u210 :: u211 :: u212 :: u213 :: u214 :: u215 :: u216 :: u217 :: u218 :: u219 :: u220 :: u221 :: u222 :: u223 :: u224 :: u225 :: u226 :: u227 :: u228 :: u229 :: u230 :: u231 :: u232 :: u233 :: u234 :: u235 :: u236 :: u237 :: u238 :: u239 :: u240 :: u241 :: u242 :: u243 :: u244 :: u245 :: u246 :: u247 :: u248 :: u249 :: u250 :: u251 :: u252 :: u253 :: u254 :: u255 :: u256 :: u257 :: u258 :: u259 :: u260 :: u261 :: u262 :: u263 :: u264 :: u265 :: u266 :: u267 :: u268 :: u269 :: u270 :: u271 :: u272 :: u273 :: u274 :: u275 :: u276 :: u277 :: u278 :: u279 :: u280 :: u281 :: u282 :: u283 :: u284 :: u285 :: u286 :: u287 :: u288 :: u289 :: u290 :: u291 :: u292 :: u293 :: u294 :: u295 :: u296 :: u297 :: u298 :: u299 :: u300 :: u301 :: u302 :: u303 :: u304 :: u305 :: u306 :: u307 :: u308 :: u309 :: u310 :: u311 :: u312 :: u313 :: u314 :: u315 :: u316 :: u317 :: u318 :: u319 :: u320 :: u321 :: u322 :: u323 :: u324 :: []), []⟩ w') :
    Code.wp Tryz.prog (pL (c4 Tryz.f4.body 5)) Qx ⟨List.toArray (u0 :: u1 :: u2 :: u3 :: u4 :: u5 :: u6 :: u7 :: .pointer (some ⟨bo, 0, none⟩) :: .slice a9 m c9 :: u10 :: u11 :: u12 :: u13 :: u14 :: u15 :: u16 :: u17 :: u18 :: u19 :: u20 :: u21 :: u22 :: u23 :: u24 :: u25 :: u26 :: u27 :: u28 :: u29 :: u30 :: u31 :: u32 :: u33 :: u34 :: u35 :: u36 :: u37 :: u38 :: u39 :: u40 :: u41 :: u42 :: u43 :: u44 :: u45 :: u46 :: u47 :: u48 :: u49 :: u50 :: u51 :: u52 :: u53 :: u54 :: u55 :: u56 :: u57 :: u58 :: u59 :: u60 :: u61 :: u62 :: u63 :: u64 :: u65 :: u66 :: u67 :: u68 :: u69 :: u70 :: u71 :: u72 :: u73 :: u74 :: u75 :: u76 :: u77 :: u78 :: u79 :: u80 :: u81 :: u82 :: u83 :: u84 :: u85 :: u86 :: u87 :: u88 :: u89 :: u90 :: u91 :: u92 :: u93 :: u94 :: u95 :: u96 :: u97 :: u98 :: u99 :: u100 :: u101 :: u102 :: u103 :: u104 :: u105 :: u106 :: u107 :: u108 :: u109 :: u110 :: u111 :: u112 :: u113 :: u114 :: u115 :: u116 :: u117 :: u118 :: u119 :: u120 :: u121 :: u122 :: u123 :: u124 :: u125 :: u126 :: u127 :: u128 :: u129 :: u130 :: u131 :: u132 :: u133 :: u134 :: u135 :: u136 :: u137 :: u138 :: u139 :: u140 :: u141 :: u142 :: u143 :: u144 :: u145 :: u146 :: u147 :: u148 :: u149 :: u150 :: u151 :: u152 :: u153 :: u154 :: u155 :: u156 :: u157 :: u158 :: u159 :: u160 :: u161 :: u162 :: u163 :: u164 :: u165 :: u166 :: u167 :: u168 :: u169 :: u170 :: u171 :: u172 :: u173 :: u174 :: u175 :: u176 :: u177 :: u178 :: u179 :: u180 :: u181 :: u182 :: u183 :: u184 :: u185 :: u186 :: u187 :: u188 :: u189 :: u190 :: u191 :: u192 :: u193 :: u194 :: u195 :: u196 :: u197 :: u198 :: u199 :: u200 :: u201 :: u202 :: u203 :: u204 :: u205 :: u206 :: u207 :: u208 :: u209 :: u210 :: u211 :: u212 :: u213 :: u214 :: u215 :: u216 :: u217 :: u218 :: u219 :: u220 :: u221 :: u222 :: u223 :: u224 :: u225 :: u226 :: u227 :: u228 :: u229 :: u230 :: u231 :: u232 :: u233 :: u234 :: u235 :: u236 :: u237 :: u238 :: u239 :: u240 :: u241 :: u242 :: u243 :: u244 :: u245 :: u246 :: u247 :: u248 :: u249 :: u250 :: u251 :: u252 :: u253 :: u254 :: u255 :: u256 :: u257 :: u258 :: u259 :: u260 :: u261 :: u262 :: u263 :: u264 :: u265 :: u266 :: u267 :: u268 :: u269 :: u270 :: u271 :: u272 :: u273 :: u274 :: u275 :: u276 :: u277 :: u278 :: u279 :: u280 :: u281 :: u282 :: u283 :: u284 :: u285 :: u286 :: u287 :: u288 :: u289 :: u290 :: u291 :: u292 :: u293 :: u294 :: u295 :: u296 :: u297 :: u298 :: u299 :: u300 :: u301 :: u302 :: u303 :: u304 :: u305 :: u306 :: u307 :: u308 :: u309 :: u310 :: u311 :: u312 :: u313 :: u314 :: u315 :: u316 :: u317 :: u318 :: u319 :: u320 :: u321 :: u322 :: u323 :: u324 :: []), []⟩ w := by
  conv => arg 2; whnf
  have y0 := hBo.c0
  clear hBo
  by_cases hk : sp.kd = 0
  · have hb0 : (sp.kd == 0) = true := by rw [beq_iff_eq]; exact hk
    rw [decide_eq_true (p := sp.kd = 0 ∨ m = 0) (.inl hk)] at hK
    have HK := hid hK
    clear hk hK
    go_wp2
    exact HK.out _ rfl ..
  have hb0 : (sp.kd == 0) = false := by rw [beq_eq_false_iff_ne]; exact hk
  by_cases hm0 : m = 0
  · have hb1 : ((m : Int) == 0) = true := by rw [beq_iff_eq]; omega
    rw [decide_eq_true (p := sp.kd = 0 ∨ m = 0) (.inr hm0)] at hK
    have HK := hid hK
    clear hk hm0 hK
    go_wp2
    exact HK.out _ rfl ..
  · have hb1 : ((m : Int) == 0) = false := by rw [beq_eq_false_iff_ne]; omega
    rw [decide_eq_false (p := sp.kd = 0 ∨ m = 0) (fun e => e.elim hk hm0)] at hK
    have HK := hid hK
    clear hk hm0 hK
    go_wp2
    exact HK.out _ rfl ..
end Go.Proofs.YtgihdchgdejkhaaGreatDoor.D
namespace Go.Proofs.YtgihdchgdejkhaaGreatDoor.D
open Go.RowKit
open Go.Proofs.YtgihdchgdejkhaaGreatDoor.H (B64 Cp)
set_option linter.unusedVariables false
set_option linter.unusedSimpArgs false
set_option maxRecDepth 1000000 in
set_option maxHeartbeats 4000000 in
theorem wk_16 {u0 u1 u2 u3 u4 u6 u7 u9 u10 u11 u13 u14 u15 u16 u17 u18 u19 u20 u21 u22 u23 u24 u25 u26 u27 u28 u29 u30 u31 u32 u33 u34 u35 u36 u37 u38 u39 u40 u41 u42 u43 u44 u45 u46 u47 u48 u49 u50 u51 u52 u53 u54 u55 u56 u57 u58 u59 u60 u61 u62 u63 u64 u65 u66 u67 u68 u69 u70 u71 u72 u73 u74 u75 u76 u77 u78 u79 u80 u81 u82 u83 u84 u85 u86 u87 u88 u89 u90 u91 u92 u93 u94 u95 u96 u97 u98 u99 u100 u101 u102 u103 u104 u105 u106 u107 u108 u109 u110 u111 u112 u113 u114 u115 u116 u117 u118 u119 u120 u121 u122 u123 u124 u125 u126 u127 u128 u129 u130 u131 u132 u133 u134 u135 u136 u137 u138 u139 u140 u141 u142 u143 u144 u145 u146 u147 u148 u149 u150 u151 u152 u153 u154 u155 u156 u157 u158 u159 u160 u161 u162 u163 u164 u165 u166 u167 u168 u169 u170 u171 u172 u173 u174 u175 u176 u177 u178 u179 u180 u181 u182 u183 u184 u185 u186 u187 u188 u189 u190 u191 u192 u193 u194 u195 u196 u197 u198 u199 u200 u201 u202 u203 u204 u205 u206 u207 u208 u209 u210 u211 u212 u213 u214 u215 u216 u217 u218 u219 u220 u221 u222 u223 u224 u225 u226 u227 u228 u229 u230 u231 u232 u233 u234 u235 u236 u237 u238 u239 u240 u241 u242 u243 u244 u245 u246 u247 u248 u249 u250 u251 u252 u253 u254 u255 u256 u257 u258 u259 u260 u261 u262 u263 u264 u265 u266 u267 u268 u269 u270 u271 u272 u273 u274 u275 u276 u277 u278 u279 u280 u281 u282 u283 u284 u285 u286 u287 u288 u289 u290 u291 u292 u293 u294 u295 u296 u297 u298 u299 u300 u301 u302 u303 u304 u305 u306 u307 u308 u309 u310 u311 u312 u313 u314 u315 u316 u317 u318 u319 u320 u321 u322 u323 u324 : Value} {Qx : Exit → Act → World → Prop} {H : Hd} {s : Sta} (sp : Sp) (sb bo bx m c9 : Nat) (a9 : Option Addr) (O : List Tok) (R : Ans) (w : World) (hT : Tri w H s) (hF : Fit H.toPar s) (hok : sp.ok) (hO : O = ofL H.mo s.X s.l sp.ob) (hm : m = O.length) (hmo : H.mo ≤ 1024) (hR : R = stepA H.toPar s sp) (hZ : Zc w bx) (hA : ∀ k, H.All k → k < bx) (hSt : ∀ U, But (fun k => H.Wr k ∨ k = bx) w U → (U.cell? ⟨sb, 0, none⟩ = some (.pointer (some ⟨H.g, 0, none⟩)) ∧ U.cell? ⟨sb, 1, none⟩ = some (.pointer (some ⟨H.A.g, 0, none⟩)) ∧ U.cell? ⟨sb, 2, none⟩ = some (.pointer (some ⟨H.qg, 0, none⟩)) ∧ Bo U bo sp) ∧ Rt U a9 m O) (hC : sp.kd = 0 ∨ m = 0)
    (hK : ∀ (w' : World), Sw w H bx R w' → ∀ (v67 v68 v69 v70 v71 v72 v73 v74 v75 v76 v77 v78 v79 v80 v81 v82 v83 v84 : Value), Qx .normal ⟨List.toArray (u0 :: u1 :: u2 :: u3 :: u4 :: .pointer (some ⟨sb, 0, none⟩) :: u6 :: u7 :: .pointer (some ⟨bo, 0, none⟩) :: u9 :: u10 :: u11 :: .pointer (some ⟨bx, 0, none⟩) :: .int .i64 R.code :: u14 :: u15 :: u16 :: u17 :: u18 :: u19 :: u20 :: u21 :: u22 :: u23 :: u24 :: u25 :: u26 :: u27 :: u28 :: u29 :: u30 :: u31 :: u32 :: u33 :: u34 :: u35 :: u36 :: u37 :: u38 :: u39 :: u40 :: u41 :: u42 :: u43 :: u44 :: u45 :: u46 :: u47 :: u48 :: u49 :: u50 :: u51 :: u52 :: u53 :: u54 :: u55 :: u56 :: u57 :: u58 :: u59 :: u60 :: u61 :: u62 :: u63 :: u64 :: u65 :: u66 :: v67 :: v68 :: v69 :: v70 :: v71 :: v72 :: v73 :: v74 :: v75 :: v76 :: v77 :: v78 :: v79 :: v80 :: v81 :: v82 :: v83 :: v84 :: u85 :: u86 :: u87 :: u88 :: u89 :: u90 :: u91 :: u92 :: u93 :: u94 :: u95 :: u96 :: u97 :: u98 :: u99 :: u100 :: u101 :: u102 :: u103 :: u104 :: u105 :: u106 :: u107 :: u108 :: u109 :: u110 :: u111 :: u112 :: u113 :: u114 :: u115 :: u116 :: u117 :: u118 :: u119 :: u120 :: u121 :: u122 :: u123 :: u124 :: u125 :: u126 :: u127 :: u128 :: u129 :: u130 :: u131 :: u132 :: u133 :: u134 :: u135 :: u136 :: u137 :: u138 :: u139 :: u140 :: u141 :: u142 :: u143 :: u144 :: u145 :: u146 :: u147 :: u148 :: u149 :: u150 :: u151 :: u152 :: u153 :: u154 :: u155 :: u156 :: u157 :: u158 :: u159 :: u160 :: u161 :: u162 :: u163 :: u164 :: u165 :: u166 :: u167 :: u168 :: u169 :: u170 :: u171 :: u172 :: u173 :: u174 :: u175 :: u176 :: u177 :: u178 :: u179 :: u180 :: u181 :: u182 :: u183 :: u184 :: u185 :: u186 :: u187 :: u188 :: u189 :: u190 :: u191 :: u192 :: u193 :: u194 :: u195 :: u196 :: u197 :: u198 :: u199 :: u200 :: u201 :: u202 :: u203 :: u204 :: u205 :: u206 :: u207 :: u208 :: u209 :: u210 :: u211 :: u212 :: u213 :: u214 :: u215 :: u216 :: u217 :: u218 :: u219 :: u220 :: u221 :: u222 :: u223 :: u224 :: u225 :: u226 :: u227 :: u228 :: u229 :: u230 :: u231 :: u232 :: u233 :: u234 :: u235 :: u236 :: u237 :: u238 :: u239 :: u240 :: u241 :: u242 :: u243 :: u244 :: u245 :: u246 :: u247 :: u248 :: u249 :: u250 :: u251 :: u252 :: u253 :: u254 :: u255 :: u256 :: u257 :: u258 :: u259 :: u260 :: u261 :: u262 :: u263 :: u264 :: u265 :: u266 :: u267 :: u268 :: u269 :: u270 :: u271 :: u272 :: u273 :: u274 :: u275 :: u276 :: u277 :: u278 :: u279 :: u280 :: u281 :: u282 :: u283 :: u284 :: u285 :: u286 :: u287 :: u288 :: u289 :: u290 :: u291 :: u292 :: u293 :: u294 :: u295 :: u296 :: u297 :: u298 :: u299 :: u300 :: u301 :: u302 :: u303 :: u304 :: u305 :: u306 :: u307 :: u308 :: u309 :: u310 :: u311 :: u312 :: u313 :: u314 :: u315 :: u316 :: u317 :: u318 :: u319 :: u320 :: u321 :: u322 :: u323 :: u324 :: []), []⟩ w') :
    Code.wp Tryz.prog (pI (pR (c4 Tryz.f4.body 5))) Qx ⟨List.toArray (u0 :: u1 :: u2 :: u3 :: u4 :: .pointer (some ⟨sb, 0, none⟩) :: u6 :: u7 :: .pointer (some ⟨bo, 0, none⟩) :: u9 :: u10 :: u11 :: .pointer (some ⟨bx, 0, none⟩) :: u13 :: u14 :: u15 :: u16 :: u17 :: u18 :: u19 :: u20 :: u21 :: u22 :: u23 :: u24 :: u25 :: u26 :: u27 :: u28 :: u29 :: u30 :: u31 :: u32 :: u33 :: u34 :: u35 :: u36 :: u37 :: u38 :: u39 :: u40 :: u41 :: u42 :: u43 :: u44 :: u45 :: u46 :: u47 :: u48 :: u49 :: u50 :: u51 :: u52 :: u53 :: u54 :: u55 :: u56 :: u57 :: u58 :: u59 :: u60 :: u61 :: u62 :: u63 :: u64 :: u65 :: u66 :: u67 :: u68 :: u69 :: u70 :: u71 :: u72 :: u73 :: u74 :: u75 :: u76 :: u77 :: u78 :: u79 :: u80 :: u81 :: u82 :: u83 :: u84 :: u85 :: u86 :: u87 :: u88 :: u89 :: u90 :: u91 :: u92 :: u93 :: u94 :: u95 :: u96 :: u97 :: u98 :: u99 :: u100 :: u101 :: u102 :: u103 :: u104 :: u105 :: u106 :: u107 :: u108 :: u109 :: u110 :: u111 :: u112 :: u113 :: u114 :: u115 :: u116 :: u117 :: u118 :: u119 :: u120 :: u121 :: u122 :: u123 :: u124 :: u125 :: u126 :: u127 :: u128 :: u129 :: u130 :: u131 :: u132 :: u133 :: u134 :: u135 :: u136 :: u137 :: u138 :: u139 :: u140 :: u141 :: u142 :: u143 :: u144 :: u145 :: u146 :: u147 :: u148 :: u149 :: u150 :: u151 :: u152 :: u153 :: u154 :: u155 :: u156 :: u157 :: u158 :: u159 :: u160 :: u161 :: u162 :: u163 :: u164 :: u165 :: u166 :: u167 :: u168 :: u169 :: u170 :: u171 :: u172 :: u173 :: u174 :: u175 :: u176 :: u177 :: u178 :: u179 :: u180 :: u181 :: u182 :: u183 :: u184 :: u185 :: u186 :: u187 :: u188 :: u189 :: u190 :: u191 :: u192 :: u193 :: u194 :: u195 :: u196 :: u197 :: u198 :: u199 :: u200 :: u201 :: u202 :: u203 :: u204 :: u205 :: u206 :: u207 :: u208 :: u209 :: u210 :: u211 :: u212 :: u213 :: u214 :: u215 :: u216 :: u217 :: u218 :: u219 :: u220 :: u221 :: u222 :: u223 :: u224 :: u225 :: u226 :: u227 :: u228 :: u229 :: u230 :: u231 :: u232 :: u233 :: u234 :: u235 :: u236 :: u237 :: u238 :: u239 :: u240 :: u241 :: u242 :: u243 :: u244 :: u245 :: u246 :: u247 :: u248 :: u249 :: u250 :: u251 :: u252 :: u253 :: u254 :: u255 :: u256 :: u257 :: u258 :: u259 :: u260 :: u261 :: u262 :: u263 :: u264 :: u265 :: u266 :: u267 :: u268 :: u269 :: u270 :: u271 :: u272 :: u273 :: u274 :: u275 :: u276 :: u277 :: u278 :: u279 :: u280 :: u281 :: u282 :: u283 :: u284 :: u285 :: u286 :: u287 :: u288 :: u289 :: u290 :: u291 :: u292 :: u293 :: u294 :: u295 :: u296 :: u297 :: u298 :: u299 :: u300 :: u301 :: u302 :: u303 :: u304 :: u305 :: u306 :: u307 :: u308 :: u309 :: u310 :: u311 :: u312 :: u313 :: u314 :: u315 :: u316 :: u317 :: u318 :: u319 :: u320 :: u321 :: u322 :: u323 :: u324 :: []), []⟩ w := by
  conv => arg 2; whnf
  have HR16 : Hid (∀ U, Below w.heap.size w U → Calls Tryz.prog 10 #[.pointer (some ⟨H.g, 0, none⟩), .pointer (some ⟨H.A.g, 0, none⟩), .pointer (some ⟨H.qg, 0, none⟩), .int .i64 sp.ob] U fun e w' => e = .returned (.tuple #[.agg #[.int .i64 R.c.1, .int .u64 (R.c.2.1 : Int), .int .u64 (R.c.2.2 : Int)], .int .i64 R.code]) ∧ Tri w' H R.s ∧ But H.Wr U w') := fun U hU => by
    have := root_any (hT.later hU) hF sp.ob hok.1.1
    rw [← show stepA H.toPar s sp = rootA H.toPar s sp.ob by unfold stepA; rw [if_pos (hC.imp id (fun e => by rw [show ofL H.toPar.mo s.X s.l sp.ob = O from hO.symm, ← hm]; exact e))], ← hR] at this
    exact this
  have HS16 : Hid (∀ U, But (fun k => H.Wr k ∨ k = bx) w U → (U.cell? ⟨sb, 0, none⟩ = some (.pointer (some ⟨H.g, 0, none⟩)) ∧ U.cell? ⟨sb, 1, none⟩ = some (.pointer (some ⟨H.A.g, 0, none⟩)) ∧ U.cell? ⟨sb, 2, none⟩ = some (.pointer (some ⟨H.qg, 0, none⟩)) ∧ U.cell? ⟨bo, 1, none⟩ = some (.int .i64 sp.ob)) ∧ But (fun k => H.Wr k ∨ k = bx) w U) := fun U hU => by
    obtain ⟨⟨q0, q1, q2, hb⟩, _⟩ := hSt U hU
    exact ⟨⟨q0, q1, q2, hb.c1⟩, hU⟩
  have HK := hid hK
  have HZ4 := hid hZ
  have HAll := hid hA
  clear hK hT hF hok hO hm hmo hR hZ hA hSt hC
  go_region_held3 (fun U => (U.cell? ⟨sb, 0, none⟩ = some (.pointer (some ⟨H.g, 0, none⟩)) ∧ U.cell? ⟨sb, 1, none⟩ = some (.pointer (some ⟨H.A.g, 0, none⟩)) ∧ U.cell? ⟨sb, 2, none⟩ = some (.pointer (some ⟨H.qg, 0, none⟩)) ∧ U.cell? ⟨bo, 1, none⟩ = some (.int .i64 sp.ob)) ∧ But (fun k => H.Wr k ∨ k = bx) w U) (first | exact HS16.out _ (HBt.out.mono (fun k hk => .inl hk)) | exact HS16.out _ (But.of (Below.refl _ _).drew) | exact HS16.out _ ((((HBt.out.mono (fun k hk => .inl hk)).setCell (p := ⟨bx, 0, none⟩) (.inr rfl) _).setCell (p := ⟨bx, 1, none⟩) (.inr rfl) _).setCell (p := ⟨bx, 2, none⟩) (.inr rfl) _)) (first
    | (go_at_call 10; refine (HR16.out _ (Below.refl _ _).drew).mono ?_; rintro e u_ ⟨rfl, ht, hb⟩; have HTt := hid ht; have HBt := hid ((But.of (S := H.Wr) (Below.refl w.heap.size w).drew).trans hb); have hzc := HZ4.out.drew_.but hb (fun e => by have := HAll.out _ (Hd.wr_all e); omega); have HZc := hid hzc; obtain ⟨⟨z0, f0⟩, ⟨z1, f1⟩, ⟨z2, f2⟩⟩ := hzc; clear ht hb))
  exact HK.out _ (Sw.mk_ HTt.out HZc.out HBt.out HAll.out) ..
end Go.Proofs.YtgihdchgdejkhaaGreatDoor.D
namespace Go.Proofs.YtgihdchgdejkhaaGreatDoor.D
open Go.RowKit
open Go.Proofs.YtgihdchgdejkhaaGreatDoor.H (B64 Cp)
set_option linter.unusedVariables false
set_option linter.unusedSimpArgs false
set_option maxRecDepth 1000000 in
set_option maxHeartbeats 4000000 in
theorem wk_17 {u0 u1 u2 u3 u4 u6 u7 u10 u11 u13 u14 u15 u16 u17 u18 u19 u20 u21 u22 u23 u24 u25 u26 u27 u28 u29 u30 u31 u32 u33 u34 u35 u36 u37 u38 u39 u40 u41 u42 u43 u44 u45 u46 u47 u48 u49 u50 u51 u52 u53 u54 u55 u56 u57 u58 u59 u60 u61 u62 u63 u64 u65 u66 u67 u68 u69 u70 u71 u72 u73 u74 u75 u76 u77 u78 u79 u80 u81 u82 u83 u84 u85 u86 u87 u88 u89 u90 u91 u92 u93 u94 u95 u96 u97 u98 u99 u100 u101 u102 u103 u104 u105 u106 u107 u108 u109 u110 u111 u112 u113 u114 u115 u116 u117 u118 u119 u120 u121 u122 u123 u124 u125 u126 u127 u128 u129 u130 u131 u132 u133 u134 u135 u136 u137 u138 u139 u140 u141 u142 u143 u144 u145 u146 u147 u148 u149 u150 u151 u152 u153 u154 u155 u156 u157 u158 u159 u160 u161 u162 u163 u164 u165 u166 u167 u168 u169 u170 u171 u172 u173 u174 u175 u176 u177 u178 u179 u180 u181 u182 u183 u184 u185 u186 u187 u188 u189 u190 u191 u192 u193 u194 u195 u196 u197 u198 u199 u200 u201 u202 u203 u204 u205 u206 u207 u208 u209 u210 u211 u212 u213 u214 u215 u216 u217 u218 u219 u220 u221 u222 u223 u224 u225 u226 u227 u228 u229 u230 u231 u232 u233 u234 u235 u236 u237 u238 u239 u240 u241 u242 u243 u244 u245 u246 u247 u248 u249 u250 u251 u252 u253 u254 u255 u256 u257 u258 u259 u260 u261 u262 u263 u264 u265 u266 u267 u268 u269 u270 u271 u272 u273 u274 u275 u276 u277 u278 u279 u280 u281 u282 u283 u284 u285 u286 u287 u288 u289 u290 u291 u292 u293 u294 u295 u296 u297 u298 u299 u300 u301 u302 u303 u304 u305 u306 u307 u308 u309 u310 u311 u312 u313 u314 u315 u316 u317 u318 u319 u320 u321 u322 u323 u324 : Value} {Qx : Exit → Act → World → Prop} {H : Hd} {s : Sta} (sp : Sp) (sb bo bx m c9 : Nat) (a9 : Option Addr) (O : List Tok) (R : Ans) (w : World) (hT : Tri w H s) (hF : Fit H.toPar s) (hok : sp.ok) (hO : O = ofL H.mo s.X s.l sp.ob) (hm : m = O.length) (hmo : H.mo ≤ 1024) (hR : R = stepA H.toPar s sp) (hZ : Zc w bx) (hA : ∀ k, H.All k → k < bx) (hSt : ∀ U, But (fun k => H.Wr k ∨ k = bx) w U → (U.cell? ⟨sb, 0, none⟩ = some (.pointer (some ⟨H.g, 0, none⟩)) ∧ U.cell? ⟨sb, 1, none⟩ = some (.pointer (some ⟨H.A.g, 0, none⟩)) ∧ U.cell? ⟨sb, 2, none⟩ = some (.pointer (some ⟨H.qg, 0, none⟩)) ∧ Bo U bo sp) ∧ Rt U a9 m O) (hC : ¬ (sp.kd = 0 ∨ m = 0))
    (hK : ∀ (w' : World), Sw w H bx R w' → ∀ (v85 v86 v87 v88 v89 v90 v91 v92 v93 v94 v95 v96 v97 v98 v99 v100 v101 v102 v103 v104 v105 v106 v107 v108 v109 v110 v111 : Value), Qx .normal ⟨List.toArray (u0 :: u1 :: u2 :: u3 :: u4 :: .pointer (some ⟨sb, 0, none⟩) :: u6 :: u7 :: .pointer (some ⟨bo, 0, none⟩) :: .slice a9 m c9 :: u10 :: u11 :: .pointer (some ⟨bx, 0, none⟩) :: .int .i64 R.code :: u14 :: u15 :: u16 :: u17 :: u18 :: u19 :: u20 :: u21 :: u22 :: u23 :: u24 :: u25 :: u26 :: u27 :: u28 :: u29 :: u30 :: u31 :: u32 :: u33 :: u34 :: u35 :: u36 :: u37 :: u38 :: u39 :: u40 :: u41 :: u42 :: u43 :: u44 :: u45 :: u46 :: u47 :: u48 :: u49 :: u50 :: u51 :: u52 :: u53 :: u54 :: u55 :: u56 :: u57 :: u58 :: u59 :: u60 :: u61 :: u62 :: u63 :: u64 :: u65 :: u66 :: u67 :: u68 :: u69 :: u70 :: u71 :: u72 :: u73 :: u74 :: u75 :: u76 :: u77 :: u78 :: u79 :: u80 :: u81 :: u82 :: u83 :: u84 :: v85 :: v86 :: v87 :: v88 :: v89 :: v90 :: v91 :: v92 :: v93 :: v94 :: v95 :: v96 :: v97 :: v98 :: v99 :: v100 :: v101 :: v102 :: v103 :: v104 :: v105 :: v106 :: v107 :: v108 :: v109 :: v110 :: v111 :: u112 :: u113 :: u114 :: u115 :: u116 :: u117 :: u118 :: u119 :: u120 :: u121 :: u122 :: u123 :: u124 :: u125 :: u126 :: u127 :: u128 :: u129 :: u130 :: u131 :: u132 :: u133 :: u134 :: u135 :: u136 :: u137 :: u138 :: u139 :: u140 :: u141 :: u142 :: u143 :: u144 :: u145 :: u146 :: u147 :: u148 :: u149 :: u150 :: u151 :: u152 :: u153 :: u154 :: u155 :: u156 :: u157 :: u158 :: u159 :: u160 :: u161 :: u162 :: u163 :: u164 :: u165 :: u166 :: u167 :: u168 :: u169 :: u170 :: u171 :: u172 :: u173 :: u174 :: u175 :: u176 :: u177 :: u178 :: u179 :: u180 :: u181 :: u182 :: u183 :: u184 :: u185 :: u186 :: u187 :: u188 :: u189 :: u190 :: u191 :: u192 :: u193 :: u194 :: u195 :: u196 :: u197 :: u198 :: u199 :: u200 :: u201 :: u202 :: u203 :: u204 :: u205 :: u206 :: u207 :: u208 :: u209 :: u210 :: u211 :: u212 :: u213 :: u214 :: u215 :: u216 :: u217 :: u218 :: u219 :: u220 :: u221 :: u222 :: u223 :: u224 :: u225 :: u226 :: u227 :: u228 :: u229 :: u230 :: u231 :: u232 :: u233 :: u234 :: u235 :: u236 :: u237 :: u238 :: u239 :: u240 :: u241 :: u242 :: u243 :: u244 :: u245 :: u246 :: u247 :: u248 :: u249 :: u250 :: u251 :: u252 :: u253 :: u254 :: u255 :: u256 :: u257 :: u258 :: u259 :: u260 :: u261 :: u262 :: u263 :: u264 :: u265 :: u266 :: u267 :: u268 :: u269 :: u270 :: u271 :: u272 :: u273 :: u274 :: u275 :: u276 :: u277 :: u278 :: u279 :: u280 :: u281 :: u282 :: u283 :: u284 :: u285 :: u286 :: u287 :: u288 :: u289 :: u290 :: u291 :: u292 :: u293 :: u294 :: u295 :: u296 :: u297 :: u298 :: u299 :: u300 :: u301 :: u302 :: u303 :: u304 :: u305 :: u306 :: u307 :: u308 :: u309 :: u310 :: u311 :: u312 :: u313 :: u314 :: u315 :: u316 :: u317 :: u318 :: u319 :: u320 :: u321 :: u322 :: u323 :: u324 :: []), []⟩ w') :
    Code.wp Tryz.prog (pE (pR (c4 Tryz.f4.body 5))) Qx ⟨List.toArray (u0 :: u1 :: u2 :: u3 :: u4 :: .pointer (some ⟨sb, 0, none⟩) :: u6 :: u7 :: .pointer (some ⟨bo, 0, none⟩) :: .slice a9 m c9 :: u10 :: u11 :: .pointer (some ⟨bx, 0, none⟩) :: u13 :: u14 :: u15 :: u16 :: u17 :: u18 :: u19 :: u20 :: u21 :: u22 :: u23 :: u24 :: u25 :: u26 :: u27 :: u28 :: u29 :: u30 :: u31 :: u32 :: u33 :: u34 :: u35 :: u36 :: u37 :: u38 :: u39 :: u40 :: u41 :: u42 :: u43 :: u44 :: u45 :: u46 :: u47 :: u48 :: u49 :: u50 :: u51 :: u52 :: u53 :: u54 :: u55 :: u56 :: u57 :: u58 :: u59 :: u60 :: u61 :: u62 :: u63 :: u64 :: u65 :: u66 :: u67 :: u68 :: u69 :: u70 :: u71 :: u72 :: u73 :: u74 :: u75 :: u76 :: u77 :: u78 :: u79 :: u80 :: u81 :: u82 :: u83 :: u84 :: u85 :: u86 :: u87 :: u88 :: u89 :: u90 :: u91 :: u92 :: u93 :: u94 :: u95 :: u96 :: u97 :: u98 :: u99 :: u100 :: u101 :: u102 :: u103 :: u104 :: u105 :: u106 :: u107 :: u108 :: u109 :: u110 :: u111 :: u112 :: u113 :: u114 :: u115 :: u116 :: u117 :: u118 :: u119 :: u120 :: u121 :: u122 :: u123 :: u124 :: u125 :: u126 :: u127 :: u128 :: u129 :: u130 :: u131 :: u132 :: u133 :: u134 :: u135 :: u136 :: u137 :: u138 :: u139 :: u140 :: u141 :: u142 :: u143 :: u144 :: u145 :: u146 :: u147 :: u148 :: u149 :: u150 :: u151 :: u152 :: u153 :: u154 :: u155 :: u156 :: u157 :: u158 :: u159 :: u160 :: u161 :: u162 :: u163 :: u164 :: u165 :: u166 :: u167 :: u168 :: u169 :: u170 :: u171 :: u172 :: u173 :: u174 :: u175 :: u176 :: u177 :: u178 :: u179 :: u180 :: u181 :: u182 :: u183 :: u184 :: u185 :: u186 :: u187 :: u188 :: u189 :: u190 :: u191 :: u192 :: u193 :: u194 :: u195 :: u196 :: u197 :: u198 :: u199 :: u200 :: u201 :: u202 :: u203 :: u204 :: u205 :: u206 :: u207 :: u208 :: u209 :: u210 :: u211 :: u212 :: u213 :: u214 :: u215 :: u216 :: u217 :: u218 :: u219 :: u220 :: u221 :: u222 :: u223 :: u224 :: u225 :: u226 :: u227 :: u228 :: u229 :: u230 :: u231 :: u232 :: u233 :: u234 :: u235 :: u236 :: u237 :: u238 :: u239 :: u240 :: u241 :: u242 :: u243 :: u244 :: u245 :: u246 :: u247 :: u248 :: u249 :: u250 :: u251 :: u252 :: u253 :: u254 :: u255 :: u256 :: u257 :: u258 :: u259 :: u260 :: u261 :: u262 :: u263 :: u264 :: u265 :: u266 :: u267 :: u268 :: u269 :: u270 :: u271 :: u272 :: u273 :: u274 :: u275 :: u276 :: u277 :: u278 :: u279 :: u280 :: u281 :: u282 :: u283 :: u284 :: u285 :: u286 :: u287 :: u288 :: u289 :: u290 :: u291 :: u292 :: u293 :: u294 :: u295 :: u296 :: u297 :: u298 :: u299 :: u300 :: u301 :: u302 :: u303 :: u304 :: u305 :: u306 :: u307 :: u308 :: u309 :: u310 :: u311 :: u312 :: u313 :: u314 :: u315 :: u316 :: u317 :: u318 :: u319 :: u320 :: u321 :: u322 :: u323 :: u324 :: []), []⟩ w := by
  conv => arg 2; whnf
  obtain ⟨ta, hta, hob, hst, hha⟩ := step_pick hF (p := sp) (fun e => by
    rw [show ofL H.toPar.mo s.X s.l sp.ob = O from hO.symm, ← hm] at e
    exact hC e)
  rw [show ofL H.toPar.mo s.X s.l sp.ob = O from hO.symm, ← hm] at hta
  have hpos : 0 < m := by omega
  have hjl := intoN_lt sp.at_ hpos
  have HMo := hid (fun U => mod_len sp.at_ m U hpos (by rw [hm, hO]; have := len_le hF sp.ob; change (ofL H.toPar.mo s.X s.l sp.ob).length ≤ 1024; change _ ≤ H.mo at this; omega))
  obtain ⟨j, hj⟩ : ∃ j, j = intoN sp.at_ m := ⟨_, rfl⟩
  rw [← hj] at hta hjl HMo
  have hwid : ta.1.2.1 < B64 ∧ ta.1.2.2 < B64 := by
    obtain ⟨n9, hn9, e9⟩ := hasC_iff.1 hha
    rw [← e9]
    exact hF.inv.wide n9 hn9
  have HR17 : Hid (∀ U, Below w.heap.size w U → Calls Tryz.prog 11 #[.pointer (some ⟨H.g, 0, none⟩), .pointer (some ⟨H.A.g, 0, none⟩), .pointer (some ⟨H.qg, 0, none⟩), .agg #[.int .i64 ta.1.1, .int .u64 (ta.1.2.1 : Int), .int .u64 (ta.1.2.2 : Int)], .int .i64 sp.r] U fun e w' => e = .returned (.tuple #[.agg #[.int .i64 R.c.1, .int .u64 (R.c.2.1 : Int), .int .u64 (R.c.2.2 : Int)], .int .i64 R.code]) ∧ Tri w' H R.s ∧ But H.Wr U w') := fun U hU => by
    have := dchild_any (hT.later hU) hF ta.1 sp.r (by rw [hob]; exact hok.1.1) hwid
    rw [← hst, ← hR] at this
    exact this
  obtain ⟨tb, tu, rfl, hcells⟩ := (hSt w (But.refl _ _)).2.at_ hpos
  have HS17 : Hid (∀ U, But (fun k => H.Wr k ∨ k = bx) w U → (U.cell? ⟨sb, 0, none⟩ = some (.pointer (some ⟨H.g, 0, none⟩)) ∧ U.cell? ⟨sb, 1, none⟩ = some (.pointer (some ⟨H.A.g, 0, none⟩)) ∧ U.cell? ⟨sb, 2, none⟩ = some (.pointer (some ⟨H.qg, 0, none⟩)) ∧ U.cell? ⟨bo, 2, none⟩ = some (.int .i64 sp.at_) ∧ U.cell? ⟨bo, 3, none⟩ = some (.int .i64 sp.r) ∧ U.cell? ⟨tb, tu + j * 5, none⟩ = some (.int .i64 ta.1.1) ∧ U.cell? ⟨tb, tu + j * 5 + 1, none⟩ = some (.int .u64 (ta.1.2.1 : Int)) ∧ U.cell? ⟨tb, tu + j * 5 + 2, none⟩ = some (.int .u64 (ta.1.2.2 : Int))) ∧ But (fun k => H.Wr k ∨ k = bx) w U) := fun U hU => by
    obtain ⟨⟨q0, q1, q2, hb⟩, hrt⟩ := hSt U hU
    obtain ⟨tb2, to2, e2, hc2⟩ := hrt.at_ hpos
    cases e2
    obtain ⟨k0, k1, k2, _, _⟩ := hc2 j ta hta
    exact ⟨⟨q0, q1, q2, hb.c2, hb.c3, k0, k1, k2⟩, hU⟩
  have hjm : (j : Int) < (m : Int) := by omega
  have HK := hid hK
  have HZ4 := hid hZ
  have HAll := hid hA
  clear hcells hta hob hst hha hj hwid hC hK hT hF hok hO hm hmo hR hZ hA hSt
  go_region_held3 (fun U => (U.cell? ⟨sb, 0, none⟩ = some (.pointer (some ⟨H.g, 0, none⟩)) ∧ U.cell? ⟨sb, 1, none⟩ = some (.pointer (some ⟨H.A.g, 0, none⟩)) ∧ U.cell? ⟨sb, 2, none⟩ = some (.pointer (some ⟨H.qg, 0, none⟩)) ∧ U.cell? ⟨bo, 2, none⟩ = some (.int .i64 sp.at_) ∧ U.cell? ⟨bo, 3, none⟩ = some (.int .i64 sp.r) ∧ U.cell? ⟨tb, tu + j * 5, none⟩ = some (.int .i64 ta.1.1) ∧ U.cell? ⟨tb, tu + j * 5 + 1, none⟩ = some (.int .u64 (ta.1.2.1 : Int)) ∧ U.cell? ⟨tb, tu + j * 5 + 2, none⟩ = some (.int .u64 (ta.1.2.2 : Int))) ∧ But (fun k => H.Wr k ∨ k = bx) w U) (first | exact HS17.out _ (HBt.out.mono (fun k hk => .inl hk)) | exact HS17.out _ (But.of hbm.out) | exact HS17.out _ (But.of (Below.refl _ _).drew) | exact HS17.out _ ((((HBt.out.mono (fun k hk => .inl hk)).setCell (p := ⟨bx, 0, none⟩) (.inr rfl) _).setCell (p := ⟨bx, 1, none⟩) (.inr rfl) _).setCell (p := ⟨bx, 2, none⟩) (.inr rfl) _)) (first
    | (have hq_ := hbm; clear hq_; go_at_call 11; refine (HR17.out _ hbm.out).mono ?_; rintro e u_ ⟨rfl, ht, hb⟩; have HTt := hid ht; have HBt := hid ((But.of (S := H.Wr) hbm.out).trans hb); have hzc := (HZ4.out.but (S := fun _ => False) (But.of hbm.out) (fun h => h)).but hb (fun e => by have := HAll.out _ (Hd.wr_all e); omega); have HZc := hid hzc; obtain ⟨⟨z0, f0⟩, ⟨z1, f1⟩, ⟨z2, f2⟩⟩ := hzc; clear ht hb)
    | (go_at_call 8; refine (HMo.out _).mono ?_; rintro e v_ ⟨rfl, hb⟩; have hbm := hid (below_call (Below.refl w.heap.size w).drew hb); clear hb))
  exact HK.out _ (Sw.mk_ HTt.out HZc.out HBt.out HAll.out) ..
end Go.Proofs.YtgihdchgdejkhaaGreatDoor.D
