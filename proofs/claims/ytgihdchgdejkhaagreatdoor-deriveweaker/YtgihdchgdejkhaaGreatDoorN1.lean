import Derived.Test.YtgihdchgdejkhaaGreatDoorJA
import Derived.Test.YtgihdchgdejkhaaGreatDoorMJ
import Derived.Test.YtgihdchgdejkhaaGreatDoorMH
import Derived.Test.YtgihdchgdejkhaaGreatDoorMQ
namespace Go.Proofs.YtgihdchgdejkhaaGreatDoor.D
open Go.RowKit
open Go.Proofs.YtgihdchgdejkhaaGreatDoor.H (B64 Cp)
set_option linter.unusedVariables false

/-! ### What the three hold together, as plain lists -/
/-- What stands in catalogue, quota and draws. -/
structure Sta where
  X : List Tk
  l : Fo
  L : List Int
  t : Nat
/-- Their bounds, and the words. -/
structure Par where
  mo : Nat
  e : Int
  a : Int
  n : Nat
  c : Nat → Nat
/-- They fit. -/
structure Fit (P : Par) (s : Sta) : Prop where
  inv : Inv P.mo s.X s.l
  cnt : ∀ o, s.L.count o = inN s.X s.l o
  len : s.L.length = s.l.length
  top : P.a ≤ (P.mo : Int)
  le : s.t ≤ P.n
  cs : ∀ i, i < P.n → P.c i < B64 * B64
theorem inN_add {m : Nat} {X : List Tk} {l : Fo} (h : Inv m X l) {k : Nat} (p : Int) (c : Cp) (r : Int) (hk : k < m) (hn : (k : Int) ∉ nums l) (o : Int) :
    inN (X.set k (c, r)) (l ++ [((k : Int), p)]) o = inN X l o + if c.1 = o then 1 else 0 := by
  unfold inN
  rw [nums_app, List.filter_append, List.length_append]
  congr 1
  · congr 1
    refine List.filter_congr (fun x hx => ?_)
    unfold ob
    rw [tk_set_other _ (nums_nn h.ok hx) (fun e => hn (e ▸ hx))]
  · have hs : ob (X.set k (c, r)) (k : Int) = c.1 := by unfold ob; rw [tk_set_same _ (by rw [h.len]; exact hk)]
    by_cases e : c.1 = o
    · rw [if_pos e, List.filter_cons_of_pos (by simp [hs, e])]; rfl
    · rw [if_neg e, List.filter_cons_of_neg (by simp [hs, e])]; rfl
theorem hasO_inN {X : List Tk} {l : Fo} {o : Int} : hasO X l o = true ↔ 0 < inN X l o := by
  rw [hasO_iff]
  unfold inN
  rw [List.length_pos_iff_exists_mem]
  constructor
  · rintro ⟨n, hn, e⟩; exact ⟨n, List.mem_filter.2 ⟨hn, decide_eq_true e⟩⟩
  · rintro ⟨n, hn⟩; exact ⟨n, (List.mem_filter.1 hn).1, of_decide_eq_true (List.mem_filter.1 hn).2⟩
theorem Fit.room {P : Par} {s : Sta} (h : Fit P s) {o : Int} (hm : Q.may P.e P.a s.L o = 0) : s.l.length < P.mo := by
  have := (Q.may_zero hm).2
  have := h.len
  have := h.top
  omega

/-- A capability with a word. -/
def cap (o : Int) (N : Nat) : Cp := (o, N / B64, N % B64)
/-- What a call answers, and what stands behind it. -/
structure Ans where
  c : Cp
  code : Int
  s : Sta
def no (s : Sta) (c : Int) : Ans := ⟨(0, 0, 0), c, s⟩
def addS (s : Sta) (o : Int) (N : Nat) (p r : Int) (t : Nat) : Sta := ⟨s.X.set (low s.l) (cap o N, r), s.l ++ [((low s.l : Int), p)], s.L ++ [o], t⟩
def tokR (P : Par) (s : Sta) (o : Int) (D : Nat × Int × Nat) (p r : Int) : Ans :=
  if Q.may P.e P.a s.L o ≠ 0 then no s (Q.may P.e P.a s.L o) else if D.2.1 ≠ 0 then no { s with t := D.2.2 } D.2.1 else ⟨cap o D.1, 0, addS s o D.1 p r D.2.2⟩
def drawD (P : Par) (t : Nat) : Nat × Int × Nat := if t < P.n then (P.c t, 0, t + 1) else (0, 11, t)
def childD (P : Par) (s : Sta) (o : Int) : Nat × Int × Nat := drawR (ofP s.X s.l o) P.c P.n 9 s.t
def rootA (P : Par) (s : Sta) (o : Int) : Ans := if 0 < inN s.X s.l o then no s 19 else tokR P s o (drawD P s.t) (-1) 31
def rgt (s : Sta) (c : Cp) : Int := rg s.X (findN s.X s.l c)
def childA (P : Par) (s : Sta) (c : Cp) (r : Int) : Ans :=
  if hasC s.X s.l c = false then no s 3 else if partB 4 (rgt s c) = false ∨ partB r (rgt s c) = false then no s 4 else tokR P s c.1 (childD P s c.1) (findN s.X s.l c) r

/-- A token may be put in. -/
structure May (P : Par) (s : Sta) (c : Cp) (p r : Int) : Prop where
  new : hasC s.X s.l c = false
  wide : c.2.1 < B64 ∧ c.2.2 < B64
  val : validB r = true
  at_ : (p = -1 ∧ hasO s.X s.l c.1 = false) ∨ (p ∈ nums s.l ∧ ob s.X p = c.1 ∧ partB r (rg s.X p) = true)
theorem addR_ok {P : Par} {s : Sta} (h : Fit P s) {o : Int} {N : Nat} {p r : Int} (hm : Q.may P.e P.a s.L o = 0) (hc : hasC s.X s.l (cap o N) = false) :
    addR P.mo s.X s.l p (cap o N) r = ⟨(low s.l : Int), 0, s.X.set (low s.l) (cap o N, r), s.l ++ [((low s.l : Int), p)]⟩ := by
  have := h.room hm
  unfold addR
  rw [if_neg (by rw [hc]; decide), if_neg (by omega)]
theorem rootR_ok {P : Par} {s : Sta} (h : Fit P s) {o : Int} {N : Nat} (hm : Q.may P.e P.a s.L o = 0) (ho : ¬ 0 < inN s.X s.l o) :
    rootR P.mo s.X s.l (cap o N) 31 = ⟨(low s.l : Int), 0, s.X.set (low s.l) (cap o N, 31), s.l ++ [((low s.l : Int), -1)]⟩ := by
  have hO : ¬ hasO s.X s.l o = true := fun e => ho (hasO_inN.1 e)
  have hC : hasC s.X s.l (cap o N) = false := by
    cases hc : hasC s.X s.l (cap o N) with
    | false => rfl
    | true => exact absurd (hasO_of_hasC hc) hO
  unfold rootR
  rw [if_neg (by decide), if_neg (show ¬ hasO s.X s.l (cap o N).1 = true from hO)]
  exact addR_ok h hm hC
theorem childR_ok {P : Par} {s : Sta} (h : Fit P s) {o : Int} {N : Nat} {p r : Int} (hm : Q.may P.e P.a s.L o = 0) (hc : hasC s.X s.l (cap o N) = false) (hp : p ∈ nums s.l) (ho : ob s.X p = o) (hr : partB r (rg s.X p) = true) :
    childR P.mo s.X s.l p (cap o N) r = ⟨(low s.l : Int), 0, s.X.set (low s.l) (cap o N, r), s.l ++ [((low s.l : Int), p)]⟩ := by
  unfold childR
  rw [if_neg (by simp [hp]), if_neg (by simp [ho, cap]), if_neg (by rw [hr]; decide)]
  exact addR_ok h hm hc
theorem Fit.add {P : Par} {s : Sta} (h : Fit P s) {o : Int} {N : Nat} {p r : Int} {t : Nat} (hm : Q.may P.e P.a s.L o = 0) (hy : May P s (cap o N) p r) (ht : t ≤ P.n) : Fit P (addS s o N p r t) := by
  have hr := h.room hm
  have hlo := low_lt h.inv.ok hr
  refine ⟨h.inv.add hlo (low_not s.l) hy.new hy.wide hy.val hy.at_, fun x => ?_, by simp [addS, h.len], h.top, ht, h.cs⟩
  show (s.L ++ [o]).count x = inN (s.X.set (low s.l) (cap o N, r)) (s.l ++ [((low s.l : Int), p)]) x
  rw [inN_add h.inv p (cap o N) r hlo (low_not s.l) x, List.count_append, h.cnt x]
  congr 1
  rw [List.count_singleton]
  by_cases e : o = x
  · simp [cap, e]
  · simp [cap, e]
theorem Fit.took {P : Par} {s : Sta} (h : Fit P s) {t : Nat} (ht : t ≤ P.n) : Fit P { s with t := t } := ⟨h.inv, h.cnt, h.len, h.top, ht, h.cs⟩
theorem Fit.tok {P : Par} {s : Sta} (h : Fit P s) {o : Int} {D : Nat × Int × Nat} {p r : Int} (ht : D.2.2 ≤ P.n) (hy : Q.may P.e P.a s.L o = 0 → D.2.1 = 0 → May P s (cap o D.1) p r) : Fit P (tokR P s o D p r).s := by
  unfold tokR
  by_cases hm : Q.may P.e P.a s.L o = 0
  · rw [if_neg (by simp [hm])]
    by_cases hd : D.2.1 = 0
    · rw [if_neg (by simp [hd])]
      exact h.add hm (hy hm hd) ht
    · rw [if_pos hd]
      exact h.took ht
  · rw [if_pos hm]
    exact h
theorem drawD_le {P : Par} {t : Nat} (h : t ≤ P.n) : (drawD P t).2.2 ≤ P.n := by unfold drawD; split <;> simp <;> omega
theorem drawD_small {P : Par} {s : Sta} (h : Fit P s) (t : Nat) : (drawD P t).1 < B64 * B64 := by
  unfold drawD
  split
  · next ht => exact h.cs t ht
  · show (0 : Nat) < B64 * B64; decide
theorem rootMay {P : Par} {s : Sta} (h : Fit P s) {o : Int} (ho : ¬ 0 < inN s.X s.l o) {N : Nat} (hN : N < B64 * B64) : May P s (cap o N) (-1) 31 := by
  have hO : hasO s.X s.l o = false := by
    cases hc : hasO s.X s.l o with
    | false => rfl
    | true => exact absurd (hasO_inN.1 hc) ho
  refine ⟨?_, half_lt hN, by decide, .inl ⟨rfl, hO⟩⟩
  cases hc : hasC s.X s.l (cap o N) with
  | false => rfl
  | true => exact absurd (hasO_of_hasC hc) (by show ¬ hasO s.X s.l o = true; rw [hO]; decide)
theorem Fit.root {P : Par} {s : Sta} (h : Fit P s) (o : Int) : Fit P (rootA P s o).s := by
  unfold rootA
  by_cases ho : 0 < inN s.X s.l o
  · rw [if_pos ho]; exact h
  · rw [if_neg ho]
    exact h.tok (drawD_le h.le) (fun _ _ => rootMay h ho (drawD_small h s.t))
theorem childD_spec {P : Par} {s : Sta} (h : Fit P s) (o : Int) : Spec (ofP s.X s.l o) P.c P.n 9 s.t (childD P s o) := drawR_spec h.le
theorem childD_new {P : Par} {s : Sta} (h : Fit P s) {o : Int} (hd : (childD P s o).2.1 = 0) : hasC s.X s.l (cap o (childD P s o).1) = false := by
  obtain ⟨q, h1, h2, h3, hc⟩ := childD_spec h o
  rcases hc with ⟨e1, e2, e3, e4, e5⟩ | ⟨e1, _⟩ | ⟨e1, _⟩
  · exact e4
  · rw [hd] at e1; cases e1
  · rw [hd] at e1; cases e1
theorem found {m : Nat} {X : List Tk} {l : Fo} (h : Inv m X l) {c : Cp} (hc : hasC X l c = true) : findN X l c ∈ nums l ∧ (tk X (findN X l c)).1 = c := by
  obtain ⟨n, hn, rfl⟩ := hasC_iff.1 hc
  rw [findN_in h hn]
  exact ⟨hn, rfl⟩
theorem childMay {P : Par} {s : Sta} (h : Fit P s) {c : Cp} {r : Int} (hc : hasC s.X s.l c = true) (hp : partB r (rgt s c) = true) (hd : (childD P s c.1).2.1 = 0) : May P s (cap c.1 (childD P s c.1).1) (findN s.X s.l c) r := by
  obtain ⟨h1, h2⟩ := found h.inv hc
  exact ⟨childD_new h hd, half_lt (drawR_small h.cs), partB_valid hp, .inr ⟨h1, by unfold ob; rw [h2]; rfl, hp⟩⟩
theorem Fit.child {P : Par} {s : Sta} (h : Fit P s) (c : Cp) (r : Int) : Fit P (childA P s c r).s := by
  unfold childA
  by_cases hc : hasC s.X s.l c = true
  · rw [if_neg (by rw [hc]; decide)]
    by_cases hp : partB 4 (rgt s c) = false ∨ partB r (rgt s c) = false
    · rw [if_pos hp]; exact h
    · rw [if_neg hp]
      have hp2 : partB r (rgt s c) = true := by
        cases hq : partB r (rgt s c) with
        | true => rfl
        | false => exact absurd (.inr hq) hp
      exact h.tok (drawR_le h.le) (fun _ hd => childMay h hc hp2 hd)
  · rw [if_pos (by simpa using hc)]; exact h
theorem Fit.start (P : Par) (hc : ∀ i, i < P.n → P.c i < B64 * B64) (ht : P.a ≤ (P.mo : Int)) : Fit P ⟨List.replicate P.mo tz, [], [], 0⟩ := ⟨Inv.init _, fun o => rfl, rfl, ht, Nat.zero_le _, hc⟩
end Go.Proofs.YtgihdchgdejkhaaGreatDoor.D
