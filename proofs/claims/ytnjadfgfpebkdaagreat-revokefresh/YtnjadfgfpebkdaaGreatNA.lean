import Derived.Test.YtnjadfgfpebkdaaGreatMH
import Derived.Test.YtnjadfgfpebkdaaGreatMQ
import Derived.Test.YtnjadfgfpebkdaaGreatSJ
import Derived.Test.YtnjadfgfpebkdaaGreatMY
import Derived.Test.YtnjadfgfpebkdaaGreatMS
import Derived.Test.YtnjadfgfpebkdaaGreatMT
import Derived.Test.YtnjadfgfpebkdaaGreatRI
import Derived.Test.YtnjadfgfpebkdaaGreatMX
namespace Go.Proofs.YtnjadfgfpebkdaaGreat.D
open Go.RowKit
open Go.Proofs.YtnjadfgfpebkdaaGreat.H (B64 Cp)
set_option linter.unusedVariables false

/-! ### What the three hold together, as plain lists -/
/-- Catalogue, quota, store. -/
structure Sta where
  X : List Tk
  l : Fo
  L : List Int
  nx : Int
  V : List (Int × List Nat)
/-- They fit. -/
structure Fit (mo : Nat) (s : Sta) : Prop where
  inv : Inv mo s.X s.l
  cnt : ∀ o, s.L.count o = inN s.X s.l o
  len : s.L.length = s.l.length
  obj : ∀ o, (∃ p ∈ s.V, p.1 = o) ↔ hasO s.X s.l o = true
  ids : ∀ p ∈ s.V, 1 ≤ p.1 ∧ p.1 < s.nx
theorem inN_add {m : Nat} {X : List Tk} {l : Fo} (h : Inv m X l) {k : Nat} (p : Int) (c : Cp) (r : Int) (hk : k < m) (hn : (k : Int) ∉ nums l) (o : Int) :
    inN (X.set k (c, r)) (l ++ [((k : Int), p)]) o = inN X l o + if c.1 = o then 1 else 0 := by
  unfold inN
  rw [nums_app, List.filter_append, List.length_append]
  congr 1
  · congr 1
    refine List.filter_congr (fun x hx => ?_)
    unfold ob
    rw [tk_set_other _ (nums_nn h.ok hx) (fun e => hn (e ▸ hx))]
  · have hs : ob (X.set k (c, r)) (k : Int) = c.1 := by unfold ob; rw [tk_set_same _ (by rw [h.len]; exact hk)]
    by_cases e : c.1 = o
    · rw [if_pos e, List.filter_cons_of_pos (by simp [hs, e])]; rfl
    · rw [if_neg e, List.filter_cons_of_neg (by simp [hs, e])]; rfl
theorem hasO_inN {X : List Tk} {l : Fo} {o : Int} : hasO X l o = true ↔ 0 < inN X l o := by
  rw [hasO_iff]
  unfold inN
  rw [List.length_pos_iff_exists_mem]
  constructor
  · rintro ⟨n, hn, e⟩; exact ⟨n, List.mem_filter.2 ⟨hn, decide_eq_true e⟩⟩
  · rintro ⟨n, hn⟩; exact ⟨n, (List.mem_filter.1 hn).1, of_decide_eq_true (List.mem_filter.1 hn).2⟩

/-! ### What Drop leaves -/
theorem nd_app {A B : List Int} (hA : A.Nodup) (hB : B.Nodup) (h : ∀ x ∈ A, x ∉ B) : (A ++ B).Nodup := List.nodup_append.2 ⟨hA, hB, fun a ha b hb e => h a ha (e ▸ hb)⟩
theorem nums_cuts_nd {m : Nat} {l : Fo} (h : Ok m l) (A : List Int) : (nums (cuts l A)).Nodup := by
  have h1 : (nums (cuts l A)).Sublist (nums l) := by
    unfold nums cuts
    exact List.Sublist.map _ List.filter_sublist
  exact h1.nodup h.nodup
theorem G_obj {m : Nat} {X : List Tk} {l : Fo} (h : Inv m X l) {n k : Int} (hk : k ∈ G true l n) : ob X k = ob X n := by
  have h1 := (mem_G_iff h.ok).1 hk
  exact (h.same k (U_mem h1) n h1).symm
theorem inN_drop {m : Nat} {X : List Tk} {l : Fo} (h : Inv m X l) (n o : Int) : inN (zer X (G true l n)) (cuts l (G true l n)) o + (if ob X n = o then (G true l n).length else 0) = inN X l o := by
  have hob : ∀ k ∈ nums (cuts l (G true l n)), ob (zer X (G true l n)) k = ob X k := fun k hk => by
    unfold ob
    rw [zer_tk _ _ _ (nums_nn h.ok (nums_cuts.1 hk).1) (fun a ha => nums_nn h.ok (G_nums h.ok ha)) (nums_cuts.1 hk).2]
  have hmem : ∀ k, k ∈ (nums (cuts l (G true l n))).filter (fun k => decide (ob (zer X (G true l n)) k = o)) ↔ k ∈ nums l ∧ k ∉ G true l n ∧ ob X k = o := fun k => by
    rw [List.mem_filter, decide_eq_true_eq]
    constructor
    · rintro ⟨h1, h2⟩
      rw [hob k h1] at h2
      exact ⟨(nums_cuts.1 h1).1, (nums_cuts.1 h1).2, h2⟩
    · rintro ⟨h1, h2, h3⟩
      have h4 := nums_cuts.2 ⟨h1, h2⟩
      exact ⟨h4, by rw [hob k h4]; exact h3⟩
  have hnd : ((nums (cuts l (G true l n))).filter (fun k => decide (ob (zer X (G true l n)) k = o))).Nodup := List.Nodup.sublist List.filter_sublist (nums_cuts_nd h.ok _)
  have hnd2 : ((nums l).filter (fun k => decide (ob X k = o))).Nodup := List.Nodup.sublist List.filter_sublist h.ok.nodup
  unfold inN
  by_cases e : ob X n = o
  · rw [if_pos e, ← List.length_append]
    refine same_len (nd_app hnd (G_nodup h.ok true n) (fun x hx => ((hmem x).1 hx).2.1)) hnd2 (fun x => ?_)
    rw [List.mem_append, hmem, List.mem_filter, decide_eq_true_eq]
    constructor
    · rintro (⟨h1, _, h3⟩ | h1)
      · exact ⟨h1, h3⟩
      · exact ⟨G_nums h.ok h1, by rw [G_obj h h1]; exact e⟩
    · rintro ⟨h1, h2⟩
      by_cases hg : x ∈ G true l n
      · exact .inr hg
      · exact .inl ⟨h1, hg, h2⟩
  · rw [if_neg e, Nat.add_zero]
    refine same_len hnd hnd2 (fun x => ?_)
    rw [hmem, List.mem_filter, decide_eq_true_eq]
    constructor
    · rintro ⟨h1, _, h3⟩
      exact ⟨h1, h3⟩
    · rintro ⟨h1, h2⟩
      exact ⟨h1, fun hg => e (by rw [← G_obj h hg]; exact h2), h2⟩
theorem cuts_len {m : Nat} {X : List Tk} {l : Fo} (h : Inv m X l) (n : Int) : (cuts l (G true l n)).length + (G true l n).length = l.length := by
  rw [← nums_len, ← nums_len l, ← List.length_append]
  refine same_len (nd_app (nums_cuts_nd h.ok _) (G_nodup h.ok true n) (fun x hx => (nums_cuts.1 hx).2)) h.ok.nodup (fun x => ?_)
  rw [List.mem_append, nums_cuts]
  constructor
  · rintro (⟨h1, _⟩ | h1)
    · exact h1
    · exact G_nums h.ok h1
  · intro h1
    by_cases hg : x ∈ G true l n
    · exact .inr hg
    · exact .inl ⟨h1, hg⟩

/-! ### Token and Object -/
def noV (V : List (Int × List Nat)) (o : Int) : List (Int × List Nat) := V.filter (fun p => decide (p.1 ≠ o))
theorem mem_noV {V : List (Int × List Nat)} {o : Int} {p : Int × List Nat} : p ∈ noV V o ↔ p ∈ V ∧ p.1 ≠ o := by unfold noV; simp
/-- A subtree gone, and with a root the object. -/
def felled (s : Sta) (m o : Int) : Sta := ⟨zer s.X (G true s.l m), cuts s.l (G true s.l m), Q.subS s.L o ((G true s.l m).length : Int), s.nx, if par s.l m = -1 then noV s.V o else s.V⟩
def topOf (X : List Tk) (l : Fo) (o : Int) : Int := (rootOf X l o).getD 0
/-- What a call answers, and what stands behind it. -/
structure Ans where
  K : List Cp
  code : Int
  s : Sta
/-- Which goes. -/
def whom (all : Bool) (s : Sta) (c : Cp) : Int := if all then topOf s.X s.l c.1 else findN s.X s.l c
def needB (all : Bool) : Int := if all then 16 else 8
def revA (all : Bool) (s : Sta) (c : Cp) : Ans :=
  if hasC s.X s.l c = false then ⟨[], 3, s⟩ else if partB (needB all) (rg s.X (findN s.X s.l c)) = false then ⟨[], 4, s⟩ else
    ⟨(G true s.l (whom all s c)).map (fun k => (tk s.X k).1), 0, felled s (whom all s c) c.1⟩
theorem findN_of {m : Nat} {X : List Tk} {l : Fo} (h : Inv m X l) {c : Cp} (hc : hasC X l c = true) : findN X l c ∈ nums l ∧ (tk X (findN X l c)).1 = c := by
  obtain ⟨n, hn, e⟩ := hasC_iff.1 hc
  have := findN_in h hn
  rw [e] at this
  rw [this]
  exact ⟨hn, e⟩
theorem topOf_eq {m : Nat} {X : List Tk} {l : Fo} (h : Inv m X l) {r : Int} (hr : (r, -1) ∈ l) : topOf X l (ob X r) = r := by unfold topOf; rw [rootOf_some h hr]; rfl
theorem whom_in {m : Nat} {s : Sta} (h : Inv m s.X s.l) {c : Cp} (hc : hasC s.X s.l c = true) (all : Bool) : whom all s c ∈ nums s.l ∧ ob s.X (whom all s c) = c.1 ∧ (all = true → (whom all s c, -1) ∈ s.l) := by
  obtain ⟨h1, h2⟩ := findN_of h hc
  have h3 : ob s.X (findN s.X s.l c) = c.1 := by unfold ob; rw [h2]
  cases all with
  | false => exact ⟨h1, h3, fun e => by cases e⟩
  | true =>
    obtain ⟨r, hr, ho, _⟩ := h.toRoot _ h1
    have e : whom true s c = r := by
      show topOf s.X s.l c.1 = r
      rw [← h3, ← ho, topOf_eq h hr]
    rw [e]
    exact ⟨mem_nums.2 ⟨_, hr⟩, by rw [ho, h3], fun _ => hr⟩
theorem root_G_len {m : Nat} {X : List Tk} {l : Fo} (h : Inv m X l) {r : Int} (hr : (r, -1) ∈ l) : (G true l r).length = inN X l (ob X r) := by
  unfold inN
  refine same_len (G_nodup h.ok true r) (List.Nodup.sublist List.filter_sublist h.ok.nodup) (fun x => ?_)
  rw [h.mem_root hr, List.mem_filter, decide_eq_true_eq]
theorem root_not {m : Nat} {X : List Tk} {l : Fo} (h : Inv m X l) {n r : Int} (hr : (r, -1) ∈ l) (hne : n ≠ r) : r ∉ G true l n := fun e => by
  have h1 := (mem_G_iff h.ok).1 e
  rw [U_eq h.ok hr] at h1
  rcases List.mem_cons.1 h1 with h2 | h2
  · exact hne h2
  · rw [U_out (fun h3 => by have := nums_nn h.ok h3; omega)] at h2
    cases h2
theorem felled_fit {mo : Nat} {s : Sta} (h : Fit mo s) {n x : Int} (hn : n ∈ nums s.l) (hx : ob s.X n = x) (hi : Inv mo (zer s.X (G true s.l n)) (cuts s.l (G true s.l n))) : Fit mo (felled s n x) ∧ Q.subO s.L x ((G true s.l n).length : Int) = 0 := by
  have hin := inN_drop h.inv n
  have hxx := hin x
  rw [if_pos hx, ← h.cnt x] at hxx
  have hno : ¬ (((G true s.l n).length : Int) < 0 ∨ (s.L.count x : Int) < ((G true s.l n).length : Int)) := by omega
  have hL : Q.subS s.L x ((G true s.l n).length : Int) = Q.subL x (G true s.l n).length s.L := by
    unfold Q.subS
    rw [if_neg hno]; simp
  refine ⟨⟨hi, fun o => ?_, ?_, fun o => ?_, fun p hp => ?_⟩, by unfold Q.subO; rw [if_neg hno]⟩
  · show (Q.subS s.L x _).count o = inN (zer s.X _) (cuts s.l _) o
    have := hin o
    rw [← h.cnt o] at this
    rw [hL]
    by_cases e : o = x
    · subst e
      rw [Q.subL_count]
      rw [if_pos hx] at this
      omega
    · rw [Q.subL_other _ _ _ _ e]
      rw [if_neg (fun h => e (by rw [← h]; exact hx))] at this
      omega
  · show (Q.subS s.L x _).length = (cuts s.l _).length
    rw [hL]
    have h1 := Q.subL_len x (G true s.l n).length s.L (by omega)
    have h2 := cuts_len h.inv n
    have h3 := h.len
    omega
  · show (∃ p ∈ (if par s.l n = -1 then noV s.V x else s.V), p.1 = o) ↔ hasO (zer s.X _) (cuts s.l _) o = true
    have h0 := h.obj o
    rw [hasO_inN] at h0 ⊢
    have := hin o
    obtain ⟨p, hp⟩ := mem_nums.1 hn
    have hpar := par_eq h.inv.ok hp
    by_cases e : o = x
    · subst e
      rw [if_pos hx] at this
      by_cases hroot : par s.l n = -1
      · rw [if_pos hroot]
        rw [hpar] at hroot
        subst hroot
        have h1 := root_G_len h.inv hp
        rw [hx] at h1
        constructor
        · rintro ⟨q, hq, e⟩; exact absurd e (mem_noV.1 hq).2
        · intro h2; omega
      · rw [if_neg hroot, h0]
        obtain ⟨r, hr, ho, _⟩ := h.inv.toRoot n hn
        have hne : n ≠ r := fun e => hroot (by rw [e]; exact par_eq h.inv.ok hr)
        have h1 := root_not h.inv hr hne
        have h2 : (r : Int) ∈ nums (cuts s.l (G true s.l n)) := nums_cuts.2 ⟨mem_nums.2 ⟨_, hr⟩, h1⟩
        have h3 : hasO (zer s.X (G true s.l n)) (cuts s.l (G true s.l n)) o = true := hasO_iff.2 ⟨r, h2, by
          unfold ob
          rw [zer_tk _ _ _ (nums_nn h.inv.ok (mem_nums.2 ⟨_, hr⟩)) (fun a ha => nums_nn h.inv.ok (G_nums h.inv.ok ha)) h1]
          exact ho.trans hx⟩
        have h4 := hasO_inN.1 h3
        omega
    · rw [if_neg (fun h => e (by rw [← h]; exact hx))] at this
      rw [Nat.add_zero] at this
      rw [this, ← h0]
      split
      · constructor
        · rintro ⟨q, hq, e⟩; exact ⟨q, (mem_noV.1 hq).1, e⟩
        · rintro ⟨q, hq, e2⟩; exact ⟨q, mem_noV.2 ⟨hq, by rw [e2]; exact e⟩, e2⟩
      · exact Iff.rfl
  · have hp' : p ∈ (if par s.l n = -1 then noV s.V x else s.V) := hp
    split at hp'
    · exact h.ids p (mem_noV.1 hp').1
    · exact h.ids p hp'

/-! ### A token, an object more -/
theorem may_room {mo : Nat} {s : Sta} (h : Fit mo s) (hl : (s.L.length : Int) < (mo : Int)) : s.l.length < mo := by have := h.len; omega
/-- A token may be put in. -/
structure May (s : Sta) (c : Cp) (p r : Int) : Prop where
  new : hasC s.X s.l c = false
  wide : c.2.1 < B64 ∧ c.2.2 < B64
  val : validB r = true
  at_ : (p = -1 ∧ hasO s.X s.l c.1 = false) ∨ (p ∈ nums s.l ∧ ob s.X p = c.1 ∧ partB r (rg s.X p) = true)
def addS (s : Sta) (c : Cp) (p r : Int) (nx : Int) (V : List (Int × List Nat)) : Sta := ⟨s.X.set (low s.l) (c, r), s.l ++ [((low s.l : Int), p)], s.L ++ [c.1], nx, V⟩
theorem Fit.add {mo : Nat} {s : Sta} (h : Fit mo s) {c : Cp} {p r nx : Int} {V : List (Int × List Nat)} (hr : s.l.length < mo) (hy : May s c p r) (hobj : ∀ o, (∃ p ∈ V, p.1 = o) ↔ (o = c.1 ∨ ∃ p ∈ s.V, p.1 = o)) (hid : ∀ p ∈ V, 1 ≤ p.1 ∧ p.1 < nx) : Fit mo (addS s c p r nx V) := by
  have hlo := low_lt h.inv.ok hr
  have hadd := fun x => inN_add h.inv p c r hlo (low_not s.l) x
  refine ⟨h.inv.add hlo (low_not s.l) hy.new hy.wide hy.val hy.at_, fun x => ?_, by simp [addS, h.len], fun o => ?_, hid⟩
  · show (s.L ++ [c.1]).count x = inN (s.X.set (low s.l) (c, r)) (s.l ++ [((low s.l : Int), p)]) x
    rw [hadd, List.count_append, h.cnt x]
    congr 1
    rw [List.count_singleton]
    by_cases e : c.1 = x
    · simp [e]
    · simp [e]
  · show (∃ p ∈ V, p.1 = o) ↔ hasO (s.X.set (low s.l) (c, r)) (s.l ++ [((low s.l : Int), p)]) o = true
    rw [hobj, h.obj o, hasO_inN, hasO_inN, hadd]
    by_cases e : c.1 = o
    · rw [if_pos e]
      exact ⟨fun _ => by omega, fun _ => .inl e.symm⟩
    · rw [if_neg e]
      constructor
      · rintro (h1 | h1)
        · exact absurd h1.symm e
        · exact h1
      · exact fun h1 => .inr h1
theorem addR_ok {mo : Nat} {s : Sta} {c : Cp} {p r : Int} (hr : s.l.length < mo) (hc : hasC s.X s.l c = false) :
    addR mo s.X s.l p c r = ⟨(low s.l : Int), 0, s.X.set (low s.l) (c, r), s.l ++ [((low s.l : Int), p)]⟩ := by
  unfold addR
  rw [if_neg (by rw [hc]; decide), if_neg (by omega)]
theorem rootR_ok {mo : Nat} {s : Sta} {c : Cp} (hr : s.l.length < mo) (ho : hasO s.X s.l c.1 = false) :
    rootR mo s.X s.l c 31 = ⟨(low s.l : Int), 0, s.X.set (low s.l) (c, 31), s.l ++ [((low s.l : Int), -1)]⟩ ∧ hasC s.X s.l c = false := by
  have hC : hasC s.X s.l c = false := by
    cases hc : hasC s.X s.l c with
    | false => rfl
    | true => have := hasO_of_hasC hc; rw [ho] at this; cases this
  refine ⟨?_, hC⟩
  unfold rootR
  rw [if_neg (by decide), if_neg (by rw [ho]; decide)]
  exact addR_ok hr hC
end Go.Proofs.YtnjadfgfpebkdaaGreat.D
namespace Go.Proofs.YtnjadfgfpebkdaaGreat.D
open Go.RowKit
open Go.Proofs.YtnjadfgfpebkdaaGreat.H (B64 Cp)
set_option linter.unusedVariables false

/-! ### All six in memory -/
structure Tp (w : World) (b : Nat) (x y z : Nat) : Prop where
  c0 : w.cell? ⟨b, 0, none⟩ = some (.pointer (some ⟨x, 0, none⟩))
  c1 : w.cell? ⟨b, 1, none⟩ = some (.pointer (some ⟨y, 0, none⟩))
  c2 : w.cell? ⟨b, 2, none⟩ = some (.pointer (some ⟨z, 0, none⟩))
theorem Tp.but {S : Nat → Prop} {w w' : World} {b x y z : Nat} (h : Tp w b x y z) (hb : But S w w') (hn : ¬ S b) : Tp w' b x y z := ⟨cell_but hb h.c0 hn, cell_but hb h.c1 hn, cell_but hb h.c2 hn⟩
theorem Tp.later {w w' : World} {b x y z : Nat} (h : Tp w b x y z) (hb : Below w.heap.size w w') : Tp w' b x y z := h.but (S := fun _ => False) (But.of hb) (fun h => h)
theorem Tp.lt {w : World} {b x y z : Nat} (h : Tp w b x y z) : b < w.heap.size := World.block_lt_of_cell? _ _ h.c0
/-- Where they lie. -/
structure Hd where
  A : Ad
  kn : Nat
  mo : Nat
  qg : Nat
  qb : Nat
  z : S.Sid
  r : Nat
  b : Nat
  q : Nat
  v : Nat
  sb : Nat
  rb : Nat
  base : Nat
/-- One of the six, with the blocks that are its own. -/
def Part (w : World) (H : Hd) (s d : Sta) (T : Nat) (m : Nat → Prop) : Nat → Prop
  | 0 => Cat w H.A H.kn H.mo s.X s.l ∧ ∀ k, H.A.All k → m k
  | 1 => Q.Qu w H.qg H.qb 256 (H.mo : Int) s.L ∧ ∀ k, k = H.qg ∨ k = H.qb → m k
  | 2 => ∃ Os, S.St w H.z s.nx Os ∧ S.vw Os = s.V ∧ ∀ k, S.Zb H.z k ∨ S.Rb Os k → m k
  | 3 => ∃ wh ev, Rf w H.r H.b H.mo d.X d.l wh ev ∧ Tim d.l wh ev ∧ ev ≤ T ∧ ∀ k, k = H.r ∨ k = H.b → m k
  | 4 => ∃ pa cap, Q.Rf w H.base H.q 256 (H.mo : Int) pa cap d.L ∧ ∀ k, k = H.q ∨ Blk pa k → m k
  | 5 => ∃ G a cap col, S.Rf w H.base H.v 8 64 d.nx d.V G a cap col ∧ ∀ k, col k ≠ 0 → m k
  | _ => True
theorem Part.but {S : Nat → Prop} {w w' : World} {H : Hd} {s d : Sta} {T : Nat} {m : Nat → Prop} (hb : But S w w') (hS : ∀ k, m k → ¬ S k) : ∀ i, Part w H s d T m i → Part w' H s d T m i
  | 0, ⟨h, h2⟩ => ⟨h.but hb (fun k hk => hS k (h2 k hk)), h2⟩
  | 1, ⟨h, h2⟩ => ⟨h.but hb (hS _ (h2 _ (.inl rfl))) (hS _ (h2 _ (.inr rfl))), h2⟩
  | 2, ⟨Os, h, e, h2⟩ => ⟨Os, h.but hb (fun k hk => hS k (h2 k (.inl hk))) (fun k hk => hS k (h2 k (.inr hk))), e, h2⟩
  | 3, ⟨wh, ev, h, ht, he, h2⟩ => ⟨wh, ev, h.but hb (hS _ (h2 _ (.inl rfl))) (hS _ (h2 _ (.inr rfl))), ht, he, h2⟩
  | 4, ⟨pa, cap, h, h2⟩ => ⟨pa, cap, h.but hb (hS _ (h2 _ (.inl rfl))) (fun k hk => hS k (h2 k (.inr hk))), h2⟩
  | 5, ⟨G, a, cap, col, h, h2⟩ => ⟨G, a, cap, col, h.but hb (fun k hk => hS k (h2 k hk)), h2⟩
  | _ + 6, _ => trivial
/-- All six, each in blocks of its own, all of them in N. -/
structure Lay (w : World) (H : Hd) (s d : Sta) (T : Nat) (M : Nat → Nat → Prop) (N : Nat → Prop) : Prop where
  part : ∀ i, Part w H s d T (M i) i
  ap : ∀ i j k, M i k → M j k → i = j
  sub : ∀ i k, M i k → N k
  rng : ∀ k, N k → H.base ≤ k ∧ k < w.heap.size ∧ k ≠ H.sb ∧ k ≠ H.rb
  hz : H.z.n = 64 ∧ H.z.room = 8
  t1 : Tp w H.sb H.A.g H.qg H.z.s
  t2 : Tp w H.rb H.r H.q H.v
  hmo : 1 ≤ H.mo ∧ H.mo ≤ 256
def Duo (w : World) (H : Hd) (s d : Sta) (T : Nat) (N : Nat → Prop) : Prop := ∃ M, Lay w H s d T M N
/-- From one world to a later one: only blocks of N are written, only new ones join it. -/
def Went (w : World) (N : Nat → Prop) (w' : World) (N' : Nat → Prop) : Prop := (∀ k, N' k → N k ∨ w.heap.size ≤ k) ∧ But N w w'
theorem Went.refl (w : World) (N : Nat → Prop) : Went w N w N := ⟨fun k h => .inl h, But.refl _ _⟩
theorem Went.later {w w' : World} {N : Nat → Prop} (hb : Below w.heap.size w w') : Went w N w' N := ⟨fun k h => .inl h, But.of hb⟩
theorem Went.stay {w w' : World} {N : Nat → Prop} (hb : But N w w') : Went w N w' N := ⟨fun k h => .inl h, hb⟩
theorem Went.trans {w w1 w2 : World} {N N1 N2 : Nat → Prop} (h : Went w N w1 N1) (k : Went w1 N1 w2 N2) : Went w N w2 N2 := by
  refine ⟨fun j hj => ?_, ⟨k.2.os.trans h.2.os, k.2.tape.trans h.2.tape, k.2.output.trans h.2.output, Nat.le_trans h.2.size k.2.size, fun j hj hn => ?_⟩⟩
  · rcases k.1 j hj with h1 | h1
    · exact h.1 j h1
    · exact .inr (Nat.le_trans h.2.size h1)
  · refine (k.2.block j (Nat.lt_of_lt_of_le hj h.2.size) (fun h1 => ?_)).trans (h.2.block j hj hn)
    rcases h.1 j h1 with h2 | h2
    · exact hn h2
    · omega
/-- What is not of N stays out of it. -/
theorem Went.out {w w' : World} {N N' : Nat → Prop} (h : Went w N w' N') {b : Nat} (hb : b < w.heap.size) (hn : ¬ N b) : ¬ N' b := fun e => by
  rcases h.1 b e with h1 | h1
  · exact hn h1
  · omega
theorem Went.size {w w' : World} {N N' : Nat → Prop} (h : Went w N w' N') : w.heap.size ≤ w'.heap.size := h.2.size
theorem Went.cell {w w' : World} {N N' : Nat → Prop} (h : Went w N w' N') {p : Addr} {v : Value} (hc : w.cell? p = some v) (hn : ¬ N p.block) : w'.cell? p = some v := cell_but h.2 hc hn
theorem Lay.step {i : Nat} {w w' : World} {H : Hd} {s d s' d' : Sta} {T T' : Nat} {M : Nat → Nat → Prop} {N m' : Nat → Prop} (h : Lay w H s d T M N) (hb : But (M i) w w') (hp : Part w' H s' d' T' m' i)
    (hm : ∀ k, m' k → M i k ∨ (w.heap.size ≤ k ∧ k < w'.heap.size)) (same : ∀ j, j ≠ i → ∀ u m, Part u H s d T m j → Part u H s' d' T' m j) (hlo : H.base ≤ w.heap.size) :
    ∃ N', Duo w' H s' d' T' N' ∧ Went w N w' N' ∧ ∀ k, N' k → N k ∨ m' k := by
  have hN : But N w w' := hb.mono (h.sub i)
  refine ⟨fun k => N k ∨ m' k, ⟨fun j => if j = i then m' else M j, fun j => ?_, fun a b k ha hb' => ?_, fun j k hk => ?_, fun k hk => ?_, h.hz, h.t1.but hN (fun e => (h.rng _ e).2.2.1 rfl), h.t2.but hN (fun e => (h.rng _ e).2.2.2 rfl), h.hmo⟩, ⟨fun k hk => ?_, hN⟩, fun k hk => hk⟩
  · by_cases e : j = i
    · subst e; rw [if_pos rfl]; exact hp
    · rw [if_neg e]
      exact same j e w' (M j) (Part.but hb (fun k hk e2 => e (h.ap j i k hk e2)) j (h.part j))
  · have key : ∀ x, x ≠ i → M x k → m' k → False := fun x hx h1 h2 => by
      rcases hm k h2 with h3 | h3
      · exact hx (h.ap x i k h1 h3)
      · have := (h.rng k (h.sub x k h1)).2.1; omega
    by_cases ea : a = i
    · by_cases eb : b = i
      · rw [ea, eb]
      · rw [if_pos ea] at ha; rw [if_neg eb] at hb'
        exact (key b eb hb' ha).elim
    · rw [if_neg ea] at ha
      by_cases eb : b = i
      · rw [if_pos eb] at hb'
        exact (key a ea ha hb').elim
      · rw [if_neg eb] at hb'
        exact h.ap a b k ha hb'
  · by_cases e : j = i
    · rw [if_pos e] at hk; exact .inr hk
    · rw [if_neg e] at hk; exact .inl (h.sub j k hk)
  · have hs := hb.size
    have old : N k → H.base ≤ k ∧ k < w'.heap.size ∧ k ≠ H.sb ∧ k ≠ H.rb := fun h1 => by
      have := h.rng k h1
      exact ⟨this.1, by omega, this.2.2⟩
    rcases hk with h1 | h1
    · exact old h1
    · rcases hm k h1 with h2 | h2
      · exact old (h.sub i k h2)
      · have l1 := h.t1.lt
        have l2 := h.t2.lt
        exact ⟨by omega, h2.2, by omega, by omega⟩
  · rcases hk with h1 | h1
    · exact .inl h1
    · rcases hm k h1 with h2 | h2
      · exact .inl (h.sub i k h2)
      · exact .inr h2.1
theorem Lay.stay {i : Nat} {w w' : World} {H : Hd} {s d s' d' : Sta} {T T' : Nat} {M : Nat → Nat → Prop} {N : Nat → Prop} (h : Lay w H s d T M N) (hb : But (M i) w w') (hp : Part w' H s' d' T' (M i) i)
    (same : ∀ j, j ≠ i → ∀ u m, Part u H s d T m j → Part u H s' d' T' m j) : Duo w' H s' d' T' N ∧ But N w w' := by
  have hN : But N w w' := hb.mono (h.sub i)
  refine ⟨⟨M, fun j => ?_, h.ap, h.sub, fun k hk => ?_, h.hz, h.t1.but hN (fun e => (h.rng _ e).2.2.1 rfl), h.t2.but hN (fun e => (h.rng _ e).2.2.2 rfl), h.hmo⟩, hN⟩
  · by_cases e : j = i
    · subst e; exact hp
    · exact same j e w' (M j) (Part.but hb (fun k hk e2 => e (h.ap j i k hk e2)) j (h.part j))
  · have := h.rng k hk
    have hs := hb.size
    exact ⟨this.1, by omega, this.2.2⟩
theorem Duo.but {S : Nat → Prop} {w w' : World} {H : Hd} {s d : Sta} {T : Nat} {N : Nat → Prop} (h : Duo w H s d T N) (hb : But S w w') (hS : ∀ k, N k → ¬ S k) (h1 : ¬ S H.sb) (h2 : ¬ S H.rb) : Duo w' H s d T N := by
  obtain ⟨M, h⟩ := h
  exact ⟨M, fun i => Part.but hb (fun k hk => hS k (h.sub i k hk)) i (h.part i), h.ap, h.sub, fun k hk => by have := h.rng k hk; have hs := hb.size; exact ⟨this.1, by omega, this.2.2⟩, h.hz, h.t1.but hb h1, h.t2.but hb h2, h.hmo⟩
theorem Duo.later {w w' : World} {H : Hd} {s d : Sta} {T : Nat} {N : Nat → Prop} (h : Duo w H s d T N) (hb : Below w.heap.size w w') : Duo w' H s d T N := h.but (S := fun _ => False) (But.of hb) (fun _ _ h => h) (fun h => h) (fun h => h)
theorem Duo.mono {w : World} {H : Hd} {s d : Sta} {T T' : Nat} {N : Nat → Prop} (h : Duo w H s d T N) (ht : T ≤ T') : Duo w H s d T' N := by
  obtain ⟨M, h⟩ := h
  refine ⟨M, fun i => ?_, h.ap, h.sub, h.rng, h.hz, h.t1, h.t2, h.hmo⟩
  have hp := h.part i
  match i, hp with
  | 0, hp => exact hp
  | 1, hp => exact hp
  | 2, hp => exact hp
  | 3, ⟨wh, ev, a, b, c, e⟩ => exact ⟨wh, ev, a, b, by omega, e⟩
  | 4, hp => exact hp
  | 5, hp => exact hp
  | _ + 6, _ => trivial
theorem Duo.cat {w : World} {H : Hd} {s d : Sta} {T : Nat} {N : Nat → Prop} (h : Duo w H s d T N) : Cat w H.A H.kn H.mo s.X s.l := by
  obtain ⟨M, h⟩ := h
  exact (h.part 0).1
theorem Duo.qu {w : World} {H : Hd} {s d : Sta} {T : Nat} {N : Nat → Prop} (h : Duo w H s d T N) : Q.Qu w H.qg H.qb 256 (H.mo : Int) s.L := by
  obtain ⟨M, h⟩ := h
  exact (h.part 1).1
theorem Duo.st {w : World} {H : Hd} {s d : Sta} {T : Nat} {N : Nat → Prop} (h : Duo w H s d T N) : ∃ Os, S.St w H.z s.nx Os ∧ S.vw Os = s.V := by
  obtain ⟨M, h⟩ := h
  obtain ⟨Os, h1, h2, _⟩ := h.part 2
  exact ⟨Os, h1, h2⟩
theorem Duo.rc {w : World} {H : Hd} {s d : Sta} {T : Nat} {N : Nat → Prop} (h : Duo w H s d T N) : ∃ wh ev, Rf w H.r H.b H.mo d.X d.l wh ev ∧ Tim d.l wh ev := by
  obtain ⟨M, h⟩ := h
  obtain ⟨wh, ev, h1, h2, _⟩ := h.part 3
  exact ⟨wh, ev, h1, h2⟩
theorem Duo.rq {w : World} {H : Hd} {s d : Sta} {T : Nat} {N : Nat → Prop} (h : Duo w H s d T N) : ∃ pa cap, Q.Rf w H.base H.q 256 (H.mo : Int) pa cap d.L := by
  obtain ⟨M, h⟩ := h
  obtain ⟨pa, cap, h1, _⟩ := h.part 4
  exact ⟨pa, cap, h1⟩
theorem Duo.rs {w : World} {H : Hd} {s d : Sta} {T : Nat} {N : Nat → Prop} (h : Duo w H s d T N) : ∃ G a cap col, S.Rf w H.base H.v 8 64 d.nx d.V G a cap col := by
  obtain ⟨M, h⟩ := h
  obtain ⟨G, a, cap, col, h1, _⟩ := h.part 5
  exact ⟨G, a, cap, col, h1⟩
theorem Duo.t1 {w : World} {H : Hd} {s d : Sta} {T : Nat} {N : Nat → Prop} (h : Duo w H s d T N) : Tp w H.sb H.A.g H.qg H.z.s := by
  obtain ⟨M, h⟩ := h
  exact h.t1
theorem Duo.t2 {w : World} {H : Hd} {s d : Sta} {T : Nat} {N : Nat → Prop} (h : Duo w H s d T N) : Tp w H.rb H.r H.q H.v := by
  obtain ⟨M, h⟩ := h
  exact h.t2
theorem Duo.hz {w : World} {H : Hd} {s d : Sta} {T : Nat} {N : Nat → Prop} (h : Duo w H s d T N) : H.z.n = 64 ∧ H.z.room = 8 := by
  obtain ⟨M, h⟩ := h
  exact h.hz
theorem Duo.hmo {w : World} {H : Hd} {s d : Sta} {T : Nat} {N : Nat → Prop} (h : Duo w H s d T N) : 1 ≤ H.mo ∧ H.mo ≤ 256 := by
  obtain ⟨M, h⟩ := h
  exact h.hmo
theorem Duo.rng {w : World} {H : Hd} {s d : Sta} {T : Nat} {N : Nat → Prop} (h : Duo w H s d T N) : ∀ k, N k → H.base ≤ k ∧ k < w.heap.size ∧ k ≠ H.sb ∧ k ≠ H.rb := by
  obtain ⟨M, h⟩ := h
  exact h.rng
theorem Duo.lo {w : World} {H : Hd} {s d : Sta} {T : Nat} {N : Nat → Prop} (h : Duo w H s d T N) : H.base ≤ w.heap.size := by
  obtain ⟨M, h⟩ := h
  have := h.rng H.A.g (h.sub 0 _ ((h.part 0).2 _ (.inl rfl)))
  omega
theorem Duo.inv {w : World} {H : Hd} {s d : Sta} {T : Nat} {N : Nat → Prop} (h : Duo w H s d T N) : Inv H.mo s.X s.l := h.cat.inv
/-- Nothing below the base is written. -/
theorem Went.below {w w' : World} {N N' : Nat → Prop} {b : Nat} (h : Went w N w' N') (hN : ∀ k, N k → b ≤ k) : ∀ k, k < b → k < w.heap.size → w'.heap[k]? = w.heap[k]? := fun k hk hs => h.2.block k hs (fun e => by have := hN k e; omega)
theorem Duo.went {w0 w w' : World} {H : Hd} {s d : Sta} {T : Nat} {N N' : Nat → Prop} (h : Duo w H s d T N) (hb : Below w0.heap.size w0 w) (hw : Went w N w' N') (e : w0.heap.size ≤ H.base) : Below w0.heap.size w0 w' :=
  But.below hb hw.2 (fun k hk => by have := (h.rng k hk).1; omega)
end Go.Proofs.YtnjadfgfpebkdaaGreat.D
namespace Go.Proofs.YtnjadfgfpebkdaaGreat.D
open Go.RowKit
open Go.Proofs.YtnjadfgfpebkdaaGreat.H (B64 Cp)
set_option linter.unusedVariables false

/-! ### The calls of the layers below, the program's -/
theorem pRoot {w : World} {H : Hd} {s d : Sta} {T : Nat} {N : Nat → Prop} (h : Duo w H s d T N) (c : Cp) (r : Int) (hw : c.2.1 < B64 ∧ c.2.2 < B64) :
    Calls Tryz.prog 38 #[.pointer (some ⟨H.A.g, 0, none⟩), cpV c, .int .i64 r] w fun e w' => e = .returned (.tuple #[.int .i64 (rootR H.mo s.X s.l c r).num, .int .i64 (rootR H.mo s.X s.l c r).code]) ∧ Duo w' H { s with X := (rootR H.mo s.X s.l c r).X, l := (rootR H.mo s.X s.l c r).l } d T N ∧ But N w w' := by
  obtain ⟨M, h⟩ := h
  obtain ⟨hc, hm⟩ := h.part 0
  refine (croot_of hc c r hw).mono ?_
  rintro e w' ⟨rfl, hc', hb⟩
  exact ⟨rfl, h.stay (i := 0) (hb.mono (fun k hk => hm k (.inr (.inr hk)))) ⟨hc', hm⟩ (fun j hj u m hp => by
    rcases j with _ | _ | _ | _ | _ | _ | j
    · exact absurd rfl hj
    all_goals exact hp)⟩
theorem pChild {w : World} {H : Hd} {s d : Sta} {T : Nat} {N : Nat → Prop} (h : Duo w H s d T N) (p : Int) (c : Cp) (r : Int) (hw : c.2.1 < B64 ∧ c.2.2 < B64) :
    Calls Tryz.prog 44 #[.pointer (some ⟨H.A.g, 0, none⟩), .int .i64 p, cpV c, .int .i64 r] w fun e w' => e = .returned (.tuple #[.int .i64 (childR H.mo s.X s.l p c r).num, .int .i64 (childR H.mo s.X s.l p c r).code]) ∧ Duo w' H { s with X := (childR H.mo s.X s.l p c r).X, l := (childR H.mo s.X s.l p c r).l } d T N ∧ But N w w' := by
  obtain ⟨M, h⟩ := h
  obtain ⟨hc, hm⟩ := h.part 0
  refine (child_of hc p c r hw).mono ?_
  rintro e w' ⟨rfl, hc', hb⟩
  exact ⟨rfl, h.stay (i := 0) (hb.mono (fun k hk => hm k (.inr (.inr hk)))) ⟨hc', hm⟩ (fun j hj u m hp => by
    rcases j with _ | _ | _ | _ | _ | _ | j
    · exact absurd rfl hj
    all_goals exact hp)⟩
theorem pDrop {w : World} {H : Hd} {s d : Sta} {T : Nat} {N : Nat → Prop} (h : Duo w H s d T N) (n : Int) (hn : n ∈ nums s.l) :
    Calls Tryz.prog 101 #[.pointer (some ⟨H.A.g, 0, none⟩), .int .i64 n] w fun e w' => ∃ a c, e = .returned (.tuple #[.slice a (G true s.l n).length c, .int .i64 0]) ∧ Ow w' w.heap.size 27 3 a (G true s.l n).length c (caps ((G true s.l n).map (fun k => (tk s.X k).1))) ∧ Duo w' H { s with X := zer s.X (G true s.l n), l := cuts s.l (G true s.l n) } d T N ∧ But N w w' := by
  obtain ⟨M, h⟩ := h
  obtain ⟨hc, hm⟩ := h.part 0
  refine (Go.Proofs.YtnjadfgfpebkdaaGreat.drop_ok hc n hn).mono ?_
  rintro e w' ⟨a, c, rfl, hO, hc', hb⟩
  exact ⟨a, c, rfl, hO, h.stay (i := 0) (hb.mono (fun k hk => hm k (.inr (.inr hk)))) ⟨hc', hm⟩ (fun j hj u m hp => by
    rcases j with _ | _ | _ | _ | _ | _ | j
    · exact absurd rfl hj
    all_goals exact hp)⟩
theorem pAdd {w : World} {H : Hd} {s d : Sta} {T : Nat} {N : Nat → Prop} (h : Duo w H s d T N) (x : Int) (hx : (Lit.int .i64 x).wf = true) :
    Calls Tryz.prog 40 #[.pointer (some ⟨H.qg, 0, none⟩), .int .i64 x] w fun e w' => e = .returned (.int .i64 (Q.may 256 (H.mo : Int) s.L x)) ∧ Duo w' H { s with L := Q.addL 256 (H.mo : Int) s.L x } d T N ∧ But N w w' := by
  obtain ⟨M, h⟩ := h
  obtain ⟨hc, hm⟩ := h.part 1
  refine (Q.add_any hc x hx).mono ?_
  rintro e w' ⟨rfl, hc', hb⟩
  exact ⟨rfl, h.stay (i := 1) (hb.mono (fun k hk => hm k (.inr hk))) ⟨hc', hm⟩ (fun j hj u m hp => by
    rcases j with _ | _ | _ | _ | _ | _ | j
    · exact hp
    · exact absurd rfl hj
    all_goals exact hp)⟩
theorem pSub {w : World} {H : Hd} {s d : Sta} {T : Nat} {N : Nat → Prop} (h : Duo w H s d T N) (x n : Int) (hx : (Lit.int .i64 x).wf = true) :
    Calls Tryz.prog 99 #[.pointer (some ⟨H.qg, 0, none⟩), .int .i64 x, .int .i64 n] w fun e w' => e = .returned (.int .i64 (Q.subO s.L x n)) ∧ Duo w' H { s with L := Q.subS s.L x n } d T N ∧ But N w w' := by
  obtain ⟨M, h⟩ := h
  obtain ⟨hc, hm⟩ := h.part 1
  refine (Q.sub_any hc x n hx).mono ?_
  rintro e w' ⟨rfl, hc', hb⟩
  exact ⟨rfl, h.stay (i := 1) (hb.mono (fun k hk => hm k (.inr hk))) ⟨hc', hm⟩ (fun j hj u m hp => by
    rcases j with _ | _ | _ | _ | _ | _ | j
    · exact hp
    · exact absurd rfl hj
    all_goals exact hp)⟩
theorem pCreate_ok {w : World} {H : Hd} {s d : Sta} {T : Nat} {N : Nat → Prop} (h : Duo w H s d T N) (k : Nat) (hE : S.mayV 8 64 s.nx s.V (k : Int) = 0) :
    Calls Tryz.prog 36 #[.pointer (some ⟨H.z.s, 0, none⟩), .int .i64 (k : Int)] w fun e w' => e = .returned (.tuple #[.int .i64 s.nx, .int .i64 0]) ∧ ∃ N', Duo w' H { s with nx := s.nx + 1, V := s.V ++ [(s.nx, List.replicate k 0)] } d T N' ∧ Went w N w' N' := by
  have hlo := h.lo
  obtain ⟨M, h⟩ := h
  obtain ⟨Os, hc, hv, hm⟩ := h.part 2
  have hz := h.hz
  have hE2 : S.mayE H.z.room H.z.n s.nx Os (k : Int) = 0 := by rw [← S.vw_may hc, hv, hz.1, hz.2]; exact hE
  refine (S.st_create_ok H.z s.nx Os k w hc hE2).mono ?_
  rintro e w' ⟨P, a, rfl, ha, hc', hb⟩
  obtain ⟨N', h1, h2, _⟩ := h.step (i := 2) (s' := { s with nx := s.nx + 1, V := s.V ++ [(s.nx, List.replicate k 0)] }) (d' := d) (T' := T) (m' := fun j => M 2 j ∨ Blk a j) (hb.mono (fun k hk => hm k (.inl hk))) ⟨_, hc', by rw [S.vw_append, hv], fun j hj => by
    rcases hj with h1 | h1
    · exact .inl (hm j (.inl h1))
    · rcases S.rb_append h1 with h2 | h2
      · exact .inl (hm j (.inr h2))
      · exact .inr h2⟩ (fun j hj => by
    rcases hj with h1 | h1
    · exact .inl h1
    · exact .inr (ha j h1)) (fun j hj u m hp => by
    rcases j with _ | _ | _ | _ | _ | _ | j
    · exact hp
    · exact hp
    · exact absurd rfl hj
    all_goals exact hp) hlo
  exact ⟨rfl, N', h1, h2⟩
theorem pCreate_bad {w : World} {H : Hd} {s d : Sta} {T : Nat} {N : Nat → Prop} (h : Duo w H s d T N) (size E : Int) (hE : S.mayV 8 64 s.nx s.V size = E) (hn : E ≠ 0) :
    Calls Tryz.prog 36 #[.pointer (some ⟨H.z.s, 0, none⟩), .int .i64 size] w fun e w' => e = .returned (.tuple #[.int .i64 0, .int .i64 E]) ∧ Below w.heap.size w w' := by
  obtain ⟨M, h⟩ := h
  obtain ⟨Os, hc, hv, hm⟩ := h.part 2
  have hz := h.hz
  have hE2 : S.mayE H.z.room H.z.n s.nx Os size = E := by rw [← S.vw_may hc, hv, hz.1, hz.2]; exact hE
  exact S.st_create_bad H.z s.nx Os size E w hc hE2 hn
theorem pWrite {w : World} {H : Hd} {s d : Sta} {T : Nat} {N : Nat → Prop} (h : Duo w H s d T N) (id off : Int) (da : Option Addr) (k cd : Nat) (D : List Nat) (hi : S.i64ok id) (hR : Row w da k cd (S.u8s D)) (hD : ∀ x ∈ D, x < 256) (hap : ∀ j, Blk da j → ¬ N j) :
    Calls Tryz.prog 34 #[.pointer (some ⟨H.z.s, 0, none⟩), .int .i64 id, .int .i64 off, .slice da k cd] w fun e w' => e = .returned (.int .i64 (S.rvE s.V id off (k : Int))) ∧ Duo w' H { s with V := S.wrV s.V id off D } d T N ∧ But N w w' := by
  obtain ⟨M, h⟩ := h
  obtain ⟨Os, hc, hv, hm⟩ := h.part 2
  refine (S.st_write H.z s.nx Os id off da k cd D w hc hi hR hD (fun _ j hj hz => hap j hj (h.sub 2 j (hm j (.inl hz))))).mono ?_
  rintro e w' ⟨rfl, hc', hb⟩
  refine ⟨by rw [← hv, S.vw_rdE], h.stay (i := 2) (hb.mono (fun k hk => hm k (.inl hk))) ⟨_, hc', by rw [S.vw_wrO, hv], fun j hj => ?_⟩ (fun j hj u m hp => by
    rcases j with _ | _ | _ | _ | _ | _ | j
    · exact hp
    · exact hp
    · exact absurd rfl hj
    all_goals exact hp)⟩
  rcases hj with h1 | h1
  · exact hm j (.inl h1)
  · exact hm j (.inr (S.rb_wrO h1))
theorem vw_noV {Os : List S.Ob} {id : Int} : S.vw (S.without id Os) = noV (S.vw Os) id := by
  unfold S.vw S.without noV
  rw [List.filter_map]
  rfl
theorem noV_none {V : List (Int × List Nat)} {id : Int} (h : ∀ p ∈ V, p.1 ≠ id) : noV V id = V := by
  unfold noV
  rw [List.filter_eq_self]
  intro a ha
  simpa using h a ha
theorem pDestroy {w : World} {H : Hd} {s d : Sta} {T : Nat} {N : Nat → Prop} (h : Duo w H s d T N) (id : Int) (hi : S.i64ok id) :
    Calls Tryz.prog 100 #[.pointer (some ⟨H.z.s, 0, none⟩), .int .i64 id] w fun e w' => ∃ x, e = .returned (.int .i64 x) ∧ Duo w' H { s with V := noV s.V id } d T N ∧ But N w w' := by
  obtain ⟨M, h⟩ := h
  obtain ⟨Os, hc, hv, hm⟩ := h.part 2
  cases ho : S.at? Os id with
  | none =>
    refine (S.st_destroy_none H.z s.nx Os id w hc hi ho).mono ?_
    rintro e w' ⟨rfl, hb⟩
    have hn : noV s.V id = s.V := noV_none (by rw [← hv]; exact S.vw_none.2 ho)
    refine ⟨20, rfl, ?_⟩
    rw [hn]
    exact ⟨(show Duo w H s d T N from ⟨M, h⟩).later hb, But.of hb⟩
  | some o =>
    refine (S.st_destroy_ok H.z s.nx Os id o w hc hi ho).mono ?_
    rintro e w' ⟨rfl, hc', hb⟩
    refine ⟨0, rfl, h.stay (i := 2) (hb.mono (fun k hk => hm k (.inl hk))) ⟨_, hc', by rw [vw_noV, hv], fun j hj => ?_⟩ (fun j hj u m hp => by
      rcases j with _ | _ | _ | _ | _ | _ | j
      · exact hp
      · exact hp
      · exact absurd rfl hj
      all_goals exact hp)⟩
    rcases hj with h1 | h1
    · exact hm j (.inl h1)
    · exact hm j (.inr (S.rb_without h1))

/-! ### The document's -/
theorem rRoot {w : World} {H : Hd} {s d : Sta} {T : Nat} {N : Nat → Prop} (h : Duo w H s d T N) (hv : Inv H.mo d.X d.l) (hT : T < 9223372036854775807) (c : Cp) (r : Int) (hw : c.2.1 < B64 ∧ c.2.2 < B64) :
    Calls Tryz.prog 39 #[.pointer (some ⟨H.r, 0, none⟩), cpV c, .int .i64 r] w fun e w' => e = .returned (.tuple #[.int .i64 (rootR H.mo d.X d.l c r).num, .int .i64 (rootR H.mo d.X d.l c r).code]) ∧ Duo w' H s { d with X := (rootR H.mo d.X d.l c r).X, l := (rootR H.mo d.X d.l c r).l } (T + 1) N ∧ But N w w' := by
  obtain ⟨M, h⟩ := h
  obtain ⟨wh, ev, hc, ht, he, hm⟩ := h.part 3
  refine (rroot_any hc hv ht (by omega) c r hw).mono ?_
  rintro e w' ⟨rfl, ⟨wh', ev', hc', ht', he'⟩, hb⟩
  exact ⟨rfl, h.stay (i := 3) (hb.mono (fun k hk => hm k hk)) ⟨wh', ev', hc', ht', by omega, hm⟩ (fun j hj u m hp => by
    rcases j with _ | _ | _ | _ | _ | _ | j
    · exact hp
    · exact hp
    · exact hp
    · exact absurd rfl hj
    all_goals exact hp)⟩
theorem rChild {w : World} {H : Hd} {s d : Sta} {T : Nat} {N : Nat → Prop} (h : Duo w H s d T N) (hv : Inv H.mo d.X d.l) (hT : T < 9223372036854775807) (p : Int) (c : Cp) (r : Int) (hw : c.2.1 < B64 ∧ c.2.2 < B64) :
    Calls Tryz.prog 45 #[.pointer (some ⟨H.r, 0, none⟩), .int .i64 p, cpV c, .int .i64 r] w fun e w' => e = .returned (.tuple #[.int .i64 (childR H.mo d.X d.l p c r).num, .int .i64 (childR H.mo d.X d.l p c r).code]) ∧ Duo w' H s { d with X := (childR H.mo d.X d.l p c r).X, l := (childR H.mo d.X d.l p c r).l } (T + 1) N ∧ But N w w' := by
  obtain ⟨M, h⟩ := h
  obtain ⟨wh, ev, hc, ht, he, hm⟩ := h.part 3
  refine (rchild_any hc hv ht (by omega) p c r hw).mono ?_
  rintro e w' ⟨rfl, ⟨wh', ev', hc', ht', he'⟩, hb⟩
  exact ⟨rfl, h.stay (i := 3) (hb.mono (fun k hk => hm k hk)) ⟨wh', ev', hc', ht', by omega, hm⟩ (fun j hj u m hp => by
    rcases j with _ | _ | _ | _ | _ | _ | j
    · exact hp
    · exact hp
    · exact hp
    · exact absurd rfl hj
    all_goals exact hp)⟩
theorem tim_cuts {l : Fo} {wh : Int → Int} {ev : Nat} (h : Tim l wh ev) (A : List Int) : Tim (cuts l A) wh ev :=
  ⟨List.Pairwise.sublist List.filter_sublist h.ord, fun x hx => h.rng x (nums_cuts.1 hx).1⟩
theorem rDrop {w : World} {H : Hd} {s d : Sta} {T : Nat} {N : Nat → Prop} (h : Duo w H s d T N) (hok : Ok H.mo d.l) (n : Int) (hn : n ∈ nums d.l) :
    Calls Tryz.prog 66 #[.pointer (some ⟨H.r, 0, none⟩), .int .i64 n] w fun e w' => ∃ a c, e = .returned (.tuple #[.slice a (G true d.l n).length c, .int .i64 0]) ∧ Ow w' w.heap.size 27 3 a (G true d.l n).length c (caps ((G true d.l n).map (fun k => (tk d.X k).1))) ∧ Duo w' H s { d with X := zer d.X (G true d.l n), l := cuts d.l (G true d.l n) } T N ∧ But N w w' := by
  obtain ⟨M, h⟩ := h
  obtain ⟨wh, ev, hc, ht, he, hm⟩ := h.part 3
  refine (rdrop_any hc hok ht n).mono ?_
  rintro e w' ⟨a, c, rfl, hO, hc', hb⟩
  rw [if_pos hn]
  exact ⟨a, c, rfl, hO, h.stay (i := 3) (hb.mono (fun k hk => hm k (.inr hk))) ⟨wh, ev, hc', tim_cuts ht _, he, hm⟩ (fun j hj u m hp => by
    rcases j with _ | _ | _ | _ | _ | _ | j
    · exact hp
    · exact hp
    · exact hp
    · exact absurd rfl hj
    all_goals exact hp)⟩
theorem rQ {w w' : World} {H : Hd} {s d : Sta} {T : Nat} {N : Nat → Prop} {M : Nat → Nat → Prop} (h : Lay w H s d T M N) (hlo : H.base ≤ w.heap.size) {pa pa' : Option Addr} {cap' : Nat} {L : List Int} (hm : ∀ k, k = H.q ∨ Blk pa k → M 4 k) (hq' : Q.Rf w' H.base H.q 256 (H.mo : Int) pa' cap' L) (hd : Q.Rd w w' H.q pa pa') : ∃ N', Duo w' H s { d with L := L } T N' ∧ Went w N w' N' := by
  obtain ⟨N', h1, h2, _⟩ := h.step (i := 4) (s' := s) (d' := { d with L := L }) (T' := T) (m' := fun j => M 4 j ∨ Blk pa' j) (hd.but.mono (fun k hk => hm k hk)) ⟨_, _, hq', fun j hj => by
    rcases hj with h1 | h1
    · exact .inl (hm j (.inl h1))
    · exact .inr h1⟩ (fun j hj => by
    rcases hj with h1 | h1
    · exact .inl h1
    · rcases hd.on j h1 with h2 | h2
      · exact .inl (hm j (.inr h2))
      · exact .inr ⟨h2, hq'.own.lt j h1⟩) (fun j hj u m hp => by
    rcases j with _ | _ | _ | _ | _ | _ | j
    · exact hp
    · exact hp
    · exact hp
    · exact hp
    · exact absurd rfl hj
    all_goals exact hp) hlo
  exact ⟨N', h1, h2⟩
theorem rAdd {w : World} {H : Hd} {s d : Sta} {T : Nat} {N : Nat → Prop} (h : Duo w H s d T N) (x : Int) :
    Calls Tryz.prog 41 #[.pointer (some ⟨H.q, 0, none⟩), .int .i64 x] w fun e w' => e = .returned (.int .i64 (Q.may 256 (H.mo : Int) d.L x)) ∧ ∃ N', Duo w' H s { d with L := Q.addL 256 (H.mo : Int) d.L x } T N' ∧ Went w N w' N' := by
  have hlo := h.lo
  obtain ⟨M, h⟩ := h
  obtain ⟨pa, cap, hq, hm⟩ := h.part 4
  refine (Q.radd_any hq x).mono ?_
  rintro e w' ⟨pa', cap', rfl, g1, g2⟩
  exact ⟨rfl, rQ h hlo hm g1 g2⟩
theorem rSub {w : World} {H : Hd} {s d : Sta} {T : Nat} {N : Nat → Prop} (h : Duo w H s d T N) (x n : Int) :
    Calls Tryz.prog 67 #[.pointer (some ⟨H.q, 0, none⟩), .int .i64 x, .int .i64 n] w fun e w' => e = .returned (.int .i64 (Q.subO d.L x n)) ∧ ∃ N', Duo w' H s { d with L := Q.subS d.L x n } T N' ∧ Went w N w' N' := by
  have hlo := h.lo
  obtain ⟨M, h⟩ := h
  obtain ⟨pa, cap, hq, hm⟩ := h.part 4
  refine (Q.rsub_any hq x n).mono ?_
  rintro e w' ⟨pa', cap', rfl, g1, g2⟩
  exact ⟨rfl, rQ h hlo hm g1 g2⟩
theorem rS {w w' : World} {H : Hd} {s d : Sta} {T : Nat} {N : Nat → Prop} {M : Nat → Nat → Prop} (h : Lay w H s d T M N) (hlo : H.base ≤ w.heap.size) {nx : Int} {V : List (Int × List Nat)} {G : Int → Nat} {a : Option Addr} {cap : Nat} {col col' : Nat → Nat} (hm : ∀ k, col k ≠ 0 → M 5 k) (hr : S.Rf w' H.base H.v 8 64 nx V G a cap col') (hn : ∀ j, col' j ≠ 0 → col j ≠ 0 ∨ w.heap.size ≤ j) (hb : But (fun j => col j ≠ 0) w w') : ∃ N', Duo w' H s { d with nx := nx, V := V } T N' ∧ Went w N w' N' := by
  obtain ⟨N', h1, h2, _⟩ := h.step (i := 5) (s' := s) (d' := { d with nx := nx, V := V }) (T' := T) (m' := fun j => M 5 j ∨ col' j ≠ 0) (hb.mono (fun k hk => hm k hk)) ⟨_, _, _, _, hr, fun j hj => .inr hj⟩ (fun j hj => by
    rcases hj with h1 | h1
    · exact .inl h1
    · rcases hn j h1 with h2 | h2
      · exact .inl (hm j h2)
      · exact .inr ⟨h2, hr.lt j h1⟩) (fun j hj u m hp => by
    rcases j with _ | _ | _ | _ | _ | _ | j
    · exact hp
    · exact hp
    · exact hp
    · exact hp
    · exact hp
    · exact absurd rfl hj
    all_goals exact hp) hlo
  exact ⟨N', h1, h2⟩
theorem rCreate_ok {w : World} {H : Hd} {s d : Sta} {T : Nat} {N : Nat → Prop} (h : Duo w H s d T N) (k : Nat) (hE : S.mayV 8 64 d.nx d.V (k : Int) = 0) :
    Calls Tryz.prog 37 #[.pointer (some ⟨H.v, 0, none⟩), .int .i64 (k : Int)] w fun e w' => e = .returned (.tuple #[.int .i64 d.nx, .int .i64 0]) ∧ ∃ N', Duo w' H s { d with nx := d.nx + 1, V := d.V ++ [(d.nx, List.replicate k 0)] } T N' ∧ Went w N w' N' := by
  have hlo := h.lo
  obtain ⟨M, h⟩ := h
  obtain ⟨G, a, cap, col, hr, hm⟩ := h.part 5
  refine (S.rcreate_ok H.base H.v 8 64 d.nx d.V G a cap col k w hr hE).mono ?_
  rintro e w' ⟨G', a', cap', col', rfl, hr', hn, hb⟩
  exact ⟨rfl, rS h hlo hm hr' hn hb⟩
theorem rCreate_bad {w : World} {H : Hd} {s d : Sta} {T : Nat} {N : Nat → Prop} (h : Duo w H s d T N) (size E : Int) (hE : S.mayV 8 64 d.nx d.V size = E) (hn : E ≠ 0) :
    Calls Tryz.prog 37 #[.pointer (some ⟨H.v, 0, none⟩), .int .i64 size] w fun e w' => e = .returned (.tuple #[.int .i64 0, .int .i64 E]) ∧ Below w.heap.size w w' := by
  obtain ⟨G, a, cap, col, hr⟩ := h.rs
  exact S.rcreate_bad H.base H.v 8 64 d.nx d.V G a cap col size E w hr hE hn
theorem rWrite {w : World} {H : Hd} {s d : Sta} {T : Nat} {N : Nat → Prop} (h : Duo w H s d T N) (id off : Int) (da : Option Addr) (k cd : Nat) (D : List Nat) (ho : S.i64ok off) (hR : Row w da k cd (S.u8s D)) (hD : ∀ x ∈ D, x < 256) (hk : k ≤ 140737488355328) (hap : ∀ j, Blk da j → ¬ N j) :
    Calls Tryz.prog 35 #[.pointer (some ⟨H.v, 0, none⟩), .int .i64 id, .int .i64 off, .slice da k cd] w fun e w' => e = .returned (.int .i64 (S.rvE d.V id off (k : Int))) ∧ Duo w' H s { d with V := S.wrV d.V id off D } T N ∧ But N w w' := by
  obtain ⟨M, h⟩ := h
  obtain ⟨G, a, cap, col, hr, hm⟩ := h.part 5
  refine (S.rwrite_any H.base H.v 8 64 d.nx d.V G a cap col id off da k cd D w hr ho hR hD hk (fun _ j hj => Classical.byContradiction fun e => hap j hj (h.sub 5 j (hm j e)))).mono ?_
  rintro e w' ⟨rfl, hr', hb⟩
  exact ⟨rfl, h.stay (i := 5) (hb.mono (fun k hk => hm k hk)) ⟨_, _, _, _, hr', hm⟩ (fun j hj u m hp => by
    rcases j with _ | _ | _ | _ | _ | _ | j
    · exact hp
    · exact hp
    · exact hp
    · exact hp
    · exact hp
    · exact absurd rfl hj
    all_goals exact hp)⟩
theorem noV_at {V : List (Int × List Nat)} (hr : V.Pairwise (fun a b => a.1 < b.1)) {i : Nat} (hi : i < V.length) {id : Int} (e : V[i].1 = id) : noV V id = V.take i ++ V.drop (i + 1) := by
  have hne : ∀ (j : Nat) (hj : j < V.length), j ≠ i → V[j].1 ≠ id := fun j hj hji e2 => by
    rcases Nat.lt_or_gt_of_ne hji with h1 | h1
    · have := List.pairwise_iff_getElem.1 hr j i hj hi h1; omega
    · have := List.pairwise_iff_getElem.1 hr i j hi hj h1; omega
  have e1 : V = V.take i ++ V[i] :: V.drop (i + 1) := by rw [← List.drop_eq_getElem_cons hi, List.take_append_drop]
  conv => lhs; rw [e1]
  unfold noV
  rw [List.filter_append, List.filter_cons_of_neg (by simp [e])]
  congr 1
  · rw [List.filter_eq_self]
    intro x hx
    obtain ⟨j, hj, rfl⟩ := List.getElem_of_mem hx
    rw [List.length_take] at hj
    have := hne j (by omega) (by omega)
    simpa using this
  · rw [List.filter_eq_self]
    intro x hx
    obtain ⟨j, hj, rfl⟩ := List.getElem_of_mem hx
    rw [List.length_drop] at hj
    have := hne (i + 1 + j) (by omega) (by omega)
    simpa using this
theorem rDestroy {w : World} {H : Hd} {s d : Sta} {T : Nat} {N : Nat → Prop} (h : Duo w H s d T N) (id : Int) :
    Calls Tryz.prog 68 #[.pointer (some ⟨H.v, 0, none⟩), .int .i64 id] w fun e w' => ∃ x, e = .returned (.int .i64 x) ∧ ∃ N', Duo w' H s { d with V := noV d.V id } T N' ∧ Went w N w' N' := by
  have hlo := h.lo
  have h0 := h
  obtain ⟨M, h⟩ := h
  obtain ⟨G, a, cap, col, hr, hm⟩ := h.part 5
  refine (S.rdestroy_any H.base H.v 8 64 d.nx d.V G a cap col id w hr).mono ?_
  rintro e w' (⟨hn, rfl, rfl⟩ | ⟨i, hi, e1, rfl, a', cap', col', hr', hn, hb⟩)
  · rw [noV_none hn]
    exact ⟨20, rfl, N, h0, Went.refl _ _⟩
  · refine ⟨0, rfl, ?_⟩
    rw [noV_at hr.rise hi e1]
    exact rS h hlo hm hr' hn (hb.mono (fun k hk => by show col k ≠ 0; rw [hk, hr.k1]; decide))
end Go.Proofs.YtnjadfgfpebkdaaGreat.D
