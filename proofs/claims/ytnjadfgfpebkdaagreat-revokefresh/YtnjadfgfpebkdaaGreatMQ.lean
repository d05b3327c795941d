import Derived.Test.YtnjadfgfpebkdaaGreatA1
import Derived.Maps.RangeWalk
import Derived.Sort.KeysCollected
namespace Go.Proofs.YtnjadfgfpebkdaaGreat.Q
open Go.RowKit Go.Maps
set_option linter.unusedVariables false

/-! ### Lists of numbers, counted -/
theorem nodup_le : ∀ {l m : List Int}, l.Nodup → (∀ x ∈ l, x ∈ m) → l.length ≤ m.length
  | [], _, _, _ => Nat.zero_le _
  | x :: l, m, hn, hs => by
    obtain ⟨h1, h2⟩ := List.nodup_cons.1 hn
    have h3 := nodup_le (m := m.erase x) h2 (fun y hy => (List.mem_erase_of_ne (fun (e : y = x) => h1 (e ▸ hy))).2 (hs y (by simp [hy])))
    have hx := hs x (by simp)
    rw [List.length_erase_of_mem hx] at h3
    have := List.length_pos_of_mem hx
    simp
    omega
/-- The counts of the numbers of zs, together. -/
def csum (L zs : List Int) : Nat := (zs.map fun x => L.count x).sum
theorem csum_cons (L : List Int) (x : Int) (zs : List Int) : csum L (x :: zs) = L.count x + csum L zs := by simp [csum]
theorem csum_snoc (L zs : List Int) (x : Int) : csum L (zs ++ [x]) = csum L zs + L.count x := by simp [csum]
theorem csum_off (L : List Int) (x : Int) (zs : List Int) (h : x ∉ zs) : csum (L.filter (fun y => y != x)) zs = csum L zs := by
  unfold csum
  congr 1
  apply List.map_congr_left
  intro y hy
  exact List.count_filter (by simp; exact fun e => h (e ▸ hy))
theorem length_off (L : List Int) (x : Int) : L.length = L.count x + (L.filter (fun y => y != x)).length := by
  induction L with
  | nil => rfl
  | cons a L ih =>
    by_cases h : a = x
    · subst h; simp; omega
    · simp [h]; omega
theorem csum_le : ∀ {zs L : List Int}, zs.Nodup → csum L zs ≤ L.length
  | [], L, _ => by simp [csum]
  | x :: zs, L, hn => by
    obtain ⟨h1, h2⟩ := List.nodup_cons.1 hn
    have h3 := csum_le (L := L.filter (fun y => y != x)) h2
    rw [csum_off L x zs h1] at h3
    rw [csum_cons, length_off L x]
    omega
theorem csum_all : ∀ {zs L : List Int}, zs.Nodup → (∀ x ∈ L, x ∈ zs) → csum L zs = L.length
  | [], L, _, h => by
    cases L with
    | nil => rfl
    | cons a L => exact absurd (h a (by simp)) (by simp)
  | x :: zs, L, hn, h => by
    obtain ⟨h1, h2⟩ := List.nodup_cons.1 hn
    have h3 := csum_all (L := L.filter (fun y => y != x)) h2 (fun y hy => by
      simp at hy
      have := h y hy.1
      simp at this
      rcases this with e | e
      · exact absurd e hy.2
      · exact e)
    rw [csum_off L x zs h1] at h3
    rw [csum_cons, length_off L x, h3]
/-! ### The numbers of a list in order, each once -/
def dd : List Int → List Int
  | [] => []
  | x :: l => if x ∈ l then dd l else x :: dd l
theorem dd_mem : ∀ (l : List Int) (x : Int), x ∈ dd l ↔ x ∈ l
  | [], _ => Iff.rfl
  | y :: l, x => by
    unfold dd
    split
    · rename_i h
      rw [dd_mem l x, List.mem_cons]
      exact ⟨.inr, fun e => by rcases e with e | e; exact e ▸ h; exact e⟩
    · rw [List.mem_cons, List.mem_cons, dd_mem l x]
theorem dd_nodup : ∀ l : List Int, (dd l).Nodup
  | [] => List.nodup_nil
  | y :: l => by
    unfold dd
    split
    · exact dd_nodup l
    · rename_i h
      exact List.nodup_cons.2 ⟨fun e => h ((dd_mem l y).1 e), dd_nodup l⟩
abbrev leI : Int → Int → Bool := fun x y => decide (x ≤ y)
theorem sorted_lt {l : List Int} (h : l.Nodup) : (l.mergeSort leI).Pairwise (· < ·) := by
  have h1 := List.pairwise_mergeSort (le := leI) (fun a b c h1 h2 => by simp [leI] at *; omega) (fun a b => by simp [leI]; omega) l
  have h2 : (l.mergeSort leI).Nodup := ((List.mergeSort_perm l leI).nodup_iff).2 h
  refine (h1.and h2).imp (fun {a b} hab => ?_)
  have h3 := of_decide_eq_true hab.1
  have h4 := hab.2
  omega
def ob (L : List Int) : List Int := (dd L).mergeSort leI
theorem ob_mem (L : List Int) (x : Int) : x ∈ ob L ↔ x ∈ L := by
  unfold ob
  rw [(List.mergeSort_perm (dd L) leI).mem_iff, dd_mem]
theorem ob_lt (L : List Int) : (ob L).Pairwise (· < ·) := sorted_lt (dd_nodup L)
theorem lt_nodup {A : List Int} (h : A.Pairwise (· < ·)) : A.Nodup := h.imp (fun {a b} hab => by omega)
theorem lt_one {A B : List Int} (hA : A.Pairwise (· < ·)) (hB : B.Pairwise (· < ·)) (h : ∀ x, x ∈ A ↔ x ∈ B) : A = B :=
  List.Perm.eq_of_pairwise (le := fun a b : Int => a < b) (fun a b _ _ h1 h2 => by omega) hA hB ((List.perm_ext_iff_of_nodup (lt_nodup hA) (lt_nodup hB)).2 h)
theorem ob_nodup (L : List Int) : (ob L).Nodup := lt_nodup (ob_lt L)
theorem ob_len (L : List Int) : (ob L).length ≤ L.length := nodup_le (ob_nodup L) (fun x hx => (ob_mem L x).1 hx)
theorem ob_sort {L zs : List Int} (h : zs.Nodup) (hm : ∀ x, x ∈ zs ↔ x ∈ L) : zs.mergeSort leI = ob L :=
  lt_one (sorted_lt h) (ob_lt L) (fun x => by rw [(List.mergeSort_perm zs leI).mem_iff, hm, ob_mem])
theorem ob_sum (L : List Int) : csum L (ob L) = L.length := csum_all (ob_nodup L) (fun x hx => (ob_mem L x).2 hx)
/-! ### What the calls do -/
/-- n fewer of x. -/
def subL (x : Int) : Nat → List Int → List Int
  | _, [] => []
  | 0, y :: l => y :: l
  | n + 1, y :: l => if y = x then subL x n l else y :: subL x (n + 1) l
theorem subL_zero (x : Int) (l : List Int) : subL x 0 l = l := by cases l <;> rfl
theorem subL_count : ∀ (x : Int) (n : Nat) (l : List Int), (subL x n l).count x = l.count x - n
  | x, n, [] => by cases n <;> simp [subL]
  | x, 0, y :: l => by simp [subL]
  | x, n + 1, y :: l => by
    unfold subL
    split
    · rename_i h
      subst h
      rw [subL_count]
      simp
    · rename_i h
      rw [List.count_cons_of_ne h, List.count_cons_of_ne h, subL_count]
theorem subL_other : ∀ (x : Int) (n : Nat) (l : List Int) (y : Int), y ≠ x → (subL x n l).count y = l.count y
  | x, n, [], y, h => by cases n <;> simp [subL]
  | x, 0, z :: l, y, h => by simp [subL]
  | x, n + 1, z :: l, y, h => by
    unfold subL
    split
    · rename_i e
      subst e
      rw [subL_other _ n l y h, List.count_cons_of_ne (fun e => h e.symm)]
    · rw [List.count_cons, List.count_cons, subL_other x (n + 1) l y h]
theorem subL_len : ∀ (x : Int) (n : Nat) (l : List Int), n ≤ l.count x → (subL x n l).length + n = l.length
  | x, n, [], h => by simp at h; subst h; rfl
  | x, 0, y :: l, h => by simp [subL]
  | x, n + 1, y :: l, h => by
    unfold subL
    split
    · rename_i e
      subst e
      simp at h
      have := subL_len y n l h
      simp
      omega
    · rename_i e
      rw [List.count_cons_of_ne e] at h
      have := subL_len x (n + 1) l h
      simp
      omega
def may (e a : Int) (L : List Int) (x : Int) : Int := if e ≤ (L.count x : Int) then 9 else if a ≤ (L.length : Int) then 10 else 0
def addL (e a : Int) (L : List Int) (x : Int) : List Int := if may e a L x = 0 then L ++ [x] else L
def subO (L : List Int) (x n : Int) : Int := if n < 0 ∨ (L.count x : Int) < n then 20 else 0
def subS (L : List Int) (x n : Int) : List Int := if n < 0 ∨ (L.count x : Int) < n then L else subL x n.toNat L
/-- Nothing is above its bound. -/
structure Sz (e a : Int) (L : List Int) : Prop where
  e1 : 1 ≤ e
  e2 : e ≤ 256
  a1 : 1 ≤ a
  a2 : a ≤ 256
  len : (L.length : Int) ≤ a
  cnt : ∀ x, (L.count x : Int) ≤ e
theorem may_zero {e a : Int} {L : List Int} {x : Int} (h : may e a L x = 0) : (L.count x : Int) < e ∧ (L.length : Int) < a := by
  unfold may at h
  split at h
  · cases h
  · split at h
    · cases h
    · omega
theorem Sz.add {e a : Int} {L : List Int} (h : Sz e a L) (x : Int) : Sz e a (addL e a L x) := by
  unfold addL
  split
  · rename_i hm
    obtain ⟨h1, h2⟩ := may_zero hm
    refine ⟨h.e1, h.e2, h.a1, h.a2, by simp; omega, fun y => ?_⟩
    by_cases e : y = x
    · subst e; simp; omega
    · have := h.cnt y
      have e2 : (L ++ [x]).count y = L.count y := by simp [List.count_append, Ne.symm e]
      rw [e2]; exact this
  · exact h
theorem Sz.sub {e a : Int} {L : List Int} (h : Sz e a L) (x n : Int) : Sz e a (subS L x n) := by
  unfold subS
  split
  · exact h
  · rename_i hn
    have hl := subL_len x n.toNat L (by omega)
    refine ⟨h.e1, h.e2, h.a1, h.a2, by have := h.len; omega, fun y => ?_⟩
    by_cases e : y = x
    · subst e; rw [subL_count]; have := h.cnt y; omega
    · rw [subL_other _ _ _ _ e]; exact h.cnt y
end Go.Proofs.YtnjadfgfpebkdaaGreat.Q
namespace Go.Proofs.YtnjadfgfpebkdaaGreat.Q
open Go.RowKit Go.Maps
set_option linter.unusedVariables false

theorem law : Keyed Tryz.prog 3 := int_keyed Tryz.underlying3
theorem zeroE (w : World) : (zeroValue 3).run Tryz.prog w = .ok (.int .i64 0) w := by kernel_rfl
/-- A number's key. -/
abbrev ky (x : Int) : Lit := .int .i64 x
abbrev nu (x : Int) : DataW Unit := .lit (.int .i64 x)
theorem ky_ne {x y : Int} (h : x ≠ y) : ky x ≠ ky y := fun e => h (by simpa [ky] using e)
theorem ky_lit {x : Int} (h : (Lit.int .i64 x).wf = true) : WideAt.IsKeyLit (ky x) := law.key (keyOf_int_mk Tryz.underlying3 h)
/-- The datum counts the list. -/
structure Cn (D : DataW Unit) (L : List Int) : Prop where
  at_ : ∀ x, D.atKey (ky x) (nu 0) = nu (L.count x : Int)
  has : ∀ x, Maps.has D (ky x) = decide (x ∈ L)
  map : IsMap D
theorem Cn.start : Cn (.map []) [] := ⟨fun x => rfl, fun x => by simp [Maps.has], isMap_empty⟩
theorem Cn.put {D : DataW Unit} {L M : List Int} (h : Cn D L) {x c : Int} (hx : (Lit.int .i64 x).wf = true) (ho : ∀ y, y ≠ x → M.count y = L.count y) (hc : (M.count x : Int) = c) (h0 : 0 < c) : Cn (D.put (ky x) (nu c)) M := by
  refine ⟨fun y => ?_, fun y => ?_, h.map.put _ _⟩
  · by_cases e : y = x
    · subst e; rw [atKey_put_same h.map (ky_lit hx), hc]
    · rw [atKey_put_other (ky_ne e), h.at_ y, ho y e]
  · by_cases e : y = x
    · subst e
      rw [has_put_same h.map (ky_lit hx)]
      exact (decide_eq_true (List.count_pos_iff.1 (by omega))).symm
    · rw [has_put_other (ky_ne e), h.has y]
      have h1 := ho y e
      congr 1
      rw [← List.count_pos_iff, ← List.count_pos_iff, h1]
theorem Cn.del {D : DataW Unit} {L M : List Int} (h : Cn D L) {x : Int} (ho : ∀ y, y ≠ x → M.count y = L.count y) (hc : M.count x = 0) : Cn (D.del (ky x)) M := by
  refine ⟨fun y => ?_, fun y => ?_, h.map.del _⟩
  · by_cases e : y = x
    · subst e; rw [atKey_del_same, hc]; rfl
    · rw [atKey_del_other (ky_ne e), h.at_ y, ho y e]
  · by_cases e : y = x
    · subst e
      rw [has_del_same]
      exact (decide_eq_false (fun hm => by have := List.count_pos_iff.2 hm; omega)).symm
    · rw [has_del_other (ky_ne e), h.has y]
      have h1 := ho y e
      congr 1
      rw [← List.count_pos_iff, ← List.count_pos_iff, h1]
def keyInt : Lit → Int
  | .int _ x => x
  | _ => 0
abbrev owns (w : World) (b n : Nat) (D : DataW Unit) : Prop := w.ownsMap Tryz.prog 3 (plainElem Tryz.prog 3) b n D
theorem size_cn {w : World} {b n : Nat} {D : DataW Unit} {L : List Int} (h : owns w b n D) (hc : Cn D L) : Maps.size D ≤ L.length := by
  obtain ⟨es, hD, hpw, _⟩ := h.entries law
  obtain ⟨es', hD', hko⟩ := h.keysOf
  obtain rfl : es = es' := by rw [hD] at hD'; simpa using hD'
  subst hD
  have hk : ∀ p ∈ es, ∃ x, p.1 = ky x := fun p hp => by
    obtain ⟨v, hv⟩ := hko p hp
    obtain ⟨x, _, hx, _⟩ := Maps.keyOf_int_inv Tryz.underlying3 hv
    exact ⟨x, hx⟩
  have h1 : (es.map fun p => keyInt p.1).Nodup := List.pairwise_map.2 (hpw.imp_of_mem fun {p q} hp hq hne e => hne (by
    obtain ⟨a, ha⟩ := hk p hp
    obtain ⟨b, hb⟩ := hk q hq
    rw [ha, hb] at e ⊢
    exact congrArg _ e))
  have h2 := nodup_le (m := L) h1 (fun x hx => by
    obtain ⟨p, hp, rfl⟩ := List.mem_map.1 hx
    obtain ⟨a, ha⟩ := hk p hp
    rw [ha]
    have h3 := hc.has a
    have h4 : Maps.has (DataW.map es) (ky a) = true := by
      rw [has_eq, List.any_eq_true]
      exact ⟨p, hp, by rw [ha]; simp [Lit.sameKey]⟩
    rw [h4] at h3
    exact of_decide_eq_true h3.symm)
  rw [List.length_map] at h2
  exact h2
theorem tight {w : World} {b n : Nat} {D : DataW Unit} {L : List Int} (h : owns w b n D) (hc : Cn D L) : owns w b L.length D := by
  have hs := size_cn h hc
  obtain ⟨es, clock, hb, F, _, rfl⟩ := h
  refine ⟨es, clock, hb, F, ?_, rfl⟩
  simpa [Maps.size, length_sorted] using hs
/-- Block b is a map that counts the list. -/
def Mp (w : World) (b : Nat) (L : List Int) : Prop := ∃ D, owns w b L.length D ∧ Cn D L
theorem owns_but {S : Nat → Prop} {w w' : World} {b n : Nat} {D : DataW Unit} (hb : But S w w') (h : owns w b n D) (hn : ¬ S b) : owns w' b n D := by
  have hlt := h.lt
  obtain ⟨es, clock, hh, r⟩ := h
  exact ⟨es, clock, (hb.block b hlt hn).trans hh, r⟩
theorem Mp.but {S : Nat → Prop} {w w' : World} {b : Nat} {L : List Int} (h : Mp w b L) (hb : But S w w') (hn : ¬ S b) : Mp w' b L := by
  obtain ⟨D, h1, h2⟩ := h
  exact ⟨D, owns_but hb h1 hn, h2⟩
theorem Mp.lt {w : World} {b : Nat} {L : List Int} (h : Mp w b L) : b < w.heap.size := by
  obtain ⟨D, h1, _⟩ := h
  exact h1.lt
/-- A quota in memory: its struct lies in block g, its map in block b. -/
structure Qu (w : World) (g b : Nat) (e a : Int) (L : List Int) : Prop where
  c0 : w.cell? ⟨g, 0, none⟩ = some (.int .i64 e)
  c1 : w.cell? ⟨g, 1, none⟩ = some (.int .i64 a)
  c2 : w.cell? ⟨g, 2, none⟩ = some (.map (some b))
  mp : Mp w b L
  sz : Sz e a L
theorem Qu.but {S : Nat → Prop} {w w' : World} {g b : Nat} {e a : Int} {L : List Int} (h : Qu w g b e a L) (hb : But S w w') (hg : ¬ S g) (hn : ¬ S b) : Qu w' g b e a L :=
  ⟨cell_but hb h.c0 hg, cell_but hb h.c1 hg, cell_but hb h.c2 hg, h.mp.but hb hn, h.sz⟩
theorem Qu.later {w w' : World} {g b : Nat} {e a : Int} {L : List Int} (h : Qu w g b e a L) (hb : Below w.heap.size w w') : Qu w' g b e a L := h.but (S := fun _ => False) (But.of hb) (fun h => h) (fun h => h)
theorem Qu.gb {w : World} {g b : Nat} {e a : Int} {L : List Int} (h : Qu w g b e a L) : g ≠ b := fun eq => by
  obtain ⟨D, ⟨es, clock, hh, _⟩, _⟩ := h.mp
  have := h.c0
  rw [eq] at this
  simp [World.cell?, hh] at this
theorem Qu.glt {w : World} {g b : Nat} {e a : Int} {L : List Int} (h : Qu w g b e a L) : g < w.heap.size := World.block_lt_of_cell? _ _ h.c0
theorem Qu.blt {w : World} {g b : Nat} {e a : Int} {L : List Int} (h : Qu w g b e a L) : b < w.heap.size := h.mp.lt
/-- Behind a store into the map. -/
theorem Qu.turn {w w' : World} {g b : Nat} {e a : Int} {L M : List Int} {n : Nat} {D : DataW Unit} (h : Qu w g b e a L) (hg : w.grownBy w' (some b)) (ho : owns w' b n D) (hc : Cn D M) (hs : Sz e a M) : Qu w' g b e a M ∧ But (fun k => k = b) w w' := by
  have hB : But (fun k => k = b) w w' := ⟨hg.os, hg.tape, hg.output, hg.size, fun k hk hn => hg.block k hk (fun e => hn (by simpa using e))⟩
  exact ⟨⟨cell_but hB h.c0 h.gb, cell_but hB h.c1 h.gb, cell_but hB h.c2 h.gb, ⟨D, tight ho hc, hc⟩, hs⟩, hB⟩
/-! ### A range over the map -/
def Coll (D : DataW Unit) (left : Lit → Bool) (zs : List Int) : Prop := zs.Nodup ∧ ∀ x, x ∈ zs ↔ (Maps.has D (ky x) = true ∧ left (ky x) = false)
theorem Coll.start (D : DataW Unit) : Coll D (Maps.has D) [] := ⟨List.nodup_nil, fun x => by cases Maps.has D (ky x) <;> simp⟩
theorem Coll.step {D : DataW Unit} {left : Lit → Bool} {zs : List Int} (h : Coll D left zs) {x : Int} {y : DataW Unit} (hlk : left (ky x) = true) (hat : ∀ zd, D.atKey (ky x) zd = y) : Coll D (fun z => left z && !z.sameKey (ky x)) (zs ++ [x]) := by
  have hhas : Maps.has D (ky x) = true := has_true_of_atKey hat
  have hnew : x ∉ zs := fun hx => by have := ((h.2 x).1 hx).2; rw [hlk] at this; cases this
  refine ⟨List.nodup_append.2 ⟨h.1, by simp, fun a ha b hb => by simp at hb; subst hb; exact fun e => hnew (e ▸ ha)⟩, fun y => ?_⟩
  by_cases hy : y = x
  · subst hy; simp [hhas, Lit.sameKey]
  · simp [h.2 y, hy, Lit.sameKey]
theorem Coll.mem {D : DataW Unit} {left : Lit → Bool} {zs L : List Int} (h : Coll D left zs) (hc : Cn D L) {x : Int} (hx : x ∈ zs) : x ∈ L := by
  have h1 := ((h.2 x).1 hx).1
  rw [hc.has x] at h1
  exact of_decide_eq_true h1
theorem Coll.all {D : DataW Unit} {left : Lit → Bool} {zs L : List Int} (h : Coll D left zs) (hc : Cn D L) (hl : ∀ kl, left kl = false) (x : Int) : x ∈ zs ↔ x ∈ L := by
  rw [h.2 x, hc.has x, hl]
  simp
end Go.Proofs.YtnjadfgfpebkdaaGreat.Q
namespace Go.Proofs.YtnjadfgfpebkdaaGreat.Q
open Go.RowKit Go.Maps
set_option linter.unusedVariables false

theorem wf_of {x : Int} (h1 : -9223372036854775808 ≤ x) (h2 : x ≤ 9223372036854775807) : (Lit.int .i64 x).wf = true := WalkArith.wf_i64 (by omega)
theorem nu_inj {x y : Int} (h : nu x = nu y) : x = y := by simpa [nu] using h
set_option maxRecDepth 100000 in
set_option maxHeartbeats 1000000 in
theorem of_any {w : World} {g b : Nat} {e a : Int} {L : List Int} (h : Qu w g b e a L) (x : Int) (hx : (Lit.int .i64 x).wf = true) :
    Calls Tryz.prog 19 #[.pointer (some ⟨g, 0, none⟩), .int .i64 x] w fun r w' => r = .returned (.int .i64 (L.count x : Int)) ∧ w' = w := by
  obtain ⟨c0, c1, c2, ⟨D, hown, hcn⟩, hsz⟩ := h
  have HC := hid hcn
  clear hcn hsz
  go_enter Tryz.func19, Tryz.ntmps19
  go_wp2_with (first | (at_lookup; refine wpList_lookup_own_int _ rfl _ _ 133 rfl 3 3 .i64 law Tryz.underlying133 Tryz.underlying3 (zeroE _) b _ _ rfl hown _ _ rfl (keyOf_int_mk Tryz.underlying3 hx) ?_; intro c hat hwc; have HA := hid hat; clear hat))
  go_ret
  refine ⟨ret_int ?_, rfl⟩
  have h1 := HA.out
  rw [HC.out.at_ x] at h1
  exact (nu_inj h1).symm
/-- How far All has come. -/
def AllRel (w : World) (b : Nat) (L : List Int) (D : DataW Unit) (s : Value) (w' : World) : Prop :=
  ∃ left cnt zs, s = .int .i64 (csum L zs : Int) ∧ w'.ranges Tryz.prog 3 (plainElem Tryz.prog 3) b w.heap.size L.length D left cnt ∧ Coll D left zs ∧ Below w.heap.size w w'
set_option maxRecDepth 100000 in
set_option maxHeartbeats 1000000 in
theorem all_any {w : World} {g b : Nat} {e a : Int} {L : List Int} (h : Qu w g b e a L) :
    Calls Tryz.prog 27 #[.pointer (some ⟨g, 0, none⟩)] w fun r w' => r = .returned (.int .i64 (L.length : Int)) ∧ Below w.heap.size w w' := by
  obtain ⟨c0, c1, c2, ⟨D, hown, hcn⟩, hsz⟩ := h
  have HC := hid hcn
  have hll := hsz.len
  have ha2 := hsz.a2
  clear hcn hsz
  go_enter Tryz.func27, Tryz.ntmps27
  go_upto_region 3 with (first | (at_range; refine wpList_range_own _ rfl _ 133 rfl 3 3 law Tryz.underlying133 _ b _ _ rfl hown ?_; intro w0 hrg0 hg0 hs0; clear hs0))
  go_frame
  go_loopw [3] (AllRel w b L D) (fun _ wr => wr.rangeLeft b w.heap.size)
  case atStart => exact ⟨_, _, [], rfl, hrg0, Coll.start D, below_grown (Below.refl _ _) hg0 (fun k hk => by cases hk)⟩
  case round =>
    clear hrg0 hg0
    obtain ⟨left, cnt, zs, rfl, hrg, hcoll, hbel⟩ := hrel
    have HO := hid hcoll
    have HB := hid hbel
    have HS := hid (csum_le (L := L) hcoll.1)
    clear hcoll hbel
    go_wp2_with (first | (at_next; refine wpList_next_ranges_ii _ rfl _ rfl 3 3 .i64 .i64 law Tryz.underlying3 Tryz.underlying3 b w.heap.size _ _ _ _ rfl hrg ?_ ?_))
    · intro _ hl0
      have HL := hid hl0
      clear hl0
      go_wp2
      go_ret
      refine ⟨ret_int ?_, HB.out⟩
      have h1 := csum_all (L := L) HO.out.1 (fun x hx => (HO.out.all HC.out HL.out x).2 hx)
      rw [h1]
    · intro x c w1 cnt1 hwx hwc hlx hat hrg1 hlt hg1 hs1 hen
      have hcx : c = (L.count x : Int) := by
        have h1 := hat (nu 0)
        rw [HC.out.at_ x] at h1
        exact (nu_inj h1).symm
      have hO1 := HO.out.step hlx hat
      have HS1 := hid (csum_le (L := L) hO1.1)
      have hsn := csum_snoc L zs x
      have hm : w1.rangeLeft b w.heap.size < wr.rangeLeft b w.heap.size := by rw [hrg1.left_eq, hrg.left_eq]; exact hlt
      have HN : Hid (AllRel w b L D (.int .i64 ((csum L zs : Int) + c)) w1) := ⟨_, _, zs ++ [x], by rw [hsn, hcx]; rfl, hrg1, hO1, HB.out.grown hg1 HB.out.size (fun k hk => by cases hk; exact Nat.le_refl _)⟩
      have hw : wrap64 ((csum L zs : Int) + c) = (csum L zs : Int) + c := by
        have := HS1.out
        rw [hsn] at this
        unfold wrap64; omega
      clear hs1 hat hO1 hrg hrg1 hg1 hlt hlx hsn hcx
      go_wp2
      refine ⟨?_, hm⟩
      rw [hw]
      exact HN.out
end Go.Proofs.YtnjadfgfpebkdaaGreat.Q
namespace Go.Proofs.YtnjadfgfpebkdaaGreat.Q
open Go.RowKit Go.Maps
set_option linter.unusedVariables false

set_option maxRecDepth 100000 in
set_option maxHeartbeats 1000000 in
theorem may_any {w : World} {g b : Nat} {e a : Int} {L : List Int} (h : Qu w g b e a L) (x : Int) (hx : (Lit.int .i64 x).wf = true) :
    Calls Tryz.prog 87 #[.pointer (some ⟨g, 0, none⟩), .int .i64 x] w fun r w' => r = .returned (.int .i64 (may e a L x)) ∧ Below w.heap.size w w' := by
  have hof := hid (fun (U : World) (hU : Below w.heap.size w U) => of_any (h.later hU) x hx)
  have hal := hid (fun (U : World) (hU : Below w.heap.size w U) => all_any (h.later hU))
  have hm : Hid (may e a L x = if e ≤ (L.count x : Int) then 9 else if a ≤ (L.length : Int) then 10 else 0) := rfl
  have hC0 : Hid (∀ U : World, Below w.heap.size w U → (U.cell? ⟨g, 0, none⟩ = some (.int .i64 e)) ∧ Below w.heap.size w U) := fun U hU => ⟨cell_later hU h.c0, hU⟩
  have hC1 : Hid (∀ U : World, Below w.heap.size w U → (U.cell? ⟨g, 1, none⟩ = some (.int .i64 a)) ∧ Below w.heap.size w U) := fun U hU => ⟨cell_later hU h.c1, hU⟩
  clear h
  generalize (L.count x : Int) = c at *
  generalize (L.length : Int) = l at *
  have hr1 : Hid (e ≤ c → may e a L x = 9) := fun h1 => by rw [hm.out, if_pos h1]
  have hr2 : Hid (c < e → a ≤ l → may e a L x = 10) := fun h1 h2 => by rw [hm.out, if_neg (by omega), if_pos h2]
  have hr3 : Hid (c < e → l < a → may e a L x = 0) := fun h1 h2 => by rw [hm.out, if_neg (by omega), if_neg (by omega)]
  clear hm
  generalize may e a L x = mm at *
  go_enter Tryz.func87, Tryz.ntmps87
  go_upto_region 1 with fail
  go_region_held3 (fun U => (U.cell? ⟨g, 0, none⟩ = some (.int .i64 e)) ∧ Below w.heap.size w U) (first | exact hC0.out _ HB2.out | exact hC0.out _ (Below.refl _ _).drew) (first
    | (go_at_call 19; refine (hof.out _ (Below.refl _ _).drew).mono ?_; rintro e w2 ⟨rfl, hw2⟩; have HB2 : Hid (Below w.heap.size w w2) := (by unfold Hid; rw [hw2]; exact (Below.refl _ _).drew); clear hw2))
  by_cases h1 : e ≤ c
  · have hd : decide (c ≥ e) = true := decide_eq_true h1
    go_wp2
    go_ret
    exact ⟨by rw [hr1.out (by omega)]; rfl, HB2.out⟩
  · have hd : decide (c ≥ e) = false := decide_eq_false h1
    go_upto_region 3 with fail
    go_region_held3 (fun U => (U.cell? ⟨g, 1, none⟩ = some (.int .i64 a)) ∧ Below w.heap.size w U) (first | exact hC1.out _ HB3.out | exact hC1.out _ HB2.out.drew) (first
      | (go_at_call 27; refine (hal.out _ HB2.out.drew).mono ?_; rintro e w3 ⟨rfl, hb3⟩; have HB3 := hid (below_call HB2.out.drew hb3); clear hb3))
    by_cases h2 : a ≤ l
    · have hd : decide (l ≥ a) = true := decide_eq_true h2
      go_wp2
      go_ret
      exact ⟨by rw [hr2.out (by omega) (by omega)]; rfl, HB3.out⟩
    · have hd : decide (l ≥ a) = false := decide_eq_false h2
      go_wp2
      go_ret
      exact ⟨by rw [hr3.out (by omega) (by omega)]; rfl, HB3.out⟩
set_option maxRecDepth 100000 in
set_option maxHeartbeats 1000000 in
theorem add_any {w : World} {g b : Nat} {e a : Int} {L : List Int} (h : Qu w g b e a L) (x : Int) (hx : (Lit.int .i64 x).wf = true) :
    Calls Tryz.prog 40 #[.pointer (some ⟨g, 0, none⟩), .int .i64 x] w fun r w' => r = .returned (.int .i64 (may e a L x)) ∧ Qu w' g b e a (addL e a L x) ∧ But (fun k => k = b) w w' := by
  have hma := hid (may_any h x hx)
  by_cases hm : may e a L x = 0
  · have hA : addL e a L x = L ++ [x] := by unfold addL; rw [if_pos hm]
    have hS := hid (hA ▸ h.sz.add x)
    obtain ⟨h1, h2⟩ := may_zero hm
    have h3 := h.sz.e2
    rw [hm] at hma ⊢
    rw [hA]
    have hl1 := h.sz.len
    have hl2 := h.sz.a2
    have hQ := hid (fun (U : World) (hU : Below w.heap.size w U) => h.later hU)
    clear h hA hm
    go_enter Tryz.func40, Tryz.ntmps40
    go_upto_region 2 with (first | (go_at_call 87; refine hma.out.mono ?_; rintro e w1 ⟨rfl, hb1⟩; have HB1 := hid hb1; clear hb1))
    have HQ1 := hid (hQ.out _ HB1.out)
    obtain ⟨c0, c1, c2, ⟨D, hown, hcn⟩, _⟩ := HQ1.out
    have HC := hid hcn
    have hlm : L.length < maxLen := by unfold maxLen; omega
    clear hcn
    go_wp2_with (first
      | (at_lookup; refine wpList_lookup_own_int _ rfl _ _ 133 rfl 3 3 .i64 law Tryz.underlying133 Tryz.underlying3 (zeroE _) b _ _ rfl hown _ _ rfl (keyOf_int_mk Tryz.underlying3 hx) ?_; intro c hat hwc; have HA := hid hat; clear hat)
      | (at_mapUpdate; refine wpList_mapUpdate_own _ rfl _ _ _ 133 rfl 3 3 law Tryz.underlying133 _ b _ _ rfl hown hlm _ _ _ rfl rfl (keyOf_int_mk Tryz.underlying3 hx) _ [] (plainElem_int Tryz.underlying3 (wrap64_wf _)) ?_; intro w2 hown2 hg2; have HO2 := hid hown2; have HG2 := hid hg2; clear hown2 hg2))
    go_ret
    have hc := HA.out
    rw [HC.out.at_ x] at hc
    have hc := nu_inj hc
    have hw : wrap64 (c + 1) = c + 1 := by unfold wrap64; omega
    have ho := HO2.out
    rw [hw] at ho
    have hcn2 := HC.out.put (M := L ++ [x]) (x := x) (c := c + 1) hx (fun y hy => by simp [List.count_append, Ne.symm hy]) (by simp [List.count_append]; omega) (by omega)
    obtain ⟨r1, r2⟩ := HQ1.out.turn HG2.out ho hcn2 hS.out
    exact ⟨rfl, r1, (But.of HB1.out).trans r2⟩
  · have hA : addL e a L x = L := by unfold addL; rw [if_neg hm]
    rw [hA]
    have hQ := hid (fun (U : World) (hU : Below w.heap.size w U) => h.later hU)
    clear h hA
    generalize may e a L x = mm at *
    have hd : (mm != 0) = true := by simp [hm]
    go_enter Tryz.func40, Tryz.ntmps40
    go_wp2_with (first | (go_at_call 87; refine hma.out.mono ?_; rintro e w1 ⟨rfl, hb1⟩; have HB1 := hid hb1; clear hb1))
    go_ret
    exact ⟨rfl, hQ.out _ HB1.out, But.of HB1.out⟩
end Go.Proofs.YtnjadfgfpebkdaaGreat.Q
namespace Go.Proofs.YtnjadfgfpebkdaaGreat.Q
open Go.RowKit Go.Maps
set_option linter.unusedVariables false

set_option maxRecDepth 100000 in
set_option maxHeartbeats 1000000 in
theorem sub_any {w : World} {g b : Nat} {e a : Int} {L : List Int} (h : Qu w g b e a L) (x n : Int) (hx : (Lit.int .i64 x).wf = true) :
    Calls Tryz.prog 99 #[.pointer (some ⟨g, 0, none⟩), .int .i64 x, .int .i64 n] w fun r w' => r = .returned (.int .i64 (subO L x n)) ∧ Qu w' g b e a (subS L x n) ∧ But (fun k => k = b) w w' := by
  have hof := hid (of_any h x hx)
  have HQ := hid h
  have hS := hid (h.sz.sub x n)
  have hl1 := h.sz.len
  have hl2 := h.sz.a2
  have hcl := h.sz.cnt x
  have he2 := h.sz.e2
  have hlm : L.length < maxLen := by unfold maxLen; omega
  obtain ⟨c0, c1, c2, ⟨D, hown, hcn⟩, _⟩ := h
  have HC := hid hcn
  clear hcn
  obtain ⟨c, hc⟩ : ∃ c : Int, c = (L.count x : Int) := ⟨_, rfl⟩
  have HCC := hid hc
  have hc0 : 0 ≤ c := by omega
  have hc9 : c ≤ 256 := by omega
  rw [← hc] at hof
  by_cases h1 : n < 0 ∨ c < n
  · have hR : subO L x n = 20 ∧ subS L x n = L := by unfold subO subS; rw [← hc, if_pos h1, if_pos h1]; exact ⟨rfl, rfl⟩
    rw [hR.1, hR.2]
    clear hc hcl hS hR
    go_enter Tryz.func99, Tryz.ntmps99
    go_upto_region 2 with (first | (go_at_call 19; refine hof.out.mono ?_; rintro e w1 ⟨rfl, hw1⟩; obtain rfl := hw1.symm; clear hw1))
    by_cases h2 : n < 0
    · have hd : decide (n < 0) = true := decide_eq_true h2
      go_wp2
      go_ret
      exact ⟨rfl, HQ.out, But.refl _ _⟩
    · have hd : decide (n < 0) = false := decide_eq_false h2
      have hd2 : decide (n > c) = true := decide_eq_true (by omega)
      have h3 : c < n := by omega
      go_wp2
      go_ret
      exact ⟨rfl, HQ.out, But.refl _ _⟩
  · have hR : subO L x n = 0 ∧ subS L x n = subL x n.toNat L := by unfold subO subS; rw [← hc, if_neg h1, if_neg h1]; exact ⟨rfl, rfl⟩
    rw [hR.2] at hS
    rw [hR.1, hR.2]
    have HO := hid (subL_other x n.toNat L)
    have HN := hid (subL_count x n.toNat L)
    clear hc hcl hR
    have hd : decide (n < 0) = false := decide_eq_false (by omega)
    have hd2 : decide (n > c) = false := decide_eq_false (by omega)
    have hn0 : 0 ≤ n := by omega
    have hnc : n ≤ c := by omega
    clear h1
    by_cases h2 : n = c
    · subst h2
      go_enter Tryz.func99, Tryz.ntmps99
      go_wp2_with (first
        | (go_at_call 19; refine hof.out.mono ?_; rintro e w1 ⟨rfl, hw1⟩; obtain rfl := hw1.symm; clear hw1)
        | (at_delete; refine wpList_delete_own _ rfl _ _ 133 3 rfl 3 law Tryz.underlying133 _ b _ _ rfl hown _ _ rfl (keyOf_int_mk Tryz.underlying3 hx) ?_; intro w2 hown2 ht2; have HO2 := hid hown2; have HT2 := hid ht2; clear hown2 ht2))
      go_ret
      have hcn2 := HC.out.del (M := subL x n.toNat L) (x := x) HO.out (by rw [HN.out]; have := HCC.out; omega)
      obtain ⟨r1, r2⟩ := HQ.out.turn HT2.out.grown HO2.out hcn2 hS.out
      exact ⟨rfl, r1, r2⟩
    · have hd3 : (n == c) = false := by simp [h2]
      go_enter Tryz.func99, Tryz.ntmps99
      go_wp2_with (first
        | (go_at_call 19; refine hof.out.mono ?_; rintro e w1 ⟨rfl, hw1⟩; obtain rfl := hw1.symm; clear hw1)
        | (at_mapUpdate; refine wpList_mapUpdate_own _ rfl _ _ _ 133 rfl 3 3 law Tryz.underlying133 _ b _ _ rfl hown hlm _ _ _ rfl rfl (keyOf_int_mk Tryz.underlying3 hx) _ [] (plainElem_int Tryz.underlying3 (wf_of (by omega) (by omega))) ?_; intro w2 hown2 hg2; have HO2 := hid hown2; have HG2 := hid hg2; clear hown2 hg2))
      go_ret
      have hcn2 := HC.out.put (M := subL x n.toNat L) (x := x) (c := c - n) hx HO.out (by rw [HN.out]; have := HCC.out; omega) (by omega)
      obtain ⟨r1, r2⟩ := HQ.out.turn HG2.out HO2.out hcn2 hS.out
      exact ⟨rfl, r1, r2⟩
/-- From 1 to m? -/
def inB (n m : Int) : Bool := decide (1 ≤ n ∧ n ≤ m)
set_option maxRecDepth 100000 in
theorem within_any (n m : Int) (w : World) : Calls Tryz.prog 71 #[.int .i64 n, .int .i64 m] w fun r w' => r = .returned (.bool (inB n m)) ∧ w' = w := by
  unfold inB
  by_cases h1 : 1 ≤ n
  · have hd : decide (n ≥ 1) = true := decide_eq_true h1
    go_enter Tryz.func71, Tryz.ntmps71
    go_wp2
    go_ret
    exact ⟨ret_bool (by simp [h1]), rfl⟩
  · have hd : decide (n ≥ 1) = false := decide_eq_false h1
    go_enter Tryz.func71, Tryz.ntmps71
    go_wp2
    go_ret
    exact ⟨ret_bool (by simp), rfl⟩
/-- May there be a quota with these bounds? -/
def okB (e a : Int) : Prop := (1 ≤ e ∧ e ≤ 256) ∧ 1 ≤ a ∧ a ≤ 256
set_option maxRecDepth 100000 in
set_option maxHeartbeats 1000000 in
theorem new_ok (e a : Int) (w : World) (h : okB e a) :
    Calls Tryz.prog 29 #[.int .i64 e, .int .i64 a] w fun r w' => ∃ g b, r = .returned (.tuple #[.pointer (some ⟨g, 0, none⟩), .int .i64 0]) ∧ Qu w' g b e a [] ∧ w.heap.size ≤ g ∧ w.heap.size ≤ b ∧ Below w.heap.size w w' := by
  have h1 : inB e 256 = true := decide_eq_true h.1
  have h2 : inB a 256 = true := decide_eq_true h.2
  have HS : Hid (Sz e a []) := ⟨h.1.1, h.1.2, h.2.1, h.2.2, by have := h.2.1; simp; omega, fun x => by have := h.1.1; simp; omega⟩
  clear h
  have hmm := @run_makeMap Tryz.prog
  go_enter Tryz.func29, Tryz.ntmps29
  go_wp2_with (first | (go_at_call 71; refine (within_any _ _ _).mono ?_; rintro e w1 ⟨rfl, hw1⟩; obtain rfl := hw1.symm; clear hw1))
  have hB := below2 w (.map #[] 0) (.cells #[.int .i64 e, .int .i64 a, .map (some w.heap.size)] 135)
  exact bodyPost_ret (v := .tuple #[.pointer (some ⟨w.heap.size + 1, 0, none⟩), .int .i64 0]) (by simp [results, Tryz.results29, go_sem]) rfl ⟨w.heap.size + 1, w.heap.size, rfl, ⟨by simp [go_sem], by simp [go_sem], by simp [go_sem], ⟨.map [], (World.ownsMap_made w _ _ _).alloc _, Cn.start⟩, HS.out⟩, by omega, Nat.le_refl _, hB⟩
end Go.Proofs.YtnjadfgfpebkdaaGreat.Q
