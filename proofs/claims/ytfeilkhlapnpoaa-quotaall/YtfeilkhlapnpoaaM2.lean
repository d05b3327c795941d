import Derived.Test.YtfeilkhlapnpoaaM1
namespace Go.Proofs.Ytfeilkhlapnpoaa
open Go.RowKit Go.Maps
set_option linter.unusedVariables false

theorem law : Keyed Try.prog 3 := int_keyed Try.underlying3
theorem zeroE (w : World) : (zeroValue 3).run Try.prog w = .ok (.int .i64 0) w := by kernel_rfl
/-- A number's key. -/
abbrev ky (x : Int) : Lit := .int .i64 x
abbrev nu (x : Int) : DataW Unit := .lit (.int .i64 x)
theorem ky_ne {x y : Int} (h : x ≠ y) : ky x ≠ ky y := fun e => h (by simpa [ky] using e)
theorem ky_lit {x : Int} (h : (Lit.int .i64 x).wf = true) : WideAt.IsKeyLit (ky x) := law.key (keyOf_int_mk Try.underlying3 h)
/-- The datum counts the list. -/
structure Cn (D : DataW Unit) (L : List Int) : Prop where
  at_ : ∀ x, D.atKey (ky x) (nu 0) = nu (L.count x : Int)
  has : ∀ x, Maps.has D (ky x) = decide (x ∈ L)
  map : IsMap D
theorem Cn.start : Cn (.map []) [] := ⟨fun x => rfl, fun x => by simp [Maps.has], isMap_empty⟩
theorem Cn.put {D : DataW Unit} {L M : List Int} (h : Cn D L) {x c : Int} (hx : (Lit.int .i64 x).wf = true) (ho : ∀ y, y ≠ x → M.count y = L.count y) (hc : (M.count x : Int) = c) (h0 : 0 < c) : Cn (D.put (ky x) (nu c)) M := by
  refine ⟨fun y => ?_, fun y => ?_, h.map.put _ _⟩
  · by_cases e : y = x
    · subst e; rw [atKey_put_same h.map (ky_lit hx), hc]
    · rw [atKey_put_other (ky_ne e), h.at_ y, ho y e]
  · by_cases e : y = x
    · subst e
      rw [has_put_same h.map (ky_lit hx)]
      exact (decide_eq_true (List.count_pos_iff.1 (by omega))).symm
    · rw [has_put_other (ky_ne e), h.has y]
      have h1 := ho y e
      congr 1
      rw [← List.count_pos_iff, ← List.count_pos_iff, h1]
theorem Cn.del {D : DataW Unit} {L M : List Int} (h : Cn D L) {x : Int} (ho : ∀ y, y ≠ x → M.count y = L.count y) (hc : M.count x = 0) : Cn (D.del (ky x)) M := by
  refine ⟨fun y => ?_, fun y => ?_, h.map.del _⟩
  · by_cases e : y = x
    · subst e; rw [atKey_del_same, hc]; rfl
    · rw [atKey_del_other (ky_ne e), h.at_ y, ho y e]
  · by_cases e : y = x
    · subst e
      rw [has_del_same]
      exact (decide_eq_false (fun hm => by have := List.count_pos_iff.2 hm; omega)).symm
    · rw [has_del_other (ky_ne e), h.has y]
      have h1 := ho y e
      congr 1
      rw [← List.count_pos_iff, ← List.count_pos_iff, h1]
def keyInt : Lit → Int
  | .int _ x => x
  | _ => 0
abbrev owns (w : World) (b n : Nat) (D : DataW Unit) : Prop := w.ownsMap Try.prog 3 (plainElem Try.prog 3) b n D
theorem size_cn {w : World} {b n : Nat} {D : DataW Unit} {L : List Int} (h : owns w b n D) (hc : Cn D L) : Maps.size D ≤ L.length := by
  obtain ⟨es, hD, hpw, _⟩ := h.entries law
  obtain ⟨es', hD', hko⟩ := h.keysOf
  obtain rfl : es = es' := by rw [hD] at hD'; simpa using hD'
  subst hD
  have hk : ∀ p ∈ es, ∃ x, p.1 = ky x := fun p hp => by
    obtain ⟨v, hv⟩ := hko p hp
    obtain ⟨x, _, hx, _⟩ := Maps.keyOf_int_inv Try.underlying3 hv
    exact ⟨x, hx⟩
  have h1 : (es.map fun p => keyInt p.1).Nodup := List.pairwise_map.2 (hpw.imp_of_mem fun {p q} hp hq hne e => hne (by
    obtain ⟨a, ha⟩ := hk p hp
    obtain ⟨b, hb⟩ := hk q hq
    rw [ha, hb] at e ⊢
    exact congrArg _ e))
  have h2 := nodup_le (m := L) h1 (fun x hx => by
    obtain ⟨p, hp, rfl⟩ := List.mem_map.1 hx
    obtain ⟨a, ha⟩ := hk p hp
    rw [ha]
    have h3 := hc.has a
    have h4 : Maps.has (DataW.map es) (ky a) = true := by
      rw [has_eq, List.any_eq_true]
      exact ⟨p, hp, by rw [ha]; simp [Lit.sameKey]⟩
    rw [h4] at h3
    exact of_decide_eq_true h3.symm)
  rw [List.length_map] at h2
  exact h2
theorem tight {w : World} {b n : Nat} {D : DataW Unit} {L : List Int} (h : owns w b n D) (hc : Cn D L) : owns w b L.length D := by
  have hs := size_cn h hc
  obtain ⟨es, clock, hb, F, _, rfl⟩ := h
  refine ⟨es, clock, hb, F, ?_, rfl⟩
  simpa [Maps.size, length_sorted] using hs
/-- Block b is a map that counts the list. -/
def Mp (w : World) (b : Nat) (L : List Int) : Prop := ∃ D, owns w b L.length D ∧ Cn D L
theorem owns_but {S : Nat → Prop} {w w' : World} {b n : Nat} {D : DataW Unit} (hb : But S w w') (h : owns w b n D) (hn : ¬ S b) : owns w' b n D := by
  have hlt := h.lt
  obtain ⟨es, clock, hh, r⟩ := h
  exact ⟨es, clock, (hb.block b hlt hn).trans hh, r⟩
theorem Mp.but {S : Nat → Prop} {w w' : World} {b : Nat} {L : List Int} (h : Mp w b L) (hb : But S w w') (hn : ¬ S b) : Mp w' b L := by
  obtain ⟨D, h1, h2⟩ := h
  exact ⟨D, owns_but hb h1 hn, h2⟩
theorem Mp.lt {w : World} {b : Nat} {L : List Int} (h : Mp w b L) : b < w.heap.size := by
  obtain ⟨D, h1, _⟩ := h
  exact h1.lt
/-- A quota in memory: its struct lies in block g, its map in block b. -/
structure Qu (w : World) (g b : Nat) (e a : Int) (L : List Int) : Prop where
  c0 : w.cell? ⟨g, 0, none⟩ = some (.int .i64 e)
  c1 : w.cell? ⟨g, 1, none⟩ = some (.int .i64 a)
  c2 : w.cell? ⟨g, 2, none⟩ = some (.map (some b))
  mp : Mp w b L
  sz : Sz e a L
theorem Qu.but {S : Nat → Prop} {w w' : World} {g b : Nat} {e a : Int} {L : List Int} (h : Qu w g b e a L) (hb : But S w w') (hg : ¬ S g) (hn : ¬ S b) : Qu w' g b e a L :=
  ⟨cell_but hb h.c0 hg, cell_but hb h.c1 hg, cell_but hb h.c2 hg, h.mp.but hb hn, h.sz⟩
theorem Qu.later {w w' : World} {g b : Nat} {e a : Int} {L : List Int} (h : Qu w g b e a L) (hb : Below w.heap.size w w') : Qu w' g b e a L := h.but (S := fun _ => False) (But.of hb) (fun h => h) (fun h => h)
theorem Qu.gb {w : World} {g b : Nat} {e a : Int} {L : List Int} (h : Qu w g b e a L) : g ≠ b := fun eq => by
  obtain ⟨D, ⟨es, clock, hh, _⟩, _⟩ := h.mp
  have := h.c0
  rw [eq] at this
  simp [World.cell?, hh] at this
theorem Qu.glt {w : World} {g b : Nat} {e a : Int} {L : List Int} (h : Qu w g b e a L) : g < w.heap.size := World.block_lt_of_cell? _ _ h.c0
theorem Qu.blt {w : World} {g b : Nat} {e a : Int} {L : List Int} (h : Qu w g b e a L) : b < w.heap.size := h.mp.lt
/-- Behind a store into the map. -/
theorem Qu.turn {w w' : World} {g b : Nat} {e a : Int} {L M : List Int} {n : Nat} {D : DataW Unit} (h : Qu w g b e a L) (hg : w.grownBy w' (some b)) (ho : owns w' b n D) (hc : Cn D M) (hs : Sz e a M) : Qu w' g b e a M ∧ But (fun k => k = b) w w' := by
  have hB : But (fun k => k = b) w w' := ⟨hg.os, hg.tape, hg.output, hg.size, fun k hk hn => hg.block k hk (fun e => hn (by simpa using e))⟩
  exact ⟨⟨cell_but hB h.c0 h.gb, cell_but hB h.c1 h.gb, cell_but hB h.c2 h.gb, ⟨D, tight ho hc, hc⟩, hs⟩, hB⟩
/-! ### A range over the map -/
def Coll (D : DataW Unit) (left : Lit → Bool) (zs : List Int) : Prop := zs.Nodup ∧ ∀ x, x ∈ zs ↔ (Maps.has D (ky x) = true ∧ left (ky x) = false)
theorem Coll.start (D : DataW Unit) : Coll D (Maps.has D) [] := ⟨List.nodup_nil, fun x => by cases Maps.has D (ky x) <;> simp⟩
theorem Coll.step {D : DataW Unit} {left : Lit → Bool} {zs : List Int} (h : Coll D left zs) {x : Int} {y : DataW Unit} (hlk : left (ky x) = true) (hat : ∀ zd, D.atKey (ky x) zd = y) : Coll D (fun z => left z && !z.sameKey (ky x)) (zs ++ [x]) := by
  have hhas : Maps.has D (ky x) = true := has_true_of_atKey hat
  have hnew : x ∉ zs := fun hx => by have := ((h.2 x).1 hx).2; rw [hlk] at this; cases this
  refine ⟨List.nodup_append.2 ⟨h.1, by simp, fun a ha b hb => by simp at hb; subst hb; exact fun e => hnew (e ▸ ha)⟩, fun y => ?_⟩
  by_cases hy : y = x
  · subst hy; simp [hhas, Lit.sameKey]
  · simp [h.2 y, hy, Lit.sameKey]
theorem Coll.mem {D : DataW Unit} {left : Lit → Bool} {zs L : List Int} (h : Coll D left zs) (hc : Cn D L) {x : Int} (hx : x ∈ zs) : x ∈ L := by
  have h1 := ((h.2 x).1 hx).1
  rw [hc.has x] at h1
  exact of_decide_eq_true h1
theorem Coll.all {D : DataW Unit} {left : Lit → Bool} {zs L : List Int} (h : Coll D left zs) (hc : Cn D L) (hl : ∀ kl, left kl = false) (x : Int) : x ∈ zs ↔ x ∈ L := by
  rw [h.2 x, hc.has x, hl]
  simp
end Go.Proofs.Ytfeilkhlapnpoaa
