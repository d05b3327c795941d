import Derived.Test.YtaffgoacbiedlaaR2
import Derived.Test.YtaffgoacbiedlaaB6
namespace Go.Proofs.Ytaffgoacbiedlaa
open Go.RowKit
set_option linter.unusedVariables false
set_option linter.unusedSimpArgs false

/-- A call as a list of cells, its lists in memory of their own. -/
structure Co (w : World) (base : Nat) (L : List Value) (c : Cl) : Prop where
  ex : ∃ d g, L = cC c d g ∧ Own w base d.a d.n d.c c.data ∧ OI w base g.a g.n g.c c.gifts ∧ c.hi < 18446744073709551616 ∧ c.lo < 18446744073709551616
theorem Co.cc {w : World} {base : Nat} {L : List Value} {c : Cl} (h : Co w base L c) : Cc w L c := by
  obtain ⟨d, g, e, h1, h2, h3, h4⟩ := h.ex
  exact ⟨d, g, e, h1.read, h2.read, h3, h4⟩
theorem Co.len {w : World} {base : Nat} {L : List Value} {c : Cl} (h : Co w base L c) : L.length = 13 := h.cc.len
theorem Co.one {w : World} {base : Nat} {L : List Value} {c : Cl} (h : Co w base L c) : ∀ v ∈ L, v.oneCell' = true := h.cc.one
theorem Co.but {S : Nat → Prop} {w w' : World} {base : Nat} {L : List Value} {c : Cl} (hb : But S w w') (h : Co w base L c) (hS : ∀ k, base ≤ k → ¬ S k) : Co w' base L c := by
  obtain ⟨d, g, e, h1, h2, h3, h4⟩ := h.ex
  exact ⟨d, g, e, h1.but hb hS, h2.but hb (fun k hk => hS k (h2.blk k hk)), h3, h4⟩
theorem Co.later {w w' : World} {base : Nat} {L : List Value} {c : Cl} (hb : Below w.heap.size w w') (h : Co w base L c) : Co w' base L c := h.but (S := fun _ => False) (But.of hb) (fun _ _ h => h)
theorem Co.mono {w : World} {base b : Nat} {L : List Value} {c : Cl} (h : Co w base L c) (hb : b ≤ base) : Co w b L c := by
  obtain ⟨d, g, e, h1, h2, h3, h4⟩ := h.ex
  exact ⟨d, g, e, h1.mono hb, h2.mono hb, h3, h4⟩
theorem Co.zero (w : World) (base : Nat) (op by_ : Int) : Co w base (cC (clz op by_) Sl.nil Sl.nil) (clz op by_) := ⟨Sl.nil, Sl.nil, rfl, Own.nil _ _, OI.nil _ _, by simp [clz], by simp [clz]⟩
/-- Two boxes made by the call itself. -/
structure Aft (w w3 : World) (L Z : List Value) (g : Nat) : Prop where
  b1 : Bx w3 w.heap.size L
  b2 : Bx w3 (w.heap.size + 1) Z
  but : But (· = g) w w3
abbrev two (w : World) (L Z : List Value) : World := (w.alloc (Obj.cells L.toArray 41)).alloc (Obj.cells Z.toArray 41)
theorem two_below (w : World) (L Z : List Value) : Below w.heap.size w (two w L Z) := below2 _ _ _
theorem two_1 (w : World) (L Z : List Value) : Bx (two w L Z) w.heap.size L := (Bx.new w L 41).later (below1 _ _)
theorem two_2 (w : World) (L Z : List Value) : Bx (two w L Z) (w.heap.size + 1) Z := by have := Bx.new (w.alloc (Obj.cells L.toArray 41)) Z 41; simp at this; exact this
theorem Aft.of {w w3 : World} {L Z : List Value} {g : Nat} (hb : But (· = g) (two w L Z) w3) (hg : g < w.heap.size) : Aft w w3 L Z g :=
  ⟨(two_1 w L Z).but hb (by omega), (two_2 w L Z).but hb (by omega), (But.of (two_below w L Z)).trans hb⟩
theorem Bx.set1 {w : World} {b : Nat} {L : List Value} (h : Bx w b L) (j : Nat) (v : Value) (hj : j < L.length) : Bx (w.setCell ⟨b, j, none⟩ v) b (L.set j v) := by
  refine ⟨fun i u hu => ?_, fun i hi => ?_⟩
  · rw [Nat.zero_add]
    by_cases e : i = j
    · subst e
      rw [List.getElem?_set_self hj] at hu
      cases hu
      have := h.cell i (List.getElem?_eq_getElem hj)
      exact World.cell?_setCell_same _ _ _ this
    · rw [List.getElem?_set_ne (fun h => e h.symm)] at hu
      rw [World.cell?_setCell_other _ _ _ _ (fun e2 => e (by simpa using (congrArg Addr.off e2).symm))]
      exact h.cell i hu
  · have hi' : i < L.length := by simpa using hi
    obtain ⟨h1, h2⟩ := h.there i hi'
    obtain ⟨u, hu⟩ := Option.isSome_iff_exists.1 h1
    obtain ⟨u', hu'⟩ := cell?_setCell_some (w := w) (p := ⟨b, j, none⟩) (x := v) (q := ⟨b, 0 + i, none⟩) (v := u) hu
    exact ⟨by rw [hu']; rfl, by rw [World.frozen?_setCell]; exact h2⟩
theorem Aft.set1 {w w3 : World} {L Z : List Value} {g : Nat} (h : Aft w w3 L Z g) (j : Nat) (v : Value) (hj : j < L.length) : Aft w (w3.setCell ⟨w.heap.size, j, none⟩ v) (L.set j v) Z g := by
  have hb : But (· = w.heap.size) w3 (w3.setCell ⟨w.heap.size, j, none⟩ v) := (But.refl (· = w.heap.size) _).setCell (p := ⟨w.heap.size, j, none⟩) rfl v
  exact ⟨h.b1.set1 j v hj, h.b2.but hb (by omega), h.but.comp hb (fun i hi => .inr (by omega))⟩
theorem Aft.fin {w w3 : World} {L Z : List Value} {g : Nat} (h : Aft w w3 L Z g) (hl : L.length = Z.length) : Bx (w3.setCells (w.heap.size + 1) 0 L) (w.heap.size + 1) L ∧ But (· = g) w (w3.setCells (w.heap.size + 1) 0 L) :=
  ⟨h.b2.set hl, h.but.comp (setCells_but (S := (· = w.heap.size + 1)) rfl L 0 (But.refl _ _)) (fun i hi => .inr (by omega))⟩
theorem Aft.free {w w3 : World} {L Z : List Value} {g : Nat} (h : Aft w w3 L Z g) (j : Nat) (hj : j < L.length) : w3.frozen? ⟨w.heap.size, j, none⟩ = false := by
  have := (h.b1.there j hj).2
  rwa [Nat.zero_add] at this
theorem all_set {L : List Value} (h : ∀ v ∈ L, v.oneCell' = true) (j : Nat) {x : Value} (hx : x.oneCell' = true) : ∀ v ∈ L.set j x, v.oneCell' = true := by
  intro v hv
  rcases List.mem_or_eq_of_mem_set hv with h1 | h1
  · exact h v h1
  · rw [h1]; exact hx
/-- What the walk wants behind the call that read: one cell of the first box is written, the box is copied into the second. -/
structure Fct (w w3 : World) (L : List Value) (g j : Nat) (v : Value) : Prop where
  cell : ∃ u, w3.cell? ⟨w.heap.size, j, none⟩ = some u
  free : w3.frozen? ⟨w.heap.size, j, none⟩ = false
  len : (L.set j v).length = 13
  ld : Hid ((Instr.loadAt 41 (.pointer (some ⟨w.heap.size, 0, none⟩))).run Try.prog (w3.setCell ⟨w.heap.size, j, none⟩ v) = .ok (.agg (L.set j v).toArray) (w3.setCell ⟨w.heap.size, j, none⟩ v))
  st : (storeCells ⟨w.heap.size + 1, 0, none⟩ (L.set j v)).run Try.prog (w3.setCell ⟨w.heap.size, j, none⟩ v) = .ok () ((w3.setCell ⟨w.heap.size, j, none⟩ v).setCells (w.heap.size + 1) 0 (L.set j v))
  lv : Hid ((loadVar 41 ⟨w.heap.size + 1, 0, none⟩).run Try.prog ((w3.setCell ⟨w.heap.size, j, none⟩ v).setCells (w.heap.size + 1) 0 (L.set j v)) = .ok (.agg (L.set j v).toArray) ((w3.setCell ⟨w.heap.size, j, none⟩ v).setCells (w.heap.size + 1) 0 (L.set j v)))
  but : Hid (But (· = g) w ((w3.setCell ⟨w.heap.size, j, none⟩ v).setCells (w.heap.size + 1) 0 (L.set j v)))
  own : Hid (But (fun k => k = w.heap.size ∨ k = w.heap.size + 1) w3 ((w3.setCell ⟨w.heap.size, j, none⟩ v).setCells (w.heap.size + 1) 0 (L.set j v)))
theorem fct {w w3 : World} {L Z : List Value} {g : Nat} (hb : But (· = g) (two w L Z) w3) (hg : g < w.heap.size) (hl : L.length = 13) (hzl : Z.length = 13) (h1 : ∀ v ∈ L, v.oneCell' = true) (j : Nat) (hj : j < 13) (v : Value) (hv : v.oneCell' = true) : Fct w w3 L g j v := by
  have A3 := Aft.of hb hg
  have A4 := A3.set1 j v (by omega)
  have hl4 : (L.set j v).length = 13 := by rw [List.length_set]; exact hl
  have HF := A4.fin (by rw [hl4, hzl])
  exact ⟨⟨_, A3.b1.cell j (List.getElem?_eq_getElem (by omega))⟩, A3.free j (by omega), hl4, ld41 A4.b1.range hl4, stc (by rw [← hzl]; exact A4.b2.there) hl4 (all_set h1 j hv), lv41 HF.1.range hl4, HF.2, setCells_but (S := fun k => k = w.heap.size ∨ k = w.heap.size + 1) (.inr rfl) _ 0 ((But.refl (fun k => k = w.heap.size ∨ k = w.heap.size + 1) _).setCell (p := ⟨w.heap.size, j, none⟩) (.inl rfl) _)⟩
end Go.Proofs.Ytaffgoacbiedlaa
