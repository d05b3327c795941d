import Derived.Test.YticgammbjcdobaaQR
import Derived.RangeFuncNested
import Derived.RangeFuncBound
import Derived.RangeFuncCalls
import Derived.RangeFuncLeaves
import Derived.RangeFuncGives
import Derived.Shelf.Abstract
import Derived.Shelf.RegionOpen
import Derived.OwnWalkIn
import Derived.TacticsInMore
import Derived.LoopNIn
import Derived.LoopIn
import Derived.Sort.MapsRangeIn
namespace Go.Proofs.Yticgammbjcdobaa
open Go.RowKit Go.Shelf
open Go.ChangeMaps (setBlock)
set_option linter.unusedVariables false
set_option linter.unusedSimpArgs false
/-! A range over the values of a map, or of none. -/
abbrev bornA (ps : List MapEntry) : Array Nat := (ps.map (·.born)).toArray
def Src (w : World) (mb : Option Nat) (es : Array MapEntry) : Prop := (mb = none ∧ es = #[]) ∨ ∃ b clk, mb = some b ∧ w.heap[b]? = some (.map es clk) ∧ MapKept.Stamped es clk
/-- Under way: what has come. -/
structure Wk (w : World) (mb : Option Nat) (r : Nat) (es : Array MapEntry) (ps : List MapEntry) : Prop where
  it : (mb = none ∧ es = #[] ∧ ∃ s c0, w.heap[r]? = some (.mapIter none s (bornA ps) c0)) ∨ ∃ b clk c0, mb = some b ∧ w.heap[b]? = some (.map es clk) ∧ MapKept.Stamped es clk ∧ clk ≤ c0 ∧ w.heap[r]? = some (.mapIter (some b) clk (bornA ps) c0)
  sub : ∀ x ∈ ps, x ∈ es.toList
  nd : (ps.map (·.born)).Nodup
  len : ps.length + (leftOf es (bornA ps)).size ≤ es.size
theorem Src.later {w w' : World} {mb : Option Nat} {es : Array MapEntry} (h : Src w mb es) (hb : Below w.heap.size w w') : Src w' mb es := by
  rcases h with h | ⟨b, clk, e, h1, h2⟩
  · exact .inl h
  · exact .inr ⟨b, clk, e, by rw [hb.block b (Array.getElem?_eq_some_iff.1 h1).1]; exact h1, h2⟩
theorem Src.range {w : World} {mb : Option Nat} {es : Array MapEntry} (h : Src w mb es) {t k e : TypeId} (ht : Try.prog.underlying t = some (.map k e)) :
    ∃ w', (Instr.range t (.map mb)).run Try.prog w = .ok (.pointer (some ⟨w.heap.size, 0, none⟩)) w' ∧ Wk w' mb w.heap.size es [] ∧ w.grownBy w' none := by
  rcases h with ⟨rfl, rfl⟩ | ⟨b, clk, rfl, h1, h2⟩
  · exact ⟨_, run_range_nilMap w t k e ht, ⟨.inl ⟨rfl, rfl, _, _, World.alloc_heap_new _ _⟩, fun x hx => (by cases hx), List.nodup_nil, by simp [leftOf]⟩, World.grownBy_alloc w _ none⟩
  · exact ⟨_, run_range_map w t k e b es clk ht h1, ⟨.inr ⟨b, clk, clk, rfl, by rw [Below.heap_alloc _ _ b (Array.getElem?_eq_some_iff.1 h1).1]; exact h1, h2, Nat.le_refl _, World.alloc_heap_new _ _⟩, fun x hx => (by cases hx), List.nodup_nil, by simp only [List.length_nil, Nat.zero_add]; exact Array.size_filter_le⟩, World.grownBy_alloc w _ none⟩
theorem Wk.walk {w : World} {mb : Option Nat} {r : Nat} {es : Array MapEntry} {ps : List MapEntry} (h : Wk w mb r es ps) : ∃ o : Obj, w.heap[r]? = some o ∧ o.isWalk = true := by
  rcases h.it with ⟨_, _, s, c0, h1⟩ | ⟨b, clk, c0, _, _, _, _, h1⟩
  · exact ⟨_, h1, rfl⟩
  · exact ⟨_, h1, rfl⟩
theorem Wk.keeps {w w' : World} {mb : Option Nat} {r : Nat} {es : Array MapEntry} {ps : List MapEntry} (h : Wk w mb r es ps) (hk : KeepsWalks w w') : Wk w' mb r es ps := by
  refine ⟨?_, h.sub, h.nd, h.len⟩
  rcases h.it with ⟨h0, h2, s, c0, h1⟩ | ⟨b, clk, c0, h2, h3, h4, h5, h1⟩
  · exact .inl ⟨h0, h2, s, c0, hk.same _ _ h1 rfl⟩
  · exact .inr ⟨b, clk, c0, h2, hk.same _ _ h3 rfl, h4, h5, hk.same _ _ h1 rfl⟩
/-- How many are still to come. -/
def leftN (w : World) (r : Nat) (es : Array MapEntry) : Nat := match w.heap[r]? with
  | some (.mapIter _ _ seen _) => (leftOf es seen).size
  | _ => 0
theorem Wk.left {w : World} {mb : Option Nat} {r : Nat} {es : Array MapEntry} {ps : List MapEntry} (h : Wk w mb r es ps) : leftN w r es = (leftOf es (bornA ps)).size := by
  unfold leftN
  rcases h.it with ⟨_, _, s, c0, h1⟩ | ⟨b, clk, c0, _, _, _, _, h1⟩ <;> rw [h1]
theorem born_one {l : List MapEntry} (hn : (l.map (·.born)).Nodup) {x y : MapEntry} (hx : x ∈ l) (hy : y ∈ l) (e : x.born = y.born) : x = y := by
  induction l with
  | nil => cases hx
  | cons z l ih =>
    rw [List.map_cons, List.nodup_cons] at hn
    rcases List.mem_cons.1 hx with e1 | hx' <;> rcases List.mem_cons.1 hy with e2 | hy'
    · rw [e1, e2]
    · exact absurd (List.mem_map.2 ⟨y, hy', by rw [← e, e1]⟩) hn.1
    · exact absurd (List.mem_map.2 ⟨x, hx', by rw [e, e2]⟩) hn.1
    · exact ih hn.2 hx' hy'
theorem Wk.next {w : World} {mb : Option Nat} {r : Nat} {es : Array MapEntry} {ps : List MapEntry} (h : Wk w mb r es ps) (ty : TypeId) :
    ((∀ x, x ∈ ps ↔ x ∈ es.toList) ∧ (Instr.next (.pointer (some ⟨r, 0, none⟩)) false ty).run Try.prog w = .ok (.tuple #[.bool false]) w) ∨
    ∃ e w', (Instr.next (.pointer (some ⟨r, 0, none⟩)) false ty).run Try.prog w = .ok (.tuple #[.bool true, e.key, e.val]) w' ∧ Wk w' mb r es (ps ++ [e]) ∧ (leftOf es (bornA (ps ++ [e]))).size < (leftOf es (bornA ps)).size ∧ w.grownBy w' (some r) ∧ e ∈ es.toList ∧
      (Instr.entry (.pointer (some ⟨r, 0, none⟩))).run Try.prog w' = .ok (.tuple #[e.key, e.val]) w' := by
  rcases h.it with ⟨h0, rfl, s, c0, h1⟩ | ⟨b, clk, c0, h2, h3, h4, h5, h1⟩
  · refine .inl ⟨fun x => ⟨h.sub x, fun hx => by cases hx⟩, ?_⟩
    simp only [Instr.next, getObj, Sem.run_bind, Sem.run, h1, Result.andThen]
    rfl
  · rcases run_next_at (P := Try.prog) w ty r b clk c0 (bornA ps) es clk h1 h3 h4.1 h5 with ⟨hz, hrun⟩ | ⟨e, he, w1, hal, hrun⟩
    · refine .inl ⟨fun x => ⟨h.sub x, fun hx => ?_⟩, hrun⟩
      have hsn := all_seen es (bornA ps) hz x hx
      simp only [bornA, List.contains_toArray, List.contains_iff_mem] at hsn
      obtain ⟨y, hy, e⟩ := List.mem_map.1 hsn
      rw [← born_one h4.2.1 (h.sub y hy) hx e]
      exact hy
    · obtain ⟨hem, hes⟩ := mem_left he
      have hbp : bornA (ps ++ [e]) = (bornA ps).push e.born := by simp [bornA]
      have hne : b ≠ r := fun e => by rw [e, h1] at h3; cases h3
      have hr1 : w1.heap[r]? = some (.mapIter (some b) clk (bornA ps) c0) := by rcases hal with rfl | rfl <;> exact h1
      have hb1 : w1.heap[b]? = some (.map es clk) := by rcases hal with rfl | rfl <;> exact h3
      have hset := MapKept.heap_set (o' := Obj.mapIter (some b) clk ((bornA ps).push e.born) clk) hr1
      have hb' : (setBlock w1 r (.mapIter (some b) clk ((bornA ps).push e.born) clk)).heap[b]? = some (.map es clk) := (hset.2 b hne).trans hb1
      have hlt := left_shrinks es (bornA ps) e he
      refine .inr ⟨e, _, hrun, ⟨.inr ⟨b, clk, clk, h2, hb', h4, Nat.le_refl _, by rw [hbp]; exact hset.1⟩, ?_, ?_, ?_⟩, by rw [hbp]; exact hlt, ?_, hem, run_entry_at _ r b clk (bornA ps) es clk e hset.1 hb' hem h4.2.1⟩
      · intro x hx
        rcases List.mem_append.1 hx with hx | hx
        · exact h.sub x hx
        · rw [List.mem_singleton.1 hx]; exact hem
      · rw [List.map_append, List.nodup_append]
        refine ⟨h.nd, by simp, fun a ha c hc => ?_⟩
        simp only [List.map_cons, List.map_nil, List.mem_singleton] at hc
        rintro rfl
        rw [hc] at ha
        simp only [bornA, List.contains_toArray, List.contains_eq_mem, decide_eq_false_iff_not] at hes
        exact hes ha
      · rw [hbp, List.length_append]
        have := h.len
        simp only [List.length_cons, List.length_nil]
        omega
      · rcases hal with rfl | rfl <;> exact ⟨rfl, rfl, rfl, by simp [setBlock], fun i _ hi => hset.2 i (fun e1 => hi (by rw [e1]))⟩
section
variable {F : Fence} {n : Nat} {P : Program} {w w' : World} {ops : Array Oper} {rest : List Oper} {o : Oper} {a : Act} {Q : Exit → Act → World → Prop}
theorem wpListIn_range_known (hgd : o.guard = none) (m : Operand) (t : TypeId) (ho : o.op = Op.range t m) {v v' : Value} (hm : a.eval m = v) (hr : (Instr.range t v).run P w = .ok v' w') (h : wpListIn F n P ops Q rest (a.put o.dst v') w') : wpListIn F n P ops Q (o :: rest) a w := by
  refine wpListIn_plain hgd fun K hK => ?_
  unfold Oper.wpIn
  refine ⟨by simp [Oper.about, ho], ?_⟩
  rw [Oper.semAt_plain F _ _ (by rw [ho]; intro c hc; cases hc)]
  simp [execOp, ho, hm, hr, Result.andThen]
  exact hK _ _ h
theorem wpListIn_next_known (hgd : o.guard = none) (m : Operand) (ho : o.op = Op.next m false) {v v' : Value} (hm : a.eval m = v) (hr : (Instr.next v false o.type).run P w = .ok v' w') (h : wpListIn F n P ops Q rest (a.put o.dst v') w') : wpListIn F n P ops Q (o :: rest) a w := by
  refine wpListIn_plain hgd fun K hK => ?_
  unfold Oper.wpIn
  refine ⟨by simp [Oper.about, ho], ?_⟩
  rw [Oper.semAt_plain F _ _ (by rw [ho]; intro c hc; cases hc)]
  simp [execOp, ho, hm, hr, Result.andThen]
  exact hK _ _ h
end
/-- All values have come, each once. -/
def AllV (es : Array MapEntry) (ts : List Tn) : Prop := ∃ ps : List MapEntry, ps.map (·.val) = ts.map Tn.v ∧ (ps.map (·.born)).Nodup ∧ (∀ x, x ∈ ps ↔ x ∈ es.toList) ∧ ps.length ≤ es.size
end Go.Proofs.Yticgammbjcdobaa
