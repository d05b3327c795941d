import Derived.Test.YticgammbjcdobaaS2
import Derived.Maps.Keyed
import Derived.MapKept
import Derived.DeepKeys4
import Derived.ProofKit
namespace Go.Proofs.Yticgammbjcdobaa
open Go.RowKit
set_option linter.unusedVariables false
set_option linter.unusedSimpArgs false
/-! Maps by any key, with any values. -/
abbrev Kd (t : TypeId) : Prop := Maps.Keyed Try.prog t
def Kv (t : TypeId) (k : Value) : Prop := ∃ l, keyOf Try.prog t k = some l
structure Mg (w : World) (tk : TypeId) (b : Nat) (E : List (Value × Value)) : Prop where
  ex : ∃ es clk, w.heap[b]? = some (.map es clk) ∧ es.toList.map (fun e => (e.key, e.val)) = E
  ok : ∀ e ∈ E, Kv tk e.1
  nd : (E.map Prod.fst).Nodup
  st : ∀ es clk, w.heap[b]? = some (.map es clk) → MapKept.Stamped es clk
theorem Mg.new (w : World) (tk : TypeId) : Mg (w.alloc (.map #[] 0)) tk w.heap.size [] := ⟨⟨#[], 0, (MapKept.heap_alloc w _).1, rfl⟩, fun e h => (by cases h), List.nodup_nil, fun es clk h => by
  have e := (MapKept.heap_alloc w (.map #[] 0)).1.symm.trans h
  simp at e
  obtain ⟨rfl, rfl⟩ := e
  exact MapKept.stamped_empty 0⟩
theorem Mg.but {S : Nat → Prop} {w w' : World} {tk : TypeId} {b : Nat} {E : List (Value × Value)} (h : Mg w tk b E) (hb : But S w w') (hn : ¬ S b) : Mg w' tk b E := by
  obtain ⟨es, clk, h1, h2⟩ := h.ex
  exact ⟨⟨es, clk, by rw [hb.block b (Array.getElem?_eq_some_iff.1 h1).1 hn]; exact h1, h2⟩, h.ok, h.nd, fun es' clk' h' => h.st es' clk' (by rw [← hb.block b (Array.getElem?_eq_some_iff.1 h1).1 hn]; exact h')⟩
theorem Mg.later {w w' : World} {tk : TypeId} {b : Nat} {E : List (Value × Value)} (h : Mg w tk b E) (hb : Below w.heap.size w w') : Mg w' tk b E := h.but (S := fun _ => False) (But.of hb) (fun h => h)
theorem Mg.lt {w : World} {tk : TypeId} {b : Nat} {E : List (Value × Value)} (h : Mg w tk b E) : b < w.heap.size := by
  obtain ⟨es, clk, h1, h2⟩ := h.ex
  exact (Array.getElem?_eq_some_iff.1 h1).1
theorem Mg.ne {w : World} {tk : TypeId} {b : Nat} {E : List (Value × Value)} (h : Mg w tk b E) {p : Addr} {v : Value} (hv : w.cell? p = some v) : p.block ≠ b := fun e => by
  obtain ⟨es, clk, hb, _⟩ := h.ex
  subst e
  unfold World.cell? at hv
  rw [hb] at hv
  cases hv
theorem Mg.find {w : World} {tk : TypeId} {b : Nat} {E : List (Value × Value)} (h : Mg w tk b E) (K : Kd tk) {k : Value} (hk : Kv tk k) {es : Array MapEntry} {clk : Nat} (hb : w.heap[b]? = some (.map es clk)) (hE : es.toList.map (fun e => (e.key, e.val)) = E) :
    ((Instr.findKey tk k es.toList).run Try.prog w = .ok none w ∧ ∀ e ∈ E, e.1 ≠ k) ∨ ∃ j e, (Instr.findKey tk k es.toList).run Try.prog w = .ok (some (j, e.val)) w ∧ es[j]? = some e ∧ e.key = k ∧ (k, e.val) ∈ E := by
  obtain ⟨l, hl⟩ := hk
  have hmem : ∀ e ∈ es.toList, (e.key, e.val) ∈ E := fun e he => by rw [← hE]; exact List.mem_map_of_mem (f := fun e : MapEntry => (e.key, e.val)) he
  have hok : ∀ e ∈ es.toList, Kv tk e.key := fun e he => h.ok (e.key, e.val) (hmem e he)
  rcases K.find w hl es.toList (fun e he => (hok e he)) with ⟨hf, hn⟩ | ⟨j, e, hf, hj, he⟩
  · refine .inl ⟨hf, fun e he => ?_⟩
    rw [← hE] at he
    obtain ⟨x, hx, rfl⟩ := List.mem_map.1 he
    exact hn x hx
  · exact .inr ⟨j, e, hf, by rw [← Array.getElem?_toList]; exact hj, he, by have := hmem e (List.mem_of_getElem? hj); rw [he] at this; exact this⟩
theorem Mg.one {w : World} {tk : TypeId} {b : Nat} {E : List (Value × Value)} (h : Mg w tk b E) {k v v' : Value} (h1 : (k, v) ∈ E) (h2 : (k, v') ∈ E) : v = v' := by
  have hn := h.nd
  clear h
  induction E with
  | nil => cases h1
  | cons x E ih =>
    rw [List.map_cons, List.nodup_cons] at hn
    rcases List.mem_cons.1 h1 with e1 | h1 <;> rcases List.mem_cons.1 h2 with e2 | h2
    · rw [← e1] at e2; simpa using e2.symm
    · exact absurd (List.mem_map.2 ⟨_, h2, rfl⟩) (by rw [← e1] at hn; exact hn.1)
    · exact absurd (List.mem_map.2 ⟨_, h1, rfl⟩) (by rw [← e2] at hn; exact hn.1)
    · exact ih h1 h2 hn.2
/-- What a look-up answers. -/
def lkR (c : Bool) (v : Value) (ok : Bool) : Value := if c then .tuple #[v, .bool ok] else v
theorem Mg.hit {w : World} {tk : TypeId} {b : Nat} {E : List (Value × Value)} (h : Mg w tk b E) (K : Kd tk) {t e : TypeId} (ht : Try.prog.underlying t = some (.map tk e)) {k v : Value} (hm : (k, v) ∈ E) (c : Bool) :
    (Instr.lookup t (.map (some b)) k c).run Try.prog w = .ok (lkR c v true) w := by
  obtain ⟨es, clk, hb, hE⟩ := h.ex
  have hk := h.ok _ hm
  obtain ⟨l, hl⟩ := hk
  have hck := K.check w es.isEmpty hl
  rcases h.find K ⟨l, hl⟩ hb hE with ⟨_, hn⟩ | ⟨j, x, hf, hj, hx, hmem⟩
  · exact absurd rfl (hn _ hm)
  · have hv := h.one hm hmem
    simp only [Instr.lookup, Sem.run_bind, run_underlying ht, Result.andThen_ok, MapKept.run_getObj_map hb, Sem.run_pure, hck, hf]
    rw [hv]
    cases c <;> rfl
theorem Mg.miss {w : World} {tk : TypeId} {b : Nat} {E : List (Value × Value)} (h : Mg w tk b E) (K : Kd tk) {t e : TypeId} (ht : Try.prog.underlying t = some (.map tk e)) {k z : Value} (hk : Kv tk k) (hn : ∀ x ∈ E, x.1 ≠ k) (hz : (zeroValue e).run Try.prog w = .ok z w) (c : Bool) :
    (Instr.lookup t (.map (some b)) k c).run Try.prog w = .ok (lkR c z false) w := by
  obtain ⟨es, clk, hb, hE⟩ := h.ex
  obtain ⟨l, hl⟩ := hk
  have hck := K.check w es.isEmpty hl
  rcases h.find K ⟨l, hl⟩ hb hE with ⟨hf, _⟩ | ⟨j, x, hf, hj, hx, hmem⟩
  · simp only [Instr.lookup, Sem.run_bind, run_underlying ht, Result.andThen_ok, MapKept.run_getObj_map hb, Sem.run_pure, hck, hf, hz]
    cases c <;> rfl
  · exact absurd rfl (hn _ hmem)
theorem nil_miss (w : World) {tk : TypeId} (K : Kd tk) {t e : TypeId} (ht : Try.prog.underlying t = some (.map tk e)) {k z : Value} (hk : Kv tk k) (hz : (zeroValue e).run Try.prog w = .ok z w) (c : Bool) :
    (Instr.lookup t (.map none) k c).run Try.prog w = .ok (lkR c z false) w := by
  obtain ⟨l, hl⟩ := hk
  have hck := K.check w (#[] : Array MapEntry).isEmpty hl
  rcases K.find w hl ([] : List MapEntry) (fun e he => by cases he) with ⟨hf, _⟩ | ⟨j, x, hf, hj, hx⟩
  · simp only [Instr.lookup, Sem.run_bind, run_underlying ht, Result.andThen_ok, Sem.run_pure, hck, hf, hz]
    cases c <;> rfl
  · simp at hj
theorem Mg.add {w : World} {tk : TypeId} {b : Nat} {E : List (Value × Value)} (h : Mg w tk b E) (K : Kd tk) {t e : TypeId} (ht : Try.prog.underlying t = some (.map tk e)) {k : Value} (hk : Kv tk k) (hn : ∀ x ∈ E, x.1 ≠ k) (v : Value) :
    ∃ w', (Instr.mapUpdate t (.map (some b)) k v).run Try.prog w = .ok () w' ∧ Mg w' tk b (E ++ [(k, v)]) ∧ But (· = b) w w' ∧ w'.heap.size = w.heap.size := by
  obtain ⟨es, clk, hb, hE⟩ := h.ex
  obtain ⟨l, hl⟩ := hk
  have hck := K.check w false hl
  rcases h.find K ⟨l, hl⟩ hb hE with ⟨hf, _⟩ | ⟨j, x, hf, hj, hx, hmem⟩
  · refine ⟨{ w with heap := w.heap.setIfInBounds b (.map (es.push { key := k, val := v, born := clk }) (clk + 1)) }, by simp only [Instr.mapUpdate, Sem.run_bind, run_underlying ht, Result.andThen_ok, MapKept.run_getObj_map hb, hck, hf, MapKept.run_setObj_map _ hb], ⟨⟨_, _, (MapKept.heap_set hb).1, ?_⟩, ?_, ?_, ?_⟩, ⟨rfl, rfl, rfl, by simp, fun k hk hn => (MapKept.heap_set hb).2 k hn⟩, by simp⟩
    · simp [hE]
    · intro x hx
      rcases List.mem_append.1 hx with hx | hx
      · exact h.ok x hx
      · rw [List.mem_singleton.1 hx]; exact ⟨l, hl⟩
    · rw [List.map_append, List.nodup_append]
      refine ⟨h.nd, by simp, ?_⟩
      intro a ha c hc
      obtain ⟨x, hx, rfl⟩ := List.mem_map.1 ha
      simp only [List.map_cons, List.map_nil, List.mem_singleton] at hc
      rw [hc]
      exact hn x hx
    · intro es' clk' h'
      have e2 := (MapKept.heap_set (o' := Obj.map (es.push { key := k, val := v, born := clk }) (clk + 1)) hb).1.symm.trans h'
      simp at e2
      obtain ⟨rfl, rfl⟩ := e2
      refine MapKept.stamped_push (h.st _ _ hb) (fun x hx => ?_)
      exact hn (x.key, x.val) (by rw [← hE]; exact List.mem_map_of_mem (f := fun e : MapEntry => (e.key, e.val)) hx)
  · exact absurd rfl (hn _ hmem)
open Classical in
noncomputable def upE (E : List (Value × Value)) (k v : Value) : List (Value × Value) := E.map (fun x => if x.1 = k then (k, v) else x)
theorem upE_keys (E : List (Value × Value)) (k v : Value) : (upE E k v).map Prod.fst = E.map Prod.fst := by
  unfold upE
  rw [List.map_map]
  apply List.map_congr_left
  intro x hx
  by_cases e : x.1 = k <;> simp [e]
theorem Mg.set {w : World} {tk : TypeId} {b : Nat} {E : List (Value × Value)} (h : Mg w tk b E) (K : Kd tk) {t e : TypeId} (ht : Try.prog.underlying t = some (.map tk e)) {k v0 : Value} (hm : (k, v0) ∈ E) (v : Value) :
    ∃ w', (Instr.mapUpdate t (.map (some b)) k v).run Try.prog w = .ok () w' ∧ Mg w' tk b (upE E k v) ∧ But (· = b) w w' ∧ w'.heap.size = w.heap.size := by
  obtain ⟨es, clk, hb, hE⟩ := h.ex
  obtain ⟨l, hl⟩ := h.ok _ hm
  have hck := K.check w false hl
  have hst := K.stays w hl
  rcases h.find K ⟨l, hl⟩ hb hE with ⟨_, hn⟩ | ⟨j, x, hf, hj, hx, hmem⟩
  · exact absurd rfl (hn _ hm)
  · simp only at hl hck hst hf hx
    refine ⟨{ w with heap := w.heap.setIfInBounds b (.map (es.modify j fun e => { e with key := k, val := v }) clk) }, by simp only [Instr.mapUpdate, Sem.run_bind, run_underlying ht, Result.andThen_ok, MapKept.run_getObj_map hb, hck, hf, hj, Option.map_some, Option.getD_some, hx, hst, MapKept.run_setObj_map _ hb], ⟨⟨_, _, (MapKept.heap_set hb).1, ?_⟩, ?_, by rw [upE_keys]; exact h.nd, ?_⟩, ⟨rfl, rfl, rfl, by simp, fun k hk hn => (MapKept.heap_set hb).2 k hn⟩, by simp⟩
    · unfold upE
      rw [← hE, List.map_map]
      apply List.ext_getElem?
      intro i
      simp only [List.getElem?_map, Array.getElem?_toList, Array.getElem?_modify]
      by_cases e3 : j = i
      · subst e3
        rw [if_pos rfl, hj]
        simp [hx]
      · rw [if_neg e3]
        cases hi : es[i]? with
        | none => rfl
        | some y =>
          simp only [Option.map_some, Function.comp]
          rw [if_neg]
          intro hy
          have hnd := h.nd
          rw [← hE, List.map_map] at hnd
          have h1 : (es.toList.map (Prod.fst ∘ fun e : MapEntry => (e.key, e.val)))[i]? = some k := by rw [List.getElem?_map, Array.getElem?_toList, hi]; simp [hy]
          have h2 : (es.toList.map (Prod.fst ∘ fun e : MapEntry => (e.key, e.val)))[j]? = some k := by rw [List.getElem?_map, Array.getElem?_toList, hj]; simp [hx]
          have hil := (List.getElem?_eq_some_iff.1 h1).1
          exact e3 (((List.getElem?_inj hil hnd).1 (h1.trans h2.symm)).symm)
    · intro y hy
      have : y.1 ∈ (upE E k v).map Prod.fst := List.mem_map.2 ⟨y, hy, rfl⟩
      rw [upE_keys] at this
      obtain ⟨z, hz, e⟩ := List.mem_map.1 this
      rw [← e]
      exact h.ok z hz
    · intro es' clk' h'
      have e2 := (MapKept.heap_set (o' := Obj.map (es.modify j fun e => { e with key := k, val := v }) clk) hb).1.symm.trans h'
      simp at e2
      obtain ⟨rfl, rfl⟩ := e2
      exact MapKept.stamped_modify (h.st _ _ hb) _ _ (fun _ _ => rfl) (fun e _ he => by
        rw [hj] at he
        cases he
        exact hx.symm)
theorem look_arm {P : Program} {w : World} {ops : Array Oper} {rest : List Oper} {a : Act} {Q : Exit → Act → World → Prop} {tt : TypeId} {ps : String} {af} {d : Nat} {t : TypeId} {x y : Operand} {p k v : Value} {c : Bool}
    (hr : (Instr.lookup t p k c).run P w = .ok v w) (hx : a.eval x = p) (hy : a.eval y = k) (h : wpList P ops Q rest (a.put (some d) v) w) :
    wpList P ops Q ({ dst := some d, op := .lookup t x y c, type := tt, pos := ps, after := af, guard := none } :: rest) a w := by
  refine wpList_plain rfl fun K hK => ?_
  unfold Oper.wp
  simp [execOp, hx, hy, hr, Result.andThen]
  exact hK _ _ h
theorem upd_arm {P : Program} {w w' : World} {ops : Array Oper} {rest : List Oper} {a : Act} {Q : Exit → Act → World → Prop} {tt : TypeId} {ps : String} {af} {t : TypeId} {x y z : Operand} {p k v : Value}
    (hr : (Instr.mapUpdate t p k v).run P w = .ok () w') (hx : a.eval x = p) (hy : a.eval y = k) (hz : a.eval z = v) (h : wpList P ops Q rest a w') :
    wpList P ops Q ({ dst := none, op := .mapUpdate t x y z, type := tt, pos := ps, after := af, guard := none } :: rest) a w := by
  refine wpList_plain rfl fun K hK => ?_
  unfold Oper.wp
  simp [execOp, hx, hy, hz, hr, Result.andThen]
  exact hK _ _ h
theorem run_mkMap {t k e : TypeId} (ht : Try.prog.underlying t = some (.map k e)) (w : World) : (Instr.makeMap t none).run Try.prog w = .ok (.map (some w.heap.size)) (w.alloc (.map #[] 0)) := by
  simp [Instr.makeMap, run_underlying ht, go_sem]
/-! The keys. -/
theorem laidOut : laidOutB Try.prog = true := by kernel_rfl
theorem ikey : Kd 3 := Maps.int_keyed Try.underlying3
theorem wkey : Kd 29 := Maps.Keyed.of_law (deep_law_laid laidOut (m := 5) (by omega) (of_decide_eq_true (by kernel_rfl)) (by kernel_rfl) (by kernel_rfl))
theorem fkey : Kd 95 := Maps.Keyed.of_law (deep_law_laid laidOut (m := 5) (by omega) (of_decide_eq_true (by kernel_rfl)) (by kernel_rfl) (by kernel_rfl))
end Go.Proofs.Yticgammbjcdobaa
