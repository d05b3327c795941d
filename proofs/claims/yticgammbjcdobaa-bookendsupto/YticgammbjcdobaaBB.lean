import Derived.Test.YticgammbjcdobaaA3
import Derived.Deep.MidRow
namespace Go.Proofs.Yticgammbjcdobaa
open Go.RowKit
set_option linter.unusedVariables false
set_option linter.unusedSimpArgs false
end Go.Proofs.Yticgammbjcdobaa
namespace Go.Proofs.Yticgammbjcdobaa
open Go.RowKit
set_option linter.unusedVariables false
set_option linter.unusedSimpArgs false
theorem rangeAt_new (W : World) (cs : List Value) (t : TypeId) : (W.alloc (.cells cs.toArray t)).rangeAt W.heap.size 0 cs := by
  intro j v hv
  have hj := (List.getElem?_eq_some_iff.1 hv)
  simp [go_sem, hv]
theorem load30 (W : World) (b : Nat) (cs : List Value) (hb : b = W.heap.size) (hl : cs.length = 6) : (loadVar 39 ⟨b, 0, none⟩).run Try.prog (W.alloc (.cells cs.toArray 39)) = .ok (.agg cs.toArray) (W.alloc (.cells cs.toArray 39)) := by
  subst hb
  exact run_loadVar_mid (P := Try.prog) _ _ 0 39 cs _ (rangeAt_new W cs 39) Try.underlying39 rfl (by rw [hl]; kernel_rfl)
end Go.Proofs.Yticgammbjcdobaa
namespace Go.Proofs.Yticgammbjcdobaa
open Go.RowKit
set_option linter.unusedVariables false
theorem hid {p : Prop} (h : p) : Hid p := h
theorem ld_arm {P : Program} {w : World} {ops : Array Oper} {rest : List Oper} {a : Act} {Q : Exit → Act → World → Prop} {d : Option Tmp} {tt : TypeId} {ps : String} {af} {ty : TypeId} {x : Operand} {p v : Value}
    (hr : (Instr.loadAt ty p).run P w = .ok v w) (hx : a.eval x = p) (h : wpList P ops Q rest (a.put d v) w) :
    wpList P ops Q ({ dst := d, op := .load ty x, type := tt, pos := ps, after := af, guard := none } :: rest) a w := by
  refine wpList_plain rfl fun K hK => ?_
  unfold Oper.wp execOp
  simp only [hx, hr, Sem.run_bind, Sem.run_pure, Result.andThen_ok]
  exact hK _ _ h
theorem ld_armg {P : Program} {w : World} {ops : Array Oper} {rest : List Oper} {a : Act} {Q : Exit → Act → World → Prop} {d : Option Tmp} {tt : TypeId} {ps : String} {af} {gd} {ty : TypeId} {x : Operand} {p v : Value}
    (hr : (Instr.loadAt ty p).run P w = .ok v w) (hx : a.eval x = p) (hw : Region.wanted { dst := d, op := .load ty x, type := tt, pos := ps, after := af, guard := gd } (yielded ops a.tmps) = true) (h : wpList P ops Q rest (a.put d v) w) :
    wpList P ops Q ({ dst := d, op := .load ty x, type := tt, pos := ps, after := af, guard := gd } :: rest) a w := by
  refine wpList_step fun K hK => ?_
  rw [if_pos hw]
  unfold Oper.wp execOp
  simp only [hx, hr, Sem.run_bind, Sem.run_pure, Result.andThen_ok]
  exact hK _ _ h
theorem st_arm {P : Program} {w w' : World} {ops : Array Oper} {rest : List Oper} {a : Act} {Q : Exit → Act → World → Prop} {d : Option Tmp} {tt : TypeId} {ps : String} {af} {ty : TypeId} {x y : Operand} {p v : Value}
    (hr : (Instr.storeAt ty p v).run P w = .ok () w') (hx : a.eval x = p) (hy : a.eval y = v) (h : wpList P ops Q rest (a.put d undef) w') :
    wpList P ops Q ({ dst := d, op := .store ty x y, type := tt, pos := ps, after := af, guard := none } :: rest) a w := by
  refine wpList_plain rfl fun K hK => ?_
  unfold Oper.wp execOp
  simp only [hx, hy, hr, Sem.run_bind, Sem.run_pure, Result.andThen_ok]
  exact hK _ _ h
theorem info39 : (Try.prog.info? 39).map (·.size) = some 6 := by kernel_rfl
theorem ld30 {w : World} {b o : Nat} {L : List Value} (h : w.rangeAt b o L) (hl : L.length = 6) : (Instr.loadAt 39 (.pointer (some ⟨b, o, none⟩))).run Try.prog w = .ok (.agg L.toArray) w :=
  run_loadAt_mid w b o 39 L _ h Try.underlying39 rfl (by rw [info39, hl])
structure Bx (w : World) (b : Nat) (L : List Value) : Prop where
  range : w.rangeAt b 0 L
  there : w.there b 0 L.length
theorem Bx.but {S : Nat → Prop} {w w' : World} {b : Nat} {L : List Value} (hb : But S w w') (h : Bx w b L) (hn : ¬ S b) : Bx w' b L := by
  refine ⟨fun j v hv => ?_, fun j hj => ?_⟩
  · have hc := h.range j v hv
    have hk := hb.block b (World.block_lt_of_cell? _ _ hc) hn
    rw [World.cell?_of_block (w := w) hk]
    exact hc
  · obtain ⟨h1, h2⟩ := h.there j hj
    obtain ⟨v, hv⟩ := Option.isSome_iff_exists.1 h1
    have hk := hb.block b (World.block_lt_of_cell? _ _ hv) hn
    exact ⟨by rw [World.cell?_of_block (w := w) hk]; exact h1, by rw [World.frozen?_of_block hk]; exact h2⟩
theorem Bx.later {w w' : World} {b : Nat} {L : List Value} (hb : Below w.heap.size w w') (h : Bx w b L) : Bx w' b L := h.but (S := fun _ => False) (But.of hb) (fun h => h)
theorem Bx.new (w : World) (L : List Value) (t : TypeId) : Bx (w.alloc (.cells L.toArray t)) w.heap.size L := by
  refine ⟨rangeAt_new w L t, fun j hj => ⟨?_, ?_⟩⟩
  · rw [rangeAt_new w L t j L[j] (by simp [hj])]; rfl
  · simp [go_sem]
theorem setCells_but {S : Nat → Prop} {b : Nat} (hb : S b) : ∀ (vs : List Value) (o : Nat) {a w : World}, But S a w → But S a (w.setCells b o vs)
  | [], _, _, _, h => h
  | v :: r, o, a, w, h => by rw [World.setCells]; exact setCells_but hb r (o + 1) (h.setCell hb _)
theorem frozen_setCells (b : Nat) (x : Addr) : ∀ (vs : List Value) (o : Nat) (w : World), (w.setCells b o vs).frozen? x = w.frozen? x
  | [], _, _ => rfl
  | v :: r, o, w => by rw [World.setCells, frozen_setCells b x r]; simp
theorem Bx.set {w : World} {b : Nat} {L M : List Value} (h : Bx w b L) (hl : M.length = L.length) : Bx (w.setCells b 0 M) b M := by
  refine ⟨World.rangeAt_setCells_same _ _ _ _ (hl ▸ h.there), fun j hj => ?_⟩
  obtain ⟨h1, h2⟩ := h.there j (by omega)
  exact ⟨World.isSome_setCells _ _ _ _ _ h1, by rw [frozen_setCells]; exact h2⟩
theorem Bx.lt {w : World} {b : Nat} {L : List Value} (h : Bx w b L) (hl : 0 < L.length) : b < w.heap.size := by
  obtain ⟨h1, _⟩ := h.there 0 hl
  obtain ⟨v, hv⟩ := Option.isSome_iff_exists.1 h1
  exact World.block_lt_of_cell? _ _ hv
theorem Bx.cell {w : World} {b : Nat} {L : List Value} (h : Bx w b L) (j : Nat) {v : Value} (hv : L[j]? = some v) : w.cell? ⟨b, j, none⟩ = some v := by
  have := h.range j v hv
  rwa [Nat.zero_add] at this
theorem stc {w : World} {b o n : Nat} {L : List Value} (h : w.there b o n) (hl : L.length = n) (h1 : ∀ v ∈ L, v.oneCell' = true) : (storeCells ⟨b, o, none⟩ L).run Try.prog w = .ok () (w.setCells b o L) :=
  run_storeCells_cells (P := Try.prog) b o L 0 w (fun j hj => by rw [Nat.add_zero]; exact (h j (by omega)).1) (fun j hj => by rw [Nat.add_zero]; exact (h j (by omega)).2) h1
end Go.Proofs.Yticgammbjcdobaa
