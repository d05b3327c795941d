import Derived.Test.YthfmmfphnimlnaaIS
import Derived.Lib.SlBytesConst
namespace Go.Proofs.Ythfmmfphnimlnaa
open Go.RowKit
set_option linter.unusedVariables false
set_option linter.unusedSimpArgs false
theorem share {P : Program} {md : Region.Mode} {ops : Array Oper} {Q : Exit → Act → World → Prop} {S : World → Prop} {f0 : Nat} {l0 : Array Bool} {a0 : Act} {u0 : World} (X : Type) (f : Nat) (l : Array Bool) (A : Act → X → Act) (pre : X → World → Prop)
    (key : ∀ (x : X) (u : World), pre x u → wpAnyH P md ops Q S f l (A a0 x) u)
    (h : Hid (∀ (x : X) (u : World), pre x u → wpAnyH P md ops Q S f l (A a0 x) u) → wpAnyH P md ops Q S f0 l0 a0 u0) : wpAnyH P md ops Q S f0 l0 a0 u0 := h key
def mkA : Array Value := #[.int .u8 115, .int .u8 101, .int .u8 115, .int .u8 97, .int .u8 109, .int .u8 101, .int .u8 32, .int .u8 49]
theorem mk_row {u : World} {b : Nat} {z : Nat × Nat} (h : u.heap[b]? = some (.cells mkA 5 z)) : Row u (some ⟨b, 0, none⟩) 8 8 mkB := by
  refine Row.at rfl (Nat.le_refl _) (by decide) (fun i hi => ?_)
  have hi8 : i < 8 := hi
  rw [Nat.zero_add]
  simp only [World.cell?, h]
  have : i = 0 ∨ i = 1 ∨ i = 2 ∨ i = 3 ∨ i = 4 ∨ i = 5 ∨ i = 6 ∨ i = 7 := by omega
  rcases this with rfl | rfl | rfl | rfl | rfl | rfl | rfl | rfl <;> rfl
/-- A conversion of a row of bytes that is written out: it is marked. -/
theorem conv_mark {u : World} {b : Nat} (h : u.heap[b]? = some (.cells mkA 5 (0, 0))) :
    ∃ u', (convert 30 30 (.slice (some ⟨b, 0, none⟩) 8 8)).run Try.prog u = .ok (.slice (some ⟨b, 0, none⟩) 8 8) u' ∧ u'.heap[b]? = some (.cells mkA 5 (8, 9)) ∧ (∀ p, u'.cell? p = u.cell? p) ∧ But (· = b) u u' := by
  have hsh : u.shape? b = some (5, 8) := by unfold World.shape?; rw [h]; rfl
  have hl : b < u.heap.size := (Array.getElem?_eq_some_iff.1 h).1
  refine ⟨u.freeze ⟨b, 8, none⟩ 1, ?_, ?_, ?_, ?_⟩
  · simp [convert, run_underlying Try.underlying30, run_underlying Try.underlying5, markStringish, hsh]
  · unfold World.freeze
    rw [if_neg (by decide)]
    simp [Array.getElem?_modify, h]
  · intro p
    unfold World.freeze
    rw [if_neg (by decide)]
    unfold World.cell?
    simp only [Array.getElem?_modify]
    by_cases e : b = p.block
    · subst e
      rw [if_pos rfl, h]
      rfl
    · rw [if_neg e]
  · refine ⟨?_, ?_, ?_, ?_, fun k hk hn => ?_⟩ <;> unfold World.freeze <;> rw [if_neg (by decide)]
    · simp
    · rw [Array.getElem?_modify, if_neg (fun e => hn e.symm)]
theorem Row.same {u u' : World} {a : Option Addr} {n c : Nat} {L : List Nat} (h : Row u a n c L) (hc : ∀ p, u'.cell? p = u.cell? p) : Row u' a n c L :=
  ⟨h.len, h.cap_, h.none_, fun x hx j v hv => by rw [hc]; exact h.cells x hx j v hv, h.small⟩
theorem wp_conv {P : Program} {w : World} {o : Oper} {a : Act} {K : Act → World → Prop} {Q : Exit → Act → World → Prop} (x : Operand) (t1 t2 : TypeId)
    (ho : o.op = .convert t1 t2 x) (vx : Value) (hx : a.eval x = vx) (v' : Value) (w' : World)
    (hr : (convert t1 t2 vx).run P w = .ok v' w') (h : K (a.put o.dst v') w') : o.wp P a w K Q := by
  unfold Oper.wp execOp
  simp only [ho, hx, hr, Sem.run_bind, Sem.run_pure, Result.andThen_ok]
  exact h
end Go.Proofs.Ythfmmfphnimlnaa
