import Derived.Test.YtgihdchgdejkhaaGreatDoorHC
namespace Go.Proofs.YtgihdchgdejkhaaGreatDoor.H
open Go.RowKit
set_option linter.unusedVariables false

theorem below_drewN {k : Nat} {w W : World} (h : Below k w W) (q : Nat) : Below k w (W.drewN q) := ⟨h.os, h.tape, h.output, h.size, h.block⟩
/-- A capability in a block of its own. -/
structure Bx (w : World) (b : Nat) (o : Int) (hi lo : Nat) : Prop where
  c0 : w.cell? ⟨b, 0, none⟩ = some (.int .i64 o)
  c1 : w.cell? ⟨b, 1, none⟩ = some (.int .u64 (hi : Int))
  c2 : w.cell? ⟨b, 2, none⟩ = some (.int .u64 (lo : Int))
theorem Bx.new (w : World) (o : Int) (hi lo : Nat) : Bx (w.alloc (Obj.cells #[.int .i64 o, .int .u64 (hi : Int), .int .u64 (lo : Int)] 36)) w.heap.size o hi lo :=
  ⟨by simp [go_sem], by simp [go_sem], by simp [go_sem]⟩
theorem Bx.but {S : Nat → Prop} {w w' : World} {b : Nat} {o : Int} {hi lo : Nat} (hb : But S w w') (h : Bx w b o hi lo) (hn : ¬ S b) : Bx w' b o hi lo := ⟨cell_but hb h.c0 hn, cell_but hb h.c1 hn, cell_but hb h.c2 hn⟩
theorem Bx.later {w w' : World} {b : Nat} {o : Int} {hi lo : Nat} (hb : Below w.heap.size w w') (h : Bx w b o hi lo) : Bx w' b o hi lo := h.but (S := fun _ => False) (But.of hb) (fun h => h)
/-- Are they the same? -/
def cEq (a b c d e f : Int) : Bool := decide (a = d ∧ b = e ∧ c = f)
theorem eqlC (a b c d e f : Int) (w : World) : (binOp .eql 36 (.agg #[.int .i64 a, .int .u64 b, .int .u64 c]) (.agg #[.int .i64 d, .int .u64 e, .int .u64 f])).run Tryz.prog w = .ok (.bool (cEq a b c d e f)) w := by
  unfold cEq
  by_cases h1 : a = d
  · subst h1
    by_cases h2 : b = e
    · subst h2
      by_cases h3 : c = f
      · subst h3; simp [go_sem]
      · simp [go_sem, h3]
    · simp [go_sem, h2]
  · simp [go_sem, h1]
end Go.Proofs.YtgihdchgdejkhaaGreatDoor.H
