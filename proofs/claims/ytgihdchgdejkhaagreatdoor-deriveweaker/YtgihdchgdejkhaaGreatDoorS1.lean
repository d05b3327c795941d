import Derived.Test.YtgihdchgdejkhaaGreatDoorF3
namespace Go.Proofs.YtgihdchgdejkhaaGreatDoor.D
open Go.RowKit
open Go.Proofs.YtgihdchgdejkhaaGreatDoor.H (B64 Cp)
set_option linter.unusedVariables false

/-! ### A script -/
structure Sp where
  kd : Int
  ob : Int
  at_ : Int
  r : Int
  c : Cp
/-- A call of the script in memory. -/
structure Sb (w : World) (b o : Nat) (s : Sp) : Prop where
  c0 : w.cell? ⟨b, o, none⟩ = some (.int .i64 s.kd)
  c1 : w.cell? ⟨b, o + 1, none⟩ = some (.int .i64 s.ob)
  c2 : w.cell? ⟨b, o + 2, none⟩ = some (.int .i64 s.at_)
  c3 : w.cell? ⟨b, o + 3, none⟩ = some (.int .i64 s.r)
  c4 : w.cell? ⟨b, o + 4, none⟩ = some (.int .i64 s.c.1)
  c5 : w.cell? ⟨b, o + 5, none⟩ = some (.int .u64 (s.c.2.1 : Int))
  c6 : w.cell? ⟨b, o + 6, none⟩ = some (.int .u64 (s.c.2.2 : Int))
theorem Sb.but {S : Nat → Prop} {w w' : World} {b o : Nat} {s : Sp} (h : Sb w b o s) (hb : But S w w') (hn : ¬ S b) : Sb w' b o s := ⟨cell_but hb h.c0 hn, cell_but hb h.c1 hn, cell_but hb h.c2 hn, cell_but hb h.c3 hn, cell_but hb h.c4 hn, cell_but hb h.c5 hn, cell_but hb h.c6 hn⟩
theorem Sb.later {w w' : World} {b o : Nat} {s : Sp} (h : Sb w b o s) (hb : Below w.heap.size w w') : Sb w' b o s := h.but (S := fun _ => False) (But.of hb) (fun h => h)
theorem Sb.lt {w : World} {b o : Nat} {s : Sp} (h : Sb w b o s) : b < w.heap.size := World.block_lt_of_cell? _ _ h.c0
def Sp.ok (s : Sp) : Prop := ((Lit.int .i64 s.ob).wf = true ∧ (Lit.int .i64 s.c.1).wf = true) ∧ s.c.2.1 < B64 ∧ s.c.2.2 < B64
structure Ss (w : World) (a : Option Addr) (n : Nat) (f : Nat → Sp) : Prop where
  at_ : 0 < n → ∃ b o, a = some ⟨b, o, none⟩ ∧ ∀ i, i < n → Sb w b (o + i * 7) (f i)
  ok : ∀ i, i < n → (f i).ok
theorem Ss.later {w w' : World} {a : Option Addr} {n : Nat} {f : Nat → Sp} (h : Ss w a n f) (hb : Below w.heap.size w w') : Ss w' a n f :=
  ⟨fun h0 => by obtain ⟨b, o, e, hi⟩ := h.at_ h0; exact ⟨b, o, e, fun i hi' => (hi i hi').later hb⟩, h.ok⟩
def spV (s : Sp) : Value := .agg #[.int .i64 s.kd, .int .i64 s.ob, .int .i64 s.at_, .int .i64 s.r, .int .i64 s.c.1, .int .u64 (s.c.2.1 : Int), .int .u64 (s.c.2.2 : Int)]
end Go.Proofs.YtgihdchgdejkhaaGreatDoor.D
