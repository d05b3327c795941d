import Derived.Test.YtfeilkhlapnpoaaQ5
namespace Go.Proofs.Ytfeilkhlapnpoaa
open Go.RowKit Go.Maps
set_option linter.unusedVariables false

/-- A call of a script. -/
structure Sp where
  kd : Int
  wh : Int
  x : Int
  n : Int
/-- Its four cells. -/
structure Sb (w : World) (b o : Nat) (s : Sp) : Prop where
  c0 : w.cell? ⟨b, o, none⟩ = some (.int .i64 s.kd)
  c1 : w.cell? ⟨b, o + 1, none⟩ = some (.int .i64 s.wh)
  c2 : w.cell? ⟨b, o + 2, none⟩ = some (.int .i64 s.x)
  c3 : w.cell? ⟨b, o + 3, none⟩ = some (.int .i64 s.n)
theorem Sb.but {S : Nat → Prop} {w w' : World} {b o : Nat} {s : Sp} (hb : But S w w') (h : Sb w b o s) (hn : ¬ S b) : Sb w' b o s :=
  ⟨cell_but hb h.c0 hn, cell_but hb h.c1 hn, cell_but hb h.c2 hn, cell_but hb h.c3 hn⟩
theorem Sb.later {w w' : World} {b o : Nat} {s : Sp} (hb : Below w.heap.size w w') (h : Sb w b o s) : Sb w' b o s := h.but (S := fun _ => False) (But.of hb) (fun h => h)
theorem Sb.new (w : World) (s : Sp) : Sb (w.alloc (Obj.cells #[.int .i64 s.kd, .int .i64 s.wh, .int .i64 s.x, .int .i64 s.n] 29)) w.heap.size 0 s :=
  ⟨by simp [go_sem], by simp [go_sem], by simp [go_sem], by simp [go_sem]⟩
/-- A script of n calls. -/
structure Ss (w : World) (a : Option Addr) (n : Nat) (f : Nat → Sp) : Prop where
  at_ : 0 < n → ∃ b o, a = some ⟨b, o, none⟩ ∧ ∀ i, i < n → Sb w b (o + i * 4) (f i)
  ok : ∀ i, i < n → (Lit.int .i64 (f i).x).wf = true
theorem Ss.later {w w' : World} {a : Option Addr} {n : Nat} {f : Nat → Sp} (h : Ss w a n f) (hb : Below w.heap.size w w') : Ss w' a n f :=
  ⟨fun h0 => by
    obtain ⟨b, o, e, hc⟩ := h.at_ h0
    exact ⟨b, o, e, fun i hi => (hc i hi).later hb⟩, h.ok⟩
end Go.Proofs.Ytfeilkhlapnpoaa
