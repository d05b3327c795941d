import Derived.Test.YtpajmpfdaihehaaC6
namespace Go.Proofs.Ytpajmpfdaihehaa
open Go.RowKit
set_option linter.unusedVariables false

/-- A call of a script: kind, parent, number. -/
abbrev Op3 := Int × Int × Int
def stpE (m : Nat) (l : Fo) (o : Op3) : Int := if o.1 = 1 then rootE m l o.2.2 else if o.1 = 2 then childE m l o.2.1 o.2.2 else if o.1 = 3 then cutE l o.2.2 else 0
def stpL (m : Nat) (l : Fo) (o : Op3) : Fo := if o.1 = 1 then rootL m l o.2.2 else if o.1 = 2 then childL m l o.2.1 o.2.2 else if o.1 = 3 then cutL l o.2.2 else l
def opV (o : Op3) : Value := .agg #[.int .i64 o.1, .int .i64 o.2.1, .int .i64 o.2.2]
theorem Did.ki {w : World} {g gb m : Nat} {c : Int} {l : Fo} {e : Ending} {w' : World} (h : Did w g gb m c l e w') : Ki w' g gb m l := h.2.1
theorem Did.pre {w w1 : World} {g gb m : Nat} {c : Int} {l : Fo} {e : Ending} {w' : World} (hb : Below w.heap.size w w1) (h : Did w1 g gb m c l e w') : Did w g gb m c l e w' :=
  ⟨h.1, h.2.1, (But.of hb).trans h.2.2⟩
end Go.Proofs.Ytpajmpfdaihehaa
