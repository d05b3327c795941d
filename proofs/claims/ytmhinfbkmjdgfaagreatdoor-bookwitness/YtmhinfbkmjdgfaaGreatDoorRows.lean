/-
  NARROWER THAN 'FOR EVERY INPUT', by the rows' own cells (each row's printed sentence says how): KernelKeeps: laid · KernelPlays: laid · BookWitness: laid · BookChains: laid · ApartHolds: laid · GuessBounds: laid · GuessIns: laid.
  DERIVED. THE GIVEN ROWS OF THIS SEAT. 7 by the template 'for every input the law returns true; each argument reads behind the call as it read before'; 0 by the template 'total and deterministic' (their statements: YtmhinfbkmjdgfaaGreatDoorTotals.lean).
  GIVEN WITH THE SEED: the statements are not yours to turn. If you find one false, say at which input.
  Laid BY PROGRAM, IN A SANDBOX (cutbox-rows.mjs): the forced cells as the released guide's own fill.sh prints them over the translation 7df68001c4bed29a… (all of the seat's roots in one cut). By AI agents, Wed Nov 11 2026. No macro, syntax, notation, axiom, sorry.
-/
import Derived.Test.YtmhinfbkmjdgfaaGreatDoorChecked
import GoSem.Claim
import GoSem.ClaimJoined
import GoSem.ClaimMapViews
import Derived.JoinedTies
import Derived.KernelRfl
namespace Go.Proofs.YtmhinfbkmjdgfaaGreatDoor
/- THE CELL 'sum', in the pinned program and in every row, IS THE sha256 OF THE DUMP (.gsa) THAT YtmhinfbkmjdgfaaGreatDoorProg.lean LOADS. Nothing in Lean hashes anything: it is a label: what it is worth is what the hold of that sum in a sandbox is worth. -/
noncomputable def Tryz.pinned : Pinned := { name := "ytmhinfbkmjdgfaagreatdoor", sum := "7df68001c4bed29a70a4763e9aca58b79fa9358ac476afde8201436439bb1570", checked := Tryz.checked }
namespace Rows
def none {H : Type} : Left H := { results := [], args := [] }

/- WHAT THE LISTED PACKAGE-LEVEL VARIABLES READ AS WHEN THE CALL BEGINS. Each datum BY PROGRAM (the guide's laid-datum.mjs) off the statement by which the dump's own 'gosem.cut.vars' lays the variable. In a bare row this is a premise. The card (YtmhinfbkmjdgfaaGreatDoorCards.lean) ties it to the program's text. -/
def laid_errors_errorType {H : Type} : DataW H := .iface "internal/reflectlite.rtype" (.agg [.ptr (.lit (.string [101, 114, 114, 111, 114]))])

/-- 'sesamelaw21.KernelKeeps': WHATEVER THE INPUT: true; the input reads as it did. -/
def kernelKeepsSpec : ChangeSpec := { name := "kernelKeeps", fn := fun _ => fun
  | [d1, d2, d3] => { results := [.lit (.bool true)], args := [d1, d2, d3] }
  | _ => none }
def kernelKeepsRow : OpenClaim := { program := "ytmhinfbkmjdgfaagreatdoor", sum := "7df68001c4bed29a70a4763e9aca58b79fa9358ac476afde8201436439bb1570", func := "sesame/sesamelaw21.KernelKeeps", spec := "kernelKeeps", inPlace := ["slices.overlaps[int]", "internal/reflectlite.ValueOf", "(internal/reflectlite.Value).Type", "(internal/reflectlite.Value).IsNil", "internal/reflectlite.TypeOf", "(internal/reflectlite.Value).Elem", "(internal/reflectlite.Value).Set"], unfollowed := true, recurses := true, named := ["errors.errorType"], plainKeys := false, apart := false, laid := [("errors.errorType", laid_errors_errorType)] }
def KernelKeepsSaid : Prop := kernelKeepsRow.holds Tryz.pinned (OpenSpec.ofChange kernelKeepsSpec)

/-- ITS FALSE NEIGHBOUR: 'it returns false'. Refute it at one input. -/
def kernelKeepsWrong : ChangeSpec := { name := "kernelKeeps", fn := fun _ => fun
  | [d1, d2, d3] => { results := [.lit (.bool false)], args := [d1, d2, d3] }
  | _ => none }
def KernelKeepsWrongFalsely : Prop := kernelKeepsRow.holds Tryz.pinned (OpenSpec.ofChange kernelKeepsWrong)

/-- 'sesamelaw21.KernelPlays': WHATEVER THE INPUT: true; the input reads as it did. -/
def kernelPlaysSpec : ChangeSpec := { name := "kernelPlays", fn := fun _ => fun
  | [d1, d2, d3] => { results := [.lit (.bool true)], args := [d1, d2, d3] }
  | _ => none }
def kernelPlaysRow : OpenClaim := { program := "ytmhinfbkmjdgfaagreatdoor", sum := "7df68001c4bed29a70a4763e9aca58b79fa9358ac476afde8201436439bb1570", func := "sesame/sesamelaw21.KernelPlays", spec := "kernelPlays", inPlace := ["slices.overlaps[int]", "internal/reflectlite.ValueOf", "(internal/reflectlite.Value).Type", "(internal/reflectlite.Value).IsNil", "internal/reflectlite.TypeOf", "(internal/reflectlite.Value).Elem", "(internal/reflectlite.Value).Set"], unfollowed := true, recurses := true, named := ["errors.errorType"], plainKeys := false, apart := false, laid := [("errors.errorType", laid_errors_errorType)] }
def KernelPlaysSaid : Prop := kernelPlaysRow.holds Tryz.pinned (OpenSpec.ofChange kernelPlaysSpec)

/-- ITS FALSE NEIGHBOUR: 'it returns false'. Refute it at one input. -/
def kernelPlaysWrong : ChangeSpec := { name := "kernelPlays", fn := fun _ => fun
  | [d1, d2, d3] => { results := [.lit (.bool false)], args := [d1, d2, d3] }
  | _ => none }
def KernelPlaysWrongFalsely : Prop := kernelPlaysRow.holds Tryz.pinned (OpenSpec.ofChange kernelPlaysWrong)

/-- 'sesamelaw24.BookWitness': WHATEVER THE INPUT: true; the input reads as it did. -/
def bookWitnessSpec : ChangeSpec := { name := "bookWitness", fn := fun _ => fun
  | [d1, d2, d3] => { results := [.lit (.bool true)], args := [d1, d2, d3] }
  | _ => none }
def bookWitnessRow : OpenClaim := { program := "ytmhinfbkmjdgfaagreatdoor", sum := "7df68001c4bed29a70a4763e9aca58b79fa9358ac476afde8201436439bb1570", func := "sesame/sesamelaw24.BookWitness", spec := "bookWitness", inPlace := ["slices.overlaps[int]", "internal/reflectlite.ValueOf", "(internal/reflectlite.Value).Type", "(internal/reflectlite.Value).IsNil", "internal/reflectlite.TypeOf", "(internal/reflectlite.Value).Elem", "(internal/reflectlite.Value).Set"], unfollowed := true, recurses := true, named := ["errors.errorType"], plainKeys := false, apart := false, laid := [("errors.errorType", laid_errors_errorType)] }
def BookWitnessSaid : Prop := bookWitnessRow.holds Tryz.pinned (OpenSpec.ofChange bookWitnessSpec)

/-- ITS FALSE NEIGHBOUR: 'it returns false'. Refute it at one input. -/
def bookWitnessWrong : ChangeSpec := { name := "bookWitness", fn := fun _ => fun
  | [d1, d2, d3] => { results := [.lit (.bool false)], args := [d1, d2, d3] }
  | _ => none }
def BookWitnessWrongFalsely : Prop := bookWitnessRow.holds Tryz.pinned (OpenSpec.ofChange bookWitnessWrong)

/-- 'sesamelaw24.BookChains': WHATEVER THE INPUT: true; the input reads as it did. -/
def bookChainsSpec : ChangeSpec := { name := "bookChains", fn := fun _ => fun
  | [d1, d2, d3] => { results := [.lit (.bool true)], args := [d1, d2, d3] }
  | _ => none }
def bookChainsRow : OpenClaim := { program := "ytmhinfbkmjdgfaagreatdoor", sum := "7df68001c4bed29a70a4763e9aca58b79fa9358ac476afde8201436439bb1570", func := "sesame/sesamelaw24.BookChains", spec := "bookChains", inPlace := ["slices.overlaps[int]", "internal/reflectlite.ValueOf", "(internal/reflectlite.Value).Type", "(internal/reflectlite.Value).IsNil", "internal/reflectlite.TypeOf", "(internal/reflectlite.Value).Elem", "(internal/reflectlite.Value).Set"], unfollowed := true, recurses := true, named := ["errors.errorType"], plainKeys := false, apart := false, laid := [("errors.errorType", laid_errors_errorType)] }
def BookChainsSaid : Prop := bookChainsRow.holds Tryz.pinned (OpenSpec.ofChange bookChainsSpec)

/-- ITS FALSE NEIGHBOUR: 'it returns false'. Refute it at one input. -/
def bookChainsWrong : ChangeSpec := { name := "bookChains", fn := fun _ => fun
  | [d1, d2, d3] => { results := [.lit (.bool false)], args := [d1, d2, d3] }
  | _ => none }
def BookChainsWrongFalsely : Prop := bookChainsRow.holds Tryz.pinned (OpenSpec.ofChange bookChainsWrong)

/-- 'sesamelaw25.ApartHolds': WHATEVER THE INPUT: true; the input reads as it did. -/
def apartHoldsSpec : ChangeSpec := { name := "apartHolds", fn := fun _ => fun
  | [d1, d2] => { results := [.lit (.bool true)], args := [d1, d2] }
  | _ => none }
def apartHoldsRow : OpenClaim := { program := "ytmhinfbkmjdgfaagreatdoor", sum := "7df68001c4bed29a70a4763e9aca58b79fa9358ac476afde8201436439bb1570", func := "sesame/sesamelaw25.ApartHolds", spec := "apartHolds", inPlace := ["slices.overlaps[int]", "internal/reflectlite.ValueOf", "(internal/reflectlite.Value).Type", "(internal/reflectlite.Value).IsNil", "internal/reflectlite.TypeOf", "(internal/reflectlite.Value).Elem", "(internal/reflectlite.Value).Set"], unfollowed := true, recurses := true, named := ["errors.errorType"], plainKeys := false, apart := false, laid := [("errors.errorType", laid_errors_errorType)] }
def ApartHoldsSaid : Prop := apartHoldsRow.holds Tryz.pinned (OpenSpec.ofChange apartHoldsSpec)

/-- ITS FALSE NEIGHBOUR: 'it returns false'. Refute it at one input. -/
def apartHoldsWrong : ChangeSpec := { name := "apartHolds", fn := fun _ => fun
  | [d1, d2] => { results := [.lit (.bool false)], args := [d1, d2] }
  | _ => none }
def ApartHoldsWrongFalsely : Prop := apartHoldsRow.holds Tryz.pinned (OpenSpec.ofChange apartHoldsWrong)

/-- 'sesamelaw26.GuessBounds': WHATEVER THE INPUT: true; the input reads as it did. -/
def guessBoundsSpec : ChangeSpec := { name := "guessBounds", fn := fun _ => fun
  | [d1, d2] => { results := [.lit (.bool true)], args := [d1, d2] }
  | _ => none }
def guessBoundsRow : OpenClaim := { program := "ytmhinfbkmjdgfaagreatdoor", sum := "7df68001c4bed29a70a4763e9aca58b79fa9358ac476afde8201436439bb1570", func := "sesame/sesamelaw26.GuessBounds", spec := "guessBounds", inPlace := ["slices.overlaps[int]", "internal/reflectlite.ValueOf", "(internal/reflectlite.Value).Type", "(internal/reflectlite.Value).IsNil", "internal/reflectlite.TypeOf", "(internal/reflectlite.Value).Elem", "(internal/reflectlite.Value).Set"], unfollowed := true, recurses := true, named := ["errors.errorType"], plainKeys := false, apart := false, laid := [("errors.errorType", laid_errors_errorType)] }
def GuessBoundsSaid : Prop := guessBoundsRow.holds Tryz.pinned (OpenSpec.ofChange guessBoundsSpec)

/-- ITS FALSE NEIGHBOUR: 'it returns false'. Refute it at one input. -/
def guessBoundsWrong : ChangeSpec := { name := "guessBounds", fn := fun _ => fun
  | [d1, d2] => { results := [.lit (.bool false)], args := [d1, d2] }
  | _ => none }
def GuessBoundsWrongFalsely : Prop := guessBoundsRow.holds Tryz.pinned (OpenSpec.ofChange guessBoundsWrong)

/-- 'sesamelaw26.GuessIns': WHATEVER THE INPUT: true; the input reads as it did. -/
def guessInsSpec : ChangeSpec := { name := "guessIns", fn := fun _ => fun
  | [d1, d2, d3] => { results := [.lit (.bool true)], args := [d1, d2, d3] }
  | _ => none }
def guessInsRow : OpenClaim := { program := "ytmhinfbkmjdgfaagreatdoor", sum := "7df68001c4bed29a70a4763e9aca58b79fa9358ac476afde8201436439bb1570", func := "sesame/sesamelaw26.GuessIns", spec := "guessIns", inPlace := ["slices.overlaps[int]", "internal/reflectlite.ValueOf", "(internal/reflectlite.Value).Type", "(internal/reflectlite.Value).IsNil", "internal/reflectlite.TypeOf", "(internal/reflectlite.Value).Elem", "(internal/reflectlite.Value).Set"], unfollowed := true, recurses := true, named := ["errors.errorType"], plainKeys := false, apart := false, laid := [("errors.errorType", laid_errors_errorType)] }
def GuessInsSaid : Prop := guessInsRow.holds Tryz.pinned (OpenSpec.ofChange guessInsSpec)

/-- ITS FALSE NEIGHBOUR: 'it returns false'. Refute it at one input. -/
def guessInsWrong : ChangeSpec := { name := "guessIns", fn := fun _ => fun
  | [d1, d2, d3] => { results := [.lit (.bool false)], args := [d1, d2, d3] }
  | _ => none }
def GuessInsWrongFalsely : Prop := guessInsRow.holds Tryz.pinned (OpenSpec.ofChange guessInsWrong)

/- THE SECOND FORM. 'bulk': how many values and letters a reading holds, each counted each time it is reached (what is shared counts as often as it is met; a slice's spare places count too). A statement '..UptoSaid' is the law's where the arguments, and the package variables that the reading takes, are together of bulk at most 1048576: NARROWER than '..Said'. Prove '..Said' where nothing that the law and all that it calls make is longer than what came in: it says more and counts as full. Else prove '..UptoSaid'. A law counts once. -/
mutual
def uptoBulk {H : Type} : DataW H → Nat
  | .lit (.string bytes) => bytes.length + 1
  | .lit _ => 1
  | .nil => 1
  | .ptr d => uptoBulk d + 1
  | .slice elems spare => uptoBulkAll elems + uptoBulkAll spare + 1
  | .agg parts => uptoBulkAll parts + 1
  | .iface _ d => uptoBulk d + 1
  | .map entries => uptoBulkEntries entries + 1
  | .held _ => 1
def uptoBulkAll {H : Type} : List (DataW H) → Nat
  | [] => 0
  | d :: r => uptoBulk d + uptoBulkAll r
def uptoBulkEntries {H : Type} : List (Lit × DataW H) → Nat
  | [] => 0
  | x :: r => uptoBulkEntry x + uptoBulkEntries r
def uptoBulkEntry {H : Type} : Lit × DataW H → Nat
  | (.string bytes, d) => bytes.length + uptoBulk d + 1
  | (_, d) => uptoBulk d + 1
 end
def uptoSmall : (H : Type) → List (DataW H) → Bool := fun _ ds => decide (uptoBulkAll ds ≤ 1048576)
def OpenSpec.upto (s : _root_.Go.ChangeSpec) : _root_.Go.OpenSpec := { _root_.Go.OpenSpec.ofChange s with cond := some uptoSmall }

/-- 'sesamelaw21.KernelKeeps', WHERE WHAT IT READS IS OF BULK AT MOST 1048576: true; the input reads as it did. -/
def kernelKeepsUptoRow : OpenClaim := { program := "ytmhinfbkmjdgfaagreatdoor", sum := "7df68001c4bed29a70a4763e9aca58b79fa9358ac476afde8201436439bb1570", func := "sesame/sesamelaw21.KernelKeeps", spec := "kernelKeeps", inPlace := ["slices.overlaps[int]", "internal/reflectlite.ValueOf", "(internal/reflectlite.Value).Type", "(internal/reflectlite.Value).IsNil", "internal/reflectlite.TypeOf", "(internal/reflectlite.Value).Elem", "(internal/reflectlite.Value).Set"], unfollowed := true, recurses := true, named := ["errors.errorType"], plainKeys := false, apart := false, laid := [("errors.errorType", laid_errors_errorType)], narrowed := true }
def KernelKeepsUptoSaid : Prop := kernelKeepsUptoRow.holds Tryz.pinned (OpenSpec.upto kernelKeepsSpec)

/-- 'sesamelaw21.KernelPlays', WHERE WHAT IT READS IS OF BULK AT MOST 1048576: true; the input reads as it did. -/
def kernelPlaysUptoRow : OpenClaim := { program := "ytmhinfbkmjdgfaagreatdoor", sum := "7df68001c4bed29a70a4763e9aca58b79fa9358ac476afde8201436439bb1570", func := "sesame/sesamelaw21.KernelPlays", spec := "kernelPlays", inPlace := ["slices.overlaps[int]", "internal/reflectlite.ValueOf", "(internal/reflectlite.Value).Type", "(internal/reflectlite.Value).IsNil", "internal/reflectlite.TypeOf", "(internal/reflectlite.Value).Elem", "(internal/reflectlite.Value).Set"], unfollowed := true, recurses := true, named := ["errors.errorType"], plainKeys := false, apart := false, laid := [("errors.errorType", laid_errors_errorType)], narrowed := true }
def KernelPlaysUptoSaid : Prop := kernelPlaysUptoRow.holds Tryz.pinned (OpenSpec.upto kernelPlaysSpec)

/-- 'sesamelaw24.BookWitness', WHERE WHAT IT READS IS OF BULK AT MOST 1048576: true; the input reads as it did. -/
def bookWitnessUptoRow : OpenClaim := { program := "ytmhinfbkmjdgfaagreatdoor", sum := "7df68001c4bed29a70a4763e9aca58b79fa9358ac476afde8201436439bb1570", func := "sesame/sesamelaw24.BookWitness", spec := "bookWitness", inPlace := ["slices.overlaps[int]", "internal/reflectlite.ValueOf", "(internal/reflectlite.Value).Type", "(internal/reflectlite.Value).IsNil", "internal/reflectlite.TypeOf", "(internal/reflectlite.Value).Elem", "(internal/reflectlite.Value).Set"], unfollowed := true, recurses := true, named := ["errors.errorType"], plainKeys := false, apart := false, laid := [("errors.errorType", laid_errors_errorType)], narrowed := true }
def BookWitnessUptoSaid : Prop := bookWitnessUptoRow.holds Tryz.pinned (OpenSpec.upto bookWitnessSpec)

/-- 'sesamelaw24.BookChains', WHERE WHAT IT READS IS OF BULK AT MOST 1048576: true; the input reads as it did. -/
def bookChainsUptoRow : OpenClaim := { program := "ytmhinfbkmjdgfaagreatdoor", sum := "7df68001c4bed29a70a4763e9aca58b79fa9358ac476afde8201436439bb1570", func := "sesame/sesamelaw24.BookChains", spec := "bookChains", inPlace := ["slices.overlaps[int]", "internal/reflectlite.ValueOf", "(internal/reflectlite.Value).Type", "(internal/reflectlite.Value).IsNil", "internal/reflectlite.TypeOf", "(internal/reflectlite.Value).Elem", "(internal/reflectlite.Value).Set"], unfollowed := true, recurses := true, named := ["errors.errorType"], plainKeys := false, apart := false, laid := [("errors.errorType", laid_errors_errorType)], narrowed := true }
def BookChainsUptoSaid : Prop := bookChainsUptoRow.holds Tryz.pinned (OpenSpec.upto bookChainsSpec)

/-- 'sesamelaw25.ApartHolds', WHERE WHAT IT READS IS OF BULK AT MOST 1048576: true; the input reads as it did. -/
def apartHoldsUptoRow : OpenClaim := { program := "ytmhinfbkmjdgfaagreatdoor", sum := "7df68001c4bed29a70a4763e9aca58b79fa9358ac476afde8201436439bb1570", func := "sesame/sesamelaw25.ApartHolds", spec := "apartHolds", inPlace := ["slices.overlaps[int]", "internal/reflectlite.ValueOf", "(internal/reflectlite.Value).Type", "(internal/reflectlite.Value).IsNil", "internal/reflectlite.TypeOf", "(internal/reflectlite.Value).Elem", "(internal/reflectlite.Value).Set"], unfollowed := true, recurses := true, named := ["errors.errorType"], plainKeys := false, apart := false, laid := [("errors.errorType", laid_errors_errorType)], narrowed := true }
def ApartHoldsUptoSaid : Prop := apartHoldsUptoRow.holds Tryz.pinned (OpenSpec.upto apartHoldsSpec)

/-- 'sesamelaw26.GuessBounds', WHERE WHAT IT READS IS OF BULK AT MOST 1048576: true; the input reads as it did. -/
def guessBoundsUptoRow : OpenClaim := { program := "ytmhinfbkmjdgfaagreatdoor", sum := "7df68001c4bed29a70a4763e9aca58b79fa9358ac476afde8201436439bb1570", func := "sesame/sesamelaw26.GuessBounds", spec := "guessBounds", inPlace := ["slices.overlaps[int]", "internal/reflectlite.ValueOf", "(internal/reflectlite.Value).Type", "(internal/reflectlite.Value).IsNil", "internal/reflectlite.TypeOf", "(internal/reflectlite.Value).Elem", "(internal/reflectlite.Value).Set"], unfollowed := true, recurses := true, named := ["errors.errorType"], plainKeys := false, apart := false, laid := [("errors.errorType", laid_errors_errorType)], narrowed := true }
def GuessBoundsUptoSaid : Prop := guessBoundsUptoRow.holds Tryz.pinned (OpenSpec.upto guessBoundsSpec)

/-- 'sesamelaw26.GuessIns', WHERE WHAT IT READS IS OF BULK AT MOST 1048576: true; the input reads as it did. -/
def guessInsUptoRow : OpenClaim := { program := "ytmhinfbkmjdgfaagreatdoor", sum := "7df68001c4bed29a70a4763e9aca58b79fa9358ac476afde8201436439bb1570", func := "sesame/sesamelaw26.GuessIns", spec := "guessIns", inPlace := ["slices.overlaps[int]", "internal/reflectlite.ValueOf", "(internal/reflectlite.Value).Type", "(internal/reflectlite.Value).IsNil", "internal/reflectlite.TypeOf", "(internal/reflectlite.Value).Elem", "(internal/reflectlite.Value).Set"], unfollowed := true, recurses := true, named := ["errors.errorType"], plainKeys := false, apart := false, laid := [("errors.errorType", laid_errors_errorType)], narrowed := true }
def GuessInsUptoSaid : Prop := guessInsUptoRow.holds Tryz.pinned (OpenSpec.upto guessInsSpec)

end Rows
end Go.Proofs.YtmhinfbkmjdgfaaGreatDoor
