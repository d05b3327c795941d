/-
  NARROWER THAN 'FOR EVERY INPUT', by the rows' own cells (each row's printed sentence says how): KernelKnobs: laid · KernelSees: laid · KernelRefuses: laid · KernelGone: laid · KernelNews: laid · KernelKeeps: laid.
  DERIVED. THE GIVEN ROWS OF THIS SEAT. 6 by the template 'for every input the law returns true; each argument reads behind the call as it read before'; 0 by the template 'total and deterministic' (their statements: YtfmhdimaijimlaaGreatDoorTotals.lean).
  GIVEN WITH THE SEED: the statements are not yours to turn. If you find one false, say at which input.
  Laid BY PROGRAM, IN A SANDBOX (cutbox-rows.mjs): the forced cells as the released guide's own fill.sh prints them over the translation 8f4fa6c4c94aba07… (all of the seat's roots in one cut). By AI agents, Wed Nov 11 2026. No macro, syntax, notation, axiom, sorry.
-/
import Derived.Test.YtfmhdimaijimlaaGreatDoorChecked
import GoSem.Claim
import GoSem.ClaimJoined
import GoSem.ClaimMapViews
import Derived.JoinedTies
import Derived.KernelRfl
namespace Go.Proofs.YtfmhdimaijimlaaGreatDoor
/- THE CELL 'sum', in the pinned program and in every row, IS THE sha256 OF THE DUMP (.gsa) THAT YtfmhdimaijimlaaGreatDoorProg.lean LOADS. Nothing in Lean hashes anything: it is a label: what it is worth is what the hold of that sum in a sandbox is worth. -/
noncomputable def Tryz.pinned : Pinned := { name := "ytfmhdimaijimlaagreatdoor", sum := "8f4fa6c4c94aba07c92ce2c0fb6ee45c408d20f8e8314d8f8dea291b218e0aa1", checked := Tryz.checked }
namespace Rows
def none {H : Type} : Left H := { results := [], args := [] }

/- WHAT THE LISTED PACKAGE-LEVEL VARIABLES READ AS WHEN THE CALL BEGINS. Each datum BY PROGRAM (the guide's laid-datum.mjs) off the statement by which the dump's own 'gosem.cut.vars' lays the variable. In a bare row this is a premise. The card (YtfmhdimaijimlaaGreatDoorCards.lean) ties it to the program's text. -/
def laid_errors_errorType {H : Type} : DataW H := .iface "internal/reflectlite.rtype" (.agg [.ptr (.lit (.string [101, 114, 114, 111, 114]))])

/-- 'sesamelaw21.KernelKnobs': WHATEVER THE INPUT: true; the input reads as it did. -/
def kernelKnobsSpec : ChangeSpec := { name := "kernelKnobs", fn := fun _ => fun
  | [d1, d2, d3] => { results := [.lit (.bool true)], args := [d1, d2, d3] }
  | _ => none }
def kernelKnobsRow : OpenClaim := { program := "ytfmhdimaijimlaagreatdoor", sum := "8f4fa6c4c94aba07c92ce2c0fb6ee45c408d20f8e8314d8f8dea291b218e0aa1", func := "sesame/sesamelaw21.KernelKnobs", spec := "kernelKnobs", inPlace := ["slices.overlaps[int]", "internal/reflectlite.ValueOf", "(internal/reflectlite.Value).Type", "(internal/reflectlite.Value).IsNil", "internal/reflectlite.TypeOf", "(internal/reflectlite.Value).Elem", "(internal/reflectlite.Value).Set"], unfollowed := true, recurses := true, named := ["errors.errorType"], apart := false, laid := [("errors.errorType", laid_errors_errorType)] }
def KernelKnobsSaid : Prop := kernelKnobsRow.holds Tryz.pinned (OpenSpec.ofChange kernelKnobsSpec)

/-- ITS FALSE NEIGHBOUR: 'it returns false'. Refute it at one input. -/
def kernelKnobsWrong : ChangeSpec := { name := "kernelKnobs", fn := fun _ => fun
  | [d1, d2, d3] => { results := [.lit (.bool false)], args := [d1, d2, d3] }
  | _ => none }
def KernelKnobsWrongFalsely : Prop := kernelKnobsRow.holds Tryz.pinned (OpenSpec.ofChange kernelKnobsWrong)

/-- 'sesamelaw21.KernelSees': WHATEVER THE INPUT: true; the input reads as it did. -/
def kernelSeesSpec : ChangeSpec := { name := "kernelSees", fn := fun _ => fun
  | [d1, d2, d3] => { results := [.lit (.bool true)], args := [d1, d2, d3] }
  | _ => none }
def kernelSeesRow : OpenClaim := { program := "ytfmhdimaijimlaagreatdoor", sum := "8f4fa6c4c94aba07c92ce2c0fb6ee45c408d20f8e8314d8f8dea291b218e0aa1", func := "sesame/sesamelaw21.KernelSees", spec := "kernelSees", inPlace := ["slices.overlaps[int]", "internal/reflectlite.ValueOf", "(internal/reflectlite.Value).Type", "(internal/reflectlite.Value).IsNil", "internal/reflectlite.TypeOf", "(internal/reflectlite.Value).Elem", "(internal/reflectlite.Value).Set"], unfollowed := true, recurses := true, named := ["errors.errorType"], apart := false, laid := [("errors.errorType", laid_errors_errorType)] }
def KernelSeesSaid : Prop := kernelSeesRow.holds Tryz.pinned (OpenSpec.ofChange kernelSeesSpec)

/-- ITS FALSE NEIGHBOUR: 'it returns false'. Refute it at one input. -/
def kernelSeesWrong : ChangeSpec := { name := "kernelSees", fn := fun _ => fun
  | [d1, d2, d3] => { results := [.lit (.bool false)], args := [d1, d2, d3] }
  | _ => none }
def KernelSeesWrongFalsely : Prop := kernelSeesRow.holds Tryz.pinned (OpenSpec.ofChange kernelSeesWrong)

/-- 'sesamelaw21.KernelRefuses': WHATEVER THE INPUT: true; the input reads as it did. -/
def kernelRefusesSpec : ChangeSpec := { name := "kernelRefuses", fn := fun _ => fun
  | [d1, d2, d3] => { results := [.lit (.bool true)], args := [d1, d2, d3] }
  | _ => none }
def kernelRefusesRow : OpenClaim := { program := "ytfmhdimaijimlaagreatdoor", sum := "8f4fa6c4c94aba07c92ce2c0fb6ee45c408d20f8e8314d8f8dea291b218e0aa1", func := "sesame/sesamelaw21.KernelRefuses", spec := "kernelRefuses", inPlace := ["slices.overlaps[int]", "internal/reflectlite.ValueOf", "(internal/reflectlite.Value).Type", "(internal/reflectlite.Value).IsNil", "internal/reflectlite.TypeOf", "(internal/reflectlite.Value).Elem", "(internal/reflectlite.Value).Set"], unfollowed := true, recurses := true, named := ["errors.errorType"], apart := false, laid := [("errors.errorType", laid_errors_errorType)] }
def KernelRefusesSaid : Prop := kernelRefusesRow.holds Tryz.pinned (OpenSpec.ofChange kernelRefusesSpec)

/-- ITS FALSE NEIGHBOUR: 'it returns false'. Refute it at one input. -/
def kernelRefusesWrong : ChangeSpec := { name := "kernelRefuses", fn := fun _ => fun
  | [d1, d2, d3] => { results := [.lit (.bool false)], args := [d1, d2, d3] }
  | _ => none }
def KernelRefusesWrongFalsely : Prop := kernelRefusesRow.holds Tryz.pinned (OpenSpec.ofChange kernelRefusesWrong)

/-- 'sesamelaw21.KernelGone': WHATEVER THE INPUT: true; the input reads as it did. -/
def kernelGoneSpec : ChangeSpec := { name := "kernelGone", fn := fun _ => fun
  | [d1, d2, d3] => { results := [.lit (.bool true)], args := [d1, d2, d3] }
  | _ => none }
def kernelGoneRow : OpenClaim := { program := "ytfmhdimaijimlaagreatdoor", sum := "8f4fa6c4c94aba07c92ce2c0fb6ee45c408d20f8e8314d8f8dea291b218e0aa1", func := "sesame/sesamelaw21.KernelGone", spec := "kernelGone", inPlace := ["slices.overlaps[int]", "internal/reflectlite.ValueOf", "(internal/reflectlite.Value).Type", "(internal/reflectlite.Value).IsNil", "internal/reflectlite.TypeOf", "(internal/reflectlite.Value).Elem", "(internal/reflectlite.Value).Set"], unfollowed := true, recurses := true, named := ["errors.errorType"], apart := false, laid := [("errors.errorType", laid_errors_errorType)] }
def KernelGoneSaid : Prop := kernelGoneRow.holds Tryz.pinned (OpenSpec.ofChange kernelGoneSpec)

/-- ITS FALSE NEIGHBOUR: 'it returns false'. Refute it at one input. -/
def kernelGoneWrong : ChangeSpec := { name := "kernelGone", fn := fun _ => fun
  | [d1, d2, d3] => { results := [.lit (.bool false)], args := [d1, d2, d3] }
  | _ => none }
def KernelGoneWrongFalsely : Prop := kernelGoneRow.holds Tryz.pinned (OpenSpec.ofChange kernelGoneWrong)

/-- 'sesamelaw21.KernelNews': WHATEVER THE INPUT: true; the input reads as it did. -/
def kernelNewsSpec : ChangeSpec := { name := "kernelNews", fn := fun _ => fun
  | [d1, d2] => { results := [.lit (.bool true)], args := [d1, d2] }
  | _ => none }
def kernelNewsRow : OpenClaim := { program := "ytfmhdimaijimlaagreatdoor", sum := "8f4fa6c4c94aba07c92ce2c0fb6ee45c408d20f8e8314d8f8dea291b218e0aa1", func := "sesame/sesamelaw21.KernelNews", spec := "kernelNews", inPlace := ["slices.overlaps[int]", "internal/reflectlite.ValueOf", "(internal/reflectlite.Value).Type", "(internal/reflectlite.Value).IsNil", "internal/reflectlite.TypeOf", "(internal/reflectlite.Value).Elem", "(internal/reflectlite.Value).Set"], unfollowed := true, recurses := true, named := ["errors.errorType"], apart := false, laid := [("errors.errorType", laid_errors_errorType)] }
def KernelNewsSaid : Prop := kernelNewsRow.holds Tryz.pinned (OpenSpec.ofChange kernelNewsSpec)

/-- ITS FALSE NEIGHBOUR: 'it returns false'. Refute it at one input. -/
def kernelNewsWrong : ChangeSpec := { name := "kernelNews", fn := fun _ => fun
  | [d1, d2] => { results := [.lit (.bool false)], args := [d1, d2] }
  | _ => none }
def KernelNewsWrongFalsely : Prop := kernelNewsRow.holds Tryz.pinned (OpenSpec.ofChange kernelNewsWrong)

/-- 'sesamelaw21.KernelKeeps': WHATEVER THE INPUT: true; the input reads as it did. -/
def kernelKeepsSpec : ChangeSpec := { name := "kernelKeeps", fn := fun _ => fun
  | [d1, d2, d3] => { results := [.lit (.bool true)], args := [d1, d2, d3] }
  | _ => none }
def kernelKeepsRow : OpenClaim := { program := "ytfmhdimaijimlaagreatdoor", sum := "8f4fa6c4c94aba07c92ce2c0fb6ee45c408d20f8e8314d8f8dea291b218e0aa1", func := "sesame/sesamelaw21.KernelKeeps", spec := "kernelKeeps", inPlace := ["slices.overlaps[int]", "internal/reflectlite.ValueOf", "(internal/reflectlite.Value).Type", "(internal/reflectlite.Value).IsNil", "internal/reflectlite.TypeOf", "(internal/reflectlite.Value).Elem", "(internal/reflectlite.Value).Set"], unfollowed := true, recurses := true, named := ["errors.errorType"], apart := false, laid := [("errors.errorType", laid_errors_errorType)] }
def KernelKeepsSaid : Prop := kernelKeepsRow.holds Tryz.pinned (OpenSpec.ofChange kernelKeepsSpec)

/-- ITS FALSE NEIGHBOUR: 'it returns false'. Refute it at one input. -/
def kernelKeepsWrong : ChangeSpec := { name := "kernelKeeps", fn := fun _ => fun
  | [d1, d2, d3] => { results := [.lit (.bool false)], args := [d1, d2, d3] }
  | _ => none }
def KernelKeepsWrongFalsely : Prop := kernelKeepsRow.holds Tryz.pinned (OpenSpec.ofChange kernelKeepsWrong)

/- THE SECOND FORM. 'bulk': how many values and letters a reading holds, each counted each time it is reached (what is shared counts as often as it is met; a slice's spare places count too). A statement '..UptoSaid' is the law's where the arguments, and the package variables that the reading takes, are together of bulk at most 1048576: NARROWER than '..Said'. Prove '..Said' where nothing that the law and all that it calls make is longer than what came in: it says more and counts as full. Else prove '..UptoSaid'. A law counts once. -/
mutual
def uptoBulk {H : Type} : DataW H → Nat
  | .lit (.string bytes) => bytes.length + 1
  | .lit _ => 1
  | .nil => 1
  | .ptr d => uptoBulk d + 1
  | .slice elems spare => uptoBulkAll elems + uptoBulkAll spare + 1
  | .agg parts => uptoBulkAll parts + 1
  | .iface _ d => uptoBulk d + 1
  | .map entries => uptoBulkEntries entries + 1
  | .held _ => 1
def uptoBulkAll {H : Type} : List (DataW H) → Nat
  | [] => 0
  | d :: r => uptoBulk d + uptoBulkAll r
def uptoBulkEntries {H : Type} : List (Lit × DataW H) → Nat
  | [] => 0
  | x :: r => uptoBulkEntry x + uptoBulkEntries r
def uptoBulkEntry {H : Type} : Lit × DataW H → Nat
  | (.string bytes, d) => bytes.length + uptoBulk d + 1
  | (_, d) => uptoBulk d + 1
 end
def uptoSmall : (H : Type) → List (DataW H) → Bool := fun _ ds => decide (uptoBulkAll ds ≤ 1048576)
def OpenSpec.upto (s : _root_.Go.ChangeSpec) : _root_.Go.OpenSpec := { _root_.Go.OpenSpec.ofChange s with cond := some uptoSmall }

/-- 'sesamelaw21.KernelKnobs', WHERE WHAT IT READS IS OF BULK AT MOST 1048576: true; the input reads as it did. -/
def kernelKnobsUptoRow : OpenClaim := { program := "ytfmhdimaijimlaagreatdoor", sum := "8f4fa6c4c94aba07c92ce2c0fb6ee45c408d20f8e8314d8f8dea291b218e0aa1", func := "sesame/sesamelaw21.KernelKnobs", spec := "kernelKnobs", inPlace := ["slices.overlaps[int]", "internal/reflectlite.ValueOf", "(internal/reflectlite.Value).Type", "(internal/reflectlite.Value).IsNil", "internal/reflectlite.TypeOf", "(internal/reflectlite.Value).Elem", "(internal/reflectlite.Value).Set"], unfollowed := true, recurses := true, named := ["errors.errorType"], apart := false, laid := [("errors.errorType", laid_errors_errorType)], narrowed := true }
def KernelKnobsUptoSaid : Prop := kernelKnobsUptoRow.holds Tryz.pinned (OpenSpec.upto kernelKnobsSpec)

/-- 'sesamelaw21.KernelSees', WHERE WHAT IT READS IS OF BULK AT MOST 1048576: true; the input reads as it did. -/
def kernelSeesUptoRow : OpenClaim := { program := "ytfmhdimaijimlaagreatdoor", sum := "8f4fa6c4c94aba07c92ce2c0fb6ee45c408d20f8e8314d8f8dea291b218e0aa1", func := "sesame/sesamelaw21.KernelSees", spec := "kernelSees", inPlace := ["slices.overlaps[int]", "internal/reflectlite.ValueOf", "(internal/reflectlite.Value).Type", "(internal/reflectlite.Value).IsNil", "internal/reflectlite.TypeOf", "(internal/reflectlite.Value).Elem", "(internal/reflectlite.Value).Set"], unfollowed := true, recurses := true, named := ["errors.errorType"], apart := false, laid := [("errors.errorType", laid_errors_errorType)], narrowed := true }
def KernelSeesUptoSaid : Prop := kernelSeesUptoRow.holds Tryz.pinned (OpenSpec.upto kernelSeesSpec)

/-- 'sesamelaw21.KernelRefuses', WHERE WHAT IT READS IS OF BULK AT MOST 1048576: true; the input reads as it did. -/
def kernelRefusesUptoRow : OpenClaim := { program := "ytfmhdimaijimlaagreatdoor", sum := "8f4fa6c4c94aba07c92ce2c0fb6ee45c408d20f8e8314d8f8dea291b218e0aa1", func := "sesame/sesamelaw21.KernelRefuses", spec := "kernelRefuses", inPlace := ["slices.overlaps[int]", "internal/reflectlite.ValueOf", "(internal/reflectlite.Value).Type", "(internal/reflectlite.Value).IsNil", "internal/reflectlite.TypeOf", "(internal/reflectlite.Value).Elem", "(internal/reflectlite.Value).Set"], unfollowed := true, recurses := true, named := ["errors.errorType"], apart := false, laid := [("errors.errorType", laid_errors_errorType)], narrowed := true }
def KernelRefusesUptoSaid : Prop := kernelRefusesUptoRow.holds Tryz.pinned (OpenSpec.upto kernelRefusesSpec)

/-- 'sesamelaw21.KernelGone', WHERE WHAT IT READS IS OF BULK AT MOST 1048576: true; the input reads as it did. -/
def kernelGoneUptoRow : OpenClaim := { program := "ytfmhdimaijimlaagreatdoor", sum := "8f4fa6c4c94aba07c92ce2c0fb6ee45c408d20f8e8314d8f8dea291b218e0aa1", func := "sesame/sesamelaw21.KernelGone", spec := "kernelGone", inPlace := ["slices.overlaps[int]", "internal/reflectlite.ValueOf", "(internal/reflectlite.Value).Type", "(internal/reflectlite.Value).IsNil", "internal/reflectlite.TypeOf", "(internal/reflectlite.Value).Elem", "(internal/reflectlite.Value).Set"], unfollowed := true, recurses := true, named := ["errors.errorType"], apart := false, laid := [("errors.errorType", laid_errors_errorType)], narrowed := true }
def KernelGoneUptoSaid : Prop := kernelGoneUptoRow.holds Tryz.pinned (OpenSpec.upto kernelGoneSpec)

/-- 'sesamelaw21.KernelNews', WHERE WHAT IT READS IS OF BULK AT MOST 1048576: true; the input reads as it did. -/
def kernelNewsUptoRow : OpenClaim := { program := "ytfmhdimaijimlaagreatdoor", sum := "8f4fa6c4c94aba07c92ce2c0fb6ee45c408d20f8e8314d8f8dea291b218e0aa1", func := "sesame/sesamelaw21.KernelNews", spec := "kernelNews", inPlace := ["slices.overlaps[int]", "internal/reflectlite.ValueOf", "(internal/reflectlite.Value).Type", "(internal/reflectlite.Value).IsNil", "internal/reflectlite.TypeOf", "(internal/reflectlite.Value).Elem", "(internal/reflectlite.Value).Set"], unfollowed := true, recurses := true, named := ["errors.errorType"], apart := false, laid := [("errors.errorType", laid_errors_errorType)], narrowed := true }
def KernelNewsUptoSaid : Prop := kernelNewsUptoRow.holds Tryz.pinned (OpenSpec.upto kernelNewsSpec)

/-- 'sesamelaw21.KernelKeeps', WHERE WHAT IT READS IS OF BULK AT MOST 1048576: true; the input reads as it did. -/
def kernelKeepsUptoRow : OpenClaim := { program := "ytfmhdimaijimlaagreatdoor", sum := "8f4fa6c4c94aba07c92ce2c0fb6ee45c408d20f8e8314d8f8dea291b218e0aa1", func := "sesame/sesamelaw21.KernelKeeps", spec := "kernelKeeps", inPlace := ["slices.overlaps[int]", "internal/reflectlite.ValueOf", "(internal/reflectlite.Value).Type", "(internal/reflectlite.Value).IsNil", "internal/reflectlite.TypeOf", "(internal/reflectlite.Value).Elem", "(internal/reflectlite.Value).Set"], unfollowed := true, recurses := true, named := ["errors.errorType"], apart := false, laid := [("errors.errorType", laid_errors_errorType)], narrowed := true }
def KernelKeepsUptoSaid : Prop := kernelKeepsUptoRow.holds Tryz.pinned (OpenSpec.upto kernelKeepsSpec)

end Rows
end Go.Proofs.YtfmhdimaijimlaaGreatDoor
