/-
  No cell of these rows narrows 'for every input' (looked for: loops, veiled, ifaces, maps, wideKeys, modest, calm, conditions, laid).
  DERIVED. THE GIVEN ROWS OF THIS SEAT. 3 by the template 'for every input the law returns true; each argument reads behind the call as it read before'; 0 by the template 'total and deterministic' (their statements: YtciidjhadijhdaaTotals.lean).
  GIVEN WITH THE SEED: the statements are not yours to turn. If you find one false, say at which input.
  Laid BY PROGRAM, IN A SANDBOX (cutbox-rows.mjs): the forced cells as the released guide's own fill.sh prints them over the translation 921738d1fe1d2ff1… (all of the seat's roots in one cut). By AI agents, Wed Nov 11 2026. No macro, syntax, notation, axiom, sorry.
-/
import Derived.Test.YtciidjhadijhdaaChecked
import GoSem.Claim
import GoSem.ClaimJoined
import GoSem.ClaimMapViews
import Derived.JoinedTies
import Derived.KernelRfl
namespace Go.Proofs.Ytciidjhadijhdaa
/- THE CELL 'sum', in the pinned program and in every row, IS THE sha256 OF THE DUMP (.gsa) THAT YtciidjhadijhdaaProg.lean LOADS. Nothing in Lean hashes anything: it is a label: what it is worth is what the hold of that sum in a sandbox is worth. -/
noncomputable def Try.pinned : Pinned := { name := "ytciidjhadijhdaa", sum := "921738d1fe1d2ff120a20e8f22135538c5144d0a694f0b3abb6c563009b6f6c4", checked := Try.checked }
namespace Rows
def none {H : Type} : Left H := { results := [], args := [] }

/-- 'sesamelaw13.IssueNew': WHATEVER THE INPUT: true; the input reads as it did. -/
def issueNewSpec : ChangeSpec := { name := "issueNew", fn := fun _ => fun
  | [d1, d2, d3, d4] => { results := [.lit (.bool true)], args := [d1, d2, d3, d4] }
  | _ => none }
def issueNewRow : OpenClaim := { program := "ytciidjhadijhdaa", sum := "921738d1fe1d2ff120a20e8f22135538c5144d0a694f0b3abb6c563009b6f6c4", func := "sesame/sesamelaw13.IssueNew", spec := "issueNew", unfollowed := true, recurses := true, apart := false }
def IssueNewSaid : Prop := issueNewRow.holds Try.pinned (OpenSpec.ofChange issueNewSpec)

/-- ITS FALSE NEIGHBOUR: 'it returns false'. Refute it at one input. -/
def issueNewWrong : ChangeSpec := { name := "issueNew", fn := fun _ => fun
  | [d1, d2, d3, d4] => { results := [.lit (.bool false)], args := [d1, d2, d3, d4] }
  | _ => none }
def IssueNewWrongFalsely : Prop := issueNewRow.holds Try.pinned (OpenSpec.ofChange issueNewWrong)

/-- 'sesamelaw13.IssueDraws': WHATEVER THE INPUT: true; the input reads as it did. -/
def issueDrawsSpec : ChangeSpec := { name := "issueDraws", fn := fun _ => fun
  | [d1, d2, d3] => { results := [.lit (.bool true)], args := [d1, d2, d3] }
  | _ => none }
def issueDrawsRow : OpenClaim := { program := "ytciidjhadijhdaa", sum := "921738d1fe1d2ff120a20e8f22135538c5144d0a694f0b3abb6c563009b6f6c4", func := "sesame/sesamelaw13.IssueDraws", spec := "issueDraws", unfollowed := true, recurses := true, apart := false }
def IssueDrawsSaid : Prop := issueDrawsRow.holds Try.pinned (OpenSpec.ofChange issueDrawsSpec)

/-- ITS FALSE NEIGHBOUR: 'it returns false'. Refute it at one input. -/
def issueDrawsWrong : ChangeSpec := { name := "issueDraws", fn := fun _ => fun
  | [d1, d2, d3] => { results := [.lit (.bool false)], args := [d1, d2, d3] }
  | _ => none }
def IssueDrawsWrongFalsely : Prop := issueDrawsRow.holds Try.pinned (OpenSpec.ofChange issueDrawsWrong)

/-- 'sesamelaw13.IssueObjects': WHATEVER THE INPUT: true; the input reads as it did. -/
def issueObjectsSpec : ChangeSpec := { name := "issueObjects", fn := fun _ => fun
  | [d1, d2, d3, d4] => { results := [.lit (.bool true)], args := [d1, d2, d3, d4] }
  | _ => none }
def issueObjectsRow : OpenClaim := { program := "ytciidjhadijhdaa", sum := "921738d1fe1d2ff120a20e8f22135538c5144d0a694f0b3abb6c563009b6f6c4", func := "sesame/sesamelaw13.IssueObjects", spec := "issueObjects", unfollowed := true, recurses := true, apart := false }
def IssueObjectsSaid : Prop := issueObjectsRow.holds Try.pinned (OpenSpec.ofChange issueObjectsSpec)

/-- ITS FALSE NEIGHBOUR: 'it returns false'. Refute it at one input. -/
def issueObjectsWrong : ChangeSpec := { name := "issueObjects", fn := fun _ => fun
  | [d1, d2, d3, d4] => { results := [.lit (.bool false)], args := [d1, d2, d3, d4] }
  | _ => none }
def IssueObjectsWrongFalsely : Prop := issueObjectsRow.holds Try.pinned (OpenSpec.ofChange issueObjectsWrong)

/- THE SECOND FORM. 'bulk': how many values and letters a reading holds, each counted each time it is reached (what is shared counts as often as it is met; a slice's spare places count too). A statement '..UptoSaid' is the law's where the arguments, and the package variables that the reading takes, are together of bulk at most 1048576: NARROWER than '..Said'. Prove '..Said' where nothing that the law and all that it calls make is longer than what came in: it says more and counts as full. Else prove '..UptoSaid'. A law counts once. -/
mutual
def uptoBulk {H : Type} : DataW H → Nat
  | .lit (.string bytes) => bytes.length + 1
  | .lit _ => 1
  | .nil => 1
  | .ptr d => uptoBulk d + 1
  | .slice elems spare => uptoBulkAll elems + uptoBulkAll spare + 1
  | .agg parts => uptoBulkAll parts + 1
  | .iface _ d => uptoBulk d + 1
  | .map entries => uptoBulkEntries entries + 1
  | .held _ => 1
def uptoBulkAll {H : Type} : List (DataW H) → Nat
  | [] => 0
  | d :: r => uptoBulk d + uptoBulkAll r
def uptoBulkEntries {H : Type} : List (Lit × DataW H) → Nat
  | [] => 0
  | x :: r => uptoBulkEntry x + uptoBulkEntries r
def uptoBulkEntry {H : Type} : Lit × DataW H → Nat
  | (.string bytes, d) => bytes.length + uptoBulk d + 1
  | (_, d) => uptoBulk d + 1
 end
def uptoSmall : (H : Type) → List (DataW H) → Bool := fun _ ds => decide (uptoBulkAll ds ≤ 1048576)
def OpenSpec.upto (s : _root_.Go.ChangeSpec) : _root_.Go.OpenSpec := { _root_.Go.OpenSpec.ofChange s with cond := some uptoSmall }

/-- 'sesamelaw13.IssueNew', WHERE WHAT IT READS IS OF BULK AT MOST 1048576: true; the input reads as it did. -/
def issueNewUptoRow : OpenClaim := { program := "ytciidjhadijhdaa", sum := "921738d1fe1d2ff120a20e8f22135538c5144d0a694f0b3abb6c563009b6f6c4", func := "sesame/sesamelaw13.IssueNew", spec := "issueNew", unfollowed := true, recurses := true, apart := false, narrowed := true }
def IssueNewUptoSaid : Prop := issueNewUptoRow.holds Try.pinned (OpenSpec.upto issueNewSpec)

/-- 'sesamelaw13.IssueDraws', WHERE WHAT IT READS IS OF BULK AT MOST 1048576: true; the input reads as it did. -/
def issueDrawsUptoRow : OpenClaim := { program := "ytciidjhadijhdaa", sum := "921738d1fe1d2ff120a20e8f22135538c5144d0a694f0b3abb6c563009b6f6c4", func := "sesame/sesamelaw13.IssueDraws", spec := "issueDraws", unfollowed := true, recurses := true, apart := false, narrowed := true }
def IssueDrawsUptoSaid : Prop := issueDrawsUptoRow.holds Try.pinned (OpenSpec.upto issueDrawsSpec)

/-- 'sesamelaw13.IssueObjects', WHERE WHAT IT READS IS OF BULK AT MOST 1048576: true; the input reads as it did. -/
def issueObjectsUptoRow : OpenClaim := { program := "ytciidjhadijhdaa", sum := "921738d1fe1d2ff120a20e8f22135538c5144d0a694f0b3abb6c563009b6f6c4", func := "sesame/sesamelaw13.IssueObjects", spec := "issueObjects", unfollowed := true, recurses := true, apart := false, narrowed := true }
def IssueObjectsUptoSaid : Prop := issueObjectsUptoRow.holds Try.pinned (OpenSpec.upto issueObjectsSpec)

end Rows
end Go.Proofs.Ytciidjhadijhdaa
