/-
  No cell of these rows narrows 'for every input' (looked for: loops, veiled, ifaces, maps, wideKeys, modest, calm, conditions, laid).
  DERIVED. THE GIVEN ROWS OF THIS SEAT. 3 by the template 'for every input the law returns true; each argument reads behind the call as it read before'; 0 by the template 'total and deterministic' (their statements: YtlelglfdamakaaaTotals.lean).
  GIVEN WITH THE SEED: the statements are not yours to turn. If you find one false, say at which input.
  Laid BY PROGRAM, IN A SANDBOX (cutbox-rows.mjs): the forced cells as the released guide's own fill.sh prints them over the translation 06ffb86988e25c9c… (all of the seat's roots in one cut). By AI agents, Wed Nov 11 2026. No macro, syntax, notation, axiom, sorry.
-/
import Derived.Test.YtlelglfdamakaaaChecked
import GoSem.Claim
import GoSem.ClaimJoined
import GoSem.ClaimMapViews
import Derived.JoinedTies
import Derived.KernelRfl
namespace Go.Proofs.Ytlelglfdamakaaa
/- THE CELL 'sum', in the pinned program and in every row, IS THE sha256 OF THE DUMP (.gsa) THAT YtlelglfdamakaaaProg.lean LOADS. Nothing in Lean hashes anything: it is a label: what it is worth is what the hold of that sum in a sandbox is worth. -/
noncomputable def Try.pinned : Pinned := { name := "ytlelglfdamakaaa", sum := "06ffb86988e25c9c5c4894bbb4a0cef384241eb0985a28f7097887ed7d08d842", checked := Try.checked }
namespace Rows
def none {H : Type} : Left H := { results := [], args := [] }

/-- 'sesamelaw19.ValidateGone': WHATEVER THE INPUT: true; the input reads as it did. -/
def validateGoneSpec : ChangeSpec := { name := "validateGone", fn := fun _ => fun
  | [d1, d2, d3, d4, d5] => { results := [.lit (.bool true)], args := [d1, d2, d3, d4, d5] }
  | _ => none }
def validateGoneRow : OpenClaim := { program := "ytlelglfdamakaaa", sum := "06ffb86988e25c9c5c4894bbb4a0cef384241eb0985a28f7097887ed7d08d842", func := "sesame/sesamelaw19.ValidateGone", spec := "validateGone", unfollowed := true, recurses := true, apart := false }
def ValidateGoneSaid : Prop := validateGoneRow.holds Try.pinned (OpenSpec.ofChange validateGoneSpec)

/-- ITS FALSE NEIGHBOUR: 'it returns false'. Refute it at one input. -/
def validateGoneWrong : ChangeSpec := { name := "validateGone", fn := fun _ => fun
  | [d1, d2, d3, d4, d5] => { results := [.lit (.bool false)], args := [d1, d2, d3, d4, d5] }
  | _ => none }
def ValidateGoneWrongFalsely : Prop := validateGoneRow.holds Try.pinned (OpenSpec.ofChange validateGoneWrong)

/-- 'sesamelaw19.ValidateSame': WHATEVER THE INPUT: true; the input reads as it did. -/
def validateSameSpec : ChangeSpec := { name := "validateSame", fn := fun _ => fun
  | [d1, d2, d3, d4] => { results := [.lit (.bool true)], args := [d1, d2, d3, d4] }
  | _ => none }
def validateSameRow : OpenClaim := { program := "ytlelglfdamakaaa", sum := "06ffb86988e25c9c5c4894bbb4a0cef384241eb0985a28f7097887ed7d08d842", func := "sesame/sesamelaw19.ValidateSame", spec := "validateSame", unfollowed := true, recurses := true, apart := false }
def ValidateSameSaid : Prop := validateSameRow.holds Try.pinned (OpenSpec.ofChange validateSameSpec)

/-- ITS FALSE NEIGHBOUR: 'it returns false'. Refute it at one input. -/
def validateSameWrong : ChangeSpec := { name := "validateSame", fn := fun _ => fun
  | [d1, d2, d3, d4] => { results := [.lit (.bool false)], args := [d1, d2, d3, d4] }
  | _ => none }
def ValidateSameWrongFalsely : Prop := validateSameRow.holds Try.pinned (OpenSpec.ofChange validateSameWrong)

/-- 'sesamelaw19.ValidateScripts': WHATEVER THE INPUT: true; the input reads as it did. -/
def validateScriptsSpec : ChangeSpec := { name := "validateScripts", fn := fun _ => fun
  | [d1, d2, d3] => { results := [.lit (.bool true)], args := [d1, d2, d3] }
  | _ => none }
def validateScriptsRow : OpenClaim := { program := "ytlelglfdamakaaa", sum := "06ffb86988e25c9c5c4894bbb4a0cef384241eb0985a28f7097887ed7d08d842", func := "sesame/sesamelaw19.ValidateScripts", spec := "validateScripts", unfollowed := true, recurses := true, apart := false }
def ValidateScriptsSaid : Prop := validateScriptsRow.holds Try.pinned (OpenSpec.ofChange validateScriptsSpec)

/-- ITS FALSE NEIGHBOUR: 'it returns false'. Refute it at one input. -/
def validateScriptsWrong : ChangeSpec := { name := "validateScripts", fn := fun _ => fun
  | [d1, d2, d3] => { results := [.lit (.bool false)], args := [d1, d2, d3] }
  | _ => none }
def ValidateScriptsWrongFalsely : Prop := validateScriptsRow.holds Try.pinned (OpenSpec.ofChange validateScriptsWrong)

/- THE SECOND FORM. 'bulk': how many values and letters a reading holds, each counted each time it is reached (what is shared counts as often as it is met; a slice's spare places count too). A statement '..UptoSaid' is the law's where the arguments, and the package variables that the reading takes, are together of bulk at most 1048576: NARROWER than '..Said'. Prove '..Said' where nothing that the law and all that it calls make is longer than what came in: it says more and counts as full. Else prove '..UptoSaid'. A law counts once. -/
mutual
def uptoBulk {H : Type} : DataW H → Nat
  | .lit (.string bytes) => bytes.length + 1
  | .lit _ => 1
  | .nil => 1
  | .ptr d => uptoBulk d + 1
  | .slice elems spare => uptoBulkAll elems + uptoBulkAll spare + 1
  | .agg parts => uptoBulkAll parts + 1
  | .iface _ d => uptoBulk d + 1
  | .map entries => uptoBulkEntries entries + 1
  | .held _ => 1
def uptoBulkAll {H : Type} : List (DataW H) → Nat
  | [] => 0
  | d :: r => uptoBulk d + uptoBulkAll r
def uptoBulkEntries {H : Type} : List (Lit × DataW H) → Nat
  | [] => 0
  | x :: r => uptoBulkEntry x + uptoBulkEntries r
def uptoBulkEntry {H : Type} : Lit × DataW H → Nat
  | (.string bytes, d) => bytes.length + uptoBulk d + 1
  | (_, d) => uptoBulk d + 1
 end
def uptoSmall : (H : Type) → List (DataW H) → Bool := fun _ ds => decide (uptoBulkAll ds ≤ 1048576)
def OpenSpec.upto (s : _root_.Go.ChangeSpec) : _root_.Go.OpenSpec := { _root_.Go.OpenSpec.ofChange s with cond := some uptoSmall }

/-- 'sesamelaw19.ValidateGone', WHERE WHAT IT READS IS OF BULK AT MOST 1048576: true; the input reads as it did. -/
def validateGoneUptoRow : OpenClaim := { program := "ytlelglfdamakaaa", sum := "06ffb86988e25c9c5c4894bbb4a0cef384241eb0985a28f7097887ed7d08d842", func := "sesame/sesamelaw19.ValidateGone", spec := "validateGone", unfollowed := true, recurses := true, apart := false, narrowed := true }
def ValidateGoneUptoSaid : Prop := validateGoneUptoRow.holds Try.pinned (OpenSpec.upto validateGoneSpec)

/-- 'sesamelaw19.ValidateSame', WHERE WHAT IT READS IS OF BULK AT MOST 1048576: true; the input reads as it did. -/
def validateSameUptoRow : OpenClaim := { program := "ytlelglfdamakaaa", sum := "06ffb86988e25c9c5c4894bbb4a0cef384241eb0985a28f7097887ed7d08d842", func := "sesame/sesamelaw19.ValidateSame", spec := "validateSame", unfollowed := true, recurses := true, apart := false, narrowed := true }
def ValidateSameUptoSaid : Prop := validateSameUptoRow.holds Try.pinned (OpenSpec.upto validateSameSpec)

/-- 'sesamelaw19.ValidateScripts', WHERE WHAT IT READS IS OF BULK AT MOST 1048576: true; the input reads as it did. -/
def validateScriptsUptoRow : OpenClaim := { program := "ytlelglfdamakaaa", sum := "06ffb86988e25c9c5c4894bbb4a0cef384241eb0985a28f7097887ed7d08d842", func := "sesame/sesamelaw19.ValidateScripts", spec := "validateScripts", unfollowed := true, recurses := true, apart := false, narrowed := true }
def ValidateScriptsUptoSaid : Prop := validateScriptsUptoRow.holds Try.pinned (OpenSpec.upto validateScriptsSpec)

end Rows
end Go.Proofs.Ytlelglfdamakaaa
