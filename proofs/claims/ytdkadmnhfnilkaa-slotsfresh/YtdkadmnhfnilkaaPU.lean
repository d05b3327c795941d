import Derived.Test.YtdkadmnhfnilkaaM1
import Derived.Test.YtdkadmnhfnilkaaRows
import Derived.WalkKit
import Derived.ProofKit
import Derived.OpenShut
import Derived.ChangeOld
import Derived.Below
import Derived.Lib.SmallJoins
namespace Go.Proofs.Ytdkadmnhfnilkaa
open Go.ChangeShapes Go.WideShapes Go.ChangeAt Go.RowKit Go.Joins

theorem own : ownKnob Try.prog.godebug = none := by kernel_rfl
theorem laidOut : laidOutB Try.prog = true := by kernel_rfl
theorem cells32 : Try.prog.cellsOf 32 = 2 := by kernel_rfl
/-- A wellformed number of 64 bits is a natural number below 2 to the 64th. -/
theorem half_wf {a : Int} (wa : (Lit.int .u64 a).wf = true) : ∃ N : Nat, N < B64 ∧ a = (N : Int) := by
  have ha := bounds_u64 wa
  exact ⟨a.toNat, by unfold B64; omega, by omega⟩
end Go.Proofs.Ytdkadmnhfnilkaa
