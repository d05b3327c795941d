import Derived.Test.YtlkjieophdabpaaC6
import Derived.Shelf.Slices.SearchI
import Derived.Shelf.Slices.Clone
import Derived.Shelf.Slices.Delete
import Derived.Sort.OwnSortedInts
namespace Go.Proofs.Ytlkjieophdabpaa
open Go.Shelf Go.RowKit Go.Sort
set_option linter.unusedVariables false

/-- The numbers of the library's functions at this program. -/
def ren : Go.Shelf.Ren := ⟨fun | 25 => 31 | 31 => 35 | 32 => 36 | 37 => 39 | 23 => 33 | 15 => 34 | n => n, fun | 40 => 65 | n => n, fun | n => n⟩
theorem lay25 : Lays2.n25 Try.prog ren := {
  mixed := by kernel_rfl,
  f25 := Try.func31.trans (congrArg some (by kernel_rfl)),
  f31 := Try.func35.trans (congrArg some (by kernel_rfl)),
  f32 := Try.func36.trans (congrArg some (by kernel_rfl)),
  f37 := Try.func39.trans (congrArg some (by kernel_rfl)),
  t0 := Try.underlying0, a0 := Try.isAgg0, z0 := Try.sizeOf0, v0 := Try.zeroValue0,
  t3 := Try.underlying3, a3 := Try.isAgg3, z3 := Try.sizeOf3, v3 := Try.zeroValue3,
  t4 := Try.underlying4, a4 := Try.isAgg4, z4 := Try.sizeOf4, v4 := Try.zeroValue4,
  t22 := Try.underlying22, a22 := Try.isAgg22, z22 := Try.sizeOf22, v22 := Try.zeroValue22,
  t40 := Try.underlying65, a40 := Try.isAgg65, z40 := Try.sizeOf65, v40 := Try.zeroValue65 }
theorem lay15 : Lays2.n15 Try.prog ren := {
  mixed := by kernel_rfl,
  f15 := Try.func34.trans (congrArg some (by kernel_rfl)),
  t3 := Try.underlying3, a3 := Try.isAgg3, z3 := Try.sizeOf3, v3 := Try.zeroValue3,
  t4 := Try.underlying4, a4 := Try.isAgg4, z4 := Try.sizeOf4, v4 := Try.zeroValue4,
  t22 := Try.underlying22, a22 := Try.isAgg22, z22 := Try.sizeOf22, v22 := Try.zeroValue22,
  i3 := info3 }
theorem lay23 : Lays2.n23 Try.prog ren := {
  mixed := by kernel_rfl,
  f23 := Try.func33.trans (congrArg some (by kernel_rfl)),
  t0 := Try.underlying0, a0 := Try.isAgg0, z0 := Try.sizeOf0, v0 := Try.zeroValue0,
  t3 := Try.underlying3, a3 := Try.isAgg3, z3 := Try.sizeOf3, v3 := Try.zeroValue3,
  t4 := Try.underlying4, a4 := Try.isAgg4, z4 := Try.sizeOf4, v4 := Try.zeroValue4,
  t22 := Try.underlying22, a22 := Try.isAgg22, z22 := Try.sizeOf22, v22 := Try.zeroValue22,
  i3 := info3 }
end Go.Proofs.Ytlkjieophdabpaa
