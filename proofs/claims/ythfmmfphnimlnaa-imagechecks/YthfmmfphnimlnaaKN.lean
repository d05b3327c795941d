import Derived.Test.YthfmmfphnimlnaaJZ
import Derived.Test.YthfmmfphnimlnaaLC
import Derived.Test.YthfmmfphnimlnaaSA
namespace Go.Proofs.Ythfmmfphnimlnaa
open Go.RowKit
set_option linter.unusedVariables false
set_option linter.unusedSimpArgs false
def cfK : Cf := ⟨128, 2, 4, 8, 4, 2, 4, 0, 1, 64⟩
def stK : St := ⟨[], [], [⟨0, []⟩], 1, 1, 0⟩
def lK : List Nat := layL cfK stK
set_option maxRecDepth 100000 in
theorem k_chk : chk cfK stK 4096 = 0 := by kernel_rfl
set_option maxRecDepth 100000 in
theorem k_chk0 : chk cfK stK 0 = 0 := by kernel_rfl
set_option maxRecDepth 100000 in
theorem k_chk1 : chk cfK stK (-1) = 8 := by kernel_rfl
set_option maxRecDepth 100000 in
theorem k_len : lK.length = 51 := by kernel_rfl
set_option maxRecDepth 100000 in
theorem k_bad : paB (lK ++ [0]) = false := by kernel_rfl
set_option maxRecDepth 100000 in
theorem k_ok : paB lK = true := by kernel_rfl
theorem k_cf : paC lK = cfK := by kernel_rfl
theorem k_st : paS lK = stK := by kernel_rfl
theorem k_bys : bysL cfK stK = lK := by unfold bysL; rw [k_chk]; rfl
theorem k_bye : bysE cfK stK = 0 := by unfold bysE; rw [k_chk]; rfl
set_option maxRecDepth 100000 in
set_option maxHeartbeats 1000000 in
theorem small_any (w : World) : Calls Try.prog 23 #[] w fun e w' => e = .returned cfK.v ∧ Below w.heap.size w w' := by
  go_enter Try.func23, Try.ntmps23
  go_wp2
  exact bodyPost_ret (v := cfK.v) (by simp [results, Try.results23, go_sem, cfK, Cf.v]) rfl ⟨rfl, below1 _ _⟩
end Go.Proofs.Ythfmmfphnimlnaa
