import Derived.Test.YtfmhdimaijimlaaGreatDoorA0
import Derived.ProofKit
import Derived.JoinedOf
set_option linter.unusedVariables false
set_option linter.unusedSimpArgs false
set_option maxRecDepth 1000000
set_option maxHeartbeats 8000000
namespace Go.Proofs.YtfmhdimaijimlaaGreatDoor.V
theorem refuses_j1:(Rows.kernelRefusesRow.inPlace==Tryz.prog.inPlace 5)=true:=by kernel_rfl
theorem refuses_j2:(Rows.kernelRefusesRow.unfollowed==Tryz.prog.unfollowed 5)=true:=by kernel_rfl
theorem refuses_j3:(Rows.kernelRefusesRow.recurses==Tryz.prog.recurses 5)=true:=by kernel_rfl
theorem refuses_j4:(Rows.kernelRefusesRow.named==Tryz.prog.varsNamed 5)=true:=by kernel_rfl
theorem refuses_named:Tryz.prog.funcNamed "sesame/sesamelaw21.KernelRefuses"=some 5:=by kernel_rfl
theorem refuses_and {a b:Bool}(h:a=true)(k:b=true):(a&&b)=true:=by rw [h,k];rfl
theorem refuses_closed:joinedFacts Tryz.prog 5 Tryz.f5 Rows.kernelRefusesSpec Rows.kernelRefusesRow=true:=by
 unfold joinedFacts
 repeat' (with_reducible refine refuses_and ?_ ?_)
 all_goals (first|(with_reducible exact refuses_j1)|(with_reducible exact refuses_j2)|(with_reducible exact refuses_j3)|(with_reducible exact refuses_j4)|(as_aux_lemma=>kernel_rfl))
theorem refuses_inst:Tryz.f5.isInstance Tryz.prog Rows.kernelRefusesRow.origin Rows.kernelRefusesRow.targs:=of_decide_eq_true (by kernel_rfl)
theorem refuses_wrap:Tryz.f5.isWrapper Tryz.prog Rows.kernelRefusesRow.wrapper Rows.kernelRefusesRow.mainSum:=by unfold Func.isWrapper;first|(rw [if_pos (by decide +kernel)];kernel_rfl)|(rw [if_neg (by decide +kernel)];exact⟨rfl,rfl⟩)
end Go.Proofs.YtfmhdimaijimlaaGreatDoor.V
