import Derived.Test.YtfmhdimaijimlaaGreatDoorA0
import Derived.ProofKit
import Derived.JoinedOf
set_option linter.unusedVariables false
set_option linter.unusedSimpArgs false
set_option maxRecDepth 1000000
set_option maxHeartbeats 8000000
namespace Go.Proofs.YtfmhdimaijimlaaGreatDoor.V
theorem knobs_j1:(Rows.kernelKnobsRow.inPlace==Tryz.prog.inPlace 3)=true:=by kernel_rfl
theorem knobs_j2:(Rows.kernelKnobsRow.unfollowed==Tryz.prog.unfollowed 3)=true:=by kernel_rfl
theorem knobs_j3:(Rows.kernelKnobsRow.recurses==Tryz.prog.recurses 3)=true:=by kernel_rfl
theorem knobs_j4:(Rows.kernelKnobsRow.named==Tryz.prog.varsNamed 3)=true:=by kernel_rfl
theorem knobs_named:Tryz.prog.funcNamed "sesame/sesamelaw21.KernelKnobs"=some 3:=by kernel_rfl
theorem knobs_and {a b:Bool}(h:a=true)(k:b=true):(a&&b)=true:=by rw [h,k];rfl
theorem knobs_closed:joinedFacts Tryz.prog 3 Tryz.f3 Rows.kernelKnobsSpec Rows.kernelKnobsRow=true:=by
 unfold joinedFacts
 repeat' (with_reducible refine knobs_and ?_ ?_)
 all_goals (first|(with_reducible exact knobs_j1)|(with_reducible exact knobs_j2)|(with_reducible exact knobs_j3)|(with_reducible exact knobs_j4)|(as_aux_lemma=>kernel_rfl))
theorem knobs_inst:Tryz.f3.isInstance Tryz.prog Rows.kernelKnobsRow.origin Rows.kernelKnobsRow.targs:=of_decide_eq_true (by kernel_rfl)
theorem knobs_wrap:Tryz.f3.isWrapper Tryz.prog Rows.kernelKnobsRow.wrapper Rows.kernelKnobsRow.mainSum:=by unfold Func.isWrapper;first|(rw [if_pos (by decide +kernel)];kernel_rfl)|(rw [if_neg (by decide +kernel)];exact⟨rfl,rfl⟩)
end Go.Proofs.YtfmhdimaijimlaaGreatDoor.V
