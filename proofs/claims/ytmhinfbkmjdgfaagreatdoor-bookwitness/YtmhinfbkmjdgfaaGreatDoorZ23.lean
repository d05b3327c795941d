import Derived.Test.YtmhinfbkmjdgfaaGreatDoorRows
import Derived.WalkKit
import Derived.ProofKit
import Derived.JoinedOf
import Derived.Test.YtmhinfbkmjdgfaaGreatDoorZZ
set_option linter.unusedVariables false
set_option linter.unusedSimpArgs false
set_option maxRecDepth 100000
set_option maxHeartbeats 4000000
namespace Go.Proofs.YtmhinfbkmjdgfaaGreatDoor.V
theorem FO:(Rows.bookWitnessRow.inPlace==Tryz.prog.inPlace 5)=true:=by kernel_rfl
theorem Eh:(Rows.bookWitnessRow.unfollowed==Tryz.prog.unfollowed 5)=true:=by kernel_rfl
theorem Gb:(Rows.bookWitnessRow.recurses==Tryz.prog.recurses 5)=true:=by kernel_rfl
theorem Eo:(Rows.bookWitnessRow.named==Tryz.prog.varsNamed 5)=true:=by kernel_rfl
theorem oj:Tryz.prog.funcNamed "sesame/sesamelaw24.BookWitness"=some 5:=by kernel_rfl
theorem CX {a b:Bool}(h:a=true)(k:b=true):(a&&b)=true:=by rw [h,k];rfl
theorem td:joinedFacts Tryz.prog 5 Tryz.f5 Rows.bookWitnessSpec Rows.bookWitnessRow=true:=by
 unfold joinedFacts;repeat' (with_reducible refine CX ?_ ?_)
 all_goals (first|(with_reducible exact FO)|(with_reducible exact Eh)|(with_reducible exact Gb)|(with_reducible exact Eo)|(as_aux_lemma=>kernel_rfl))
theorem zC:Tryz.f5.isInstance Tryz.prog Rows.bookWitnessRow.origin Rows.bookWitnessRow.targs:=of_decide_eq_true (by kernel_rfl)
theorem AN:Tryz.f5.isWrapper Tryz.prog Rows.bookWitnessRow.wrapper Rows.bookWitnessRow.mainSum:=by unfold Func.isWrapper;first|(rw [if_pos (by decide +kernel)];kernel_rfl)|(rw [if_neg (by decide +kernel)];exact⟨rfl,rfl⟩)
end Go.Proofs.YtmhinfbkmjdgfaaGreatDoor.V
