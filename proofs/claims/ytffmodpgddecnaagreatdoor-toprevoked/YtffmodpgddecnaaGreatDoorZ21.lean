import Derived.Test.YtffmodpgddecnaaGreatDoorRows
import Derived.WalkKit
import Derived.ProofKit
import Derived.JoinedOf
set_option linter.unusedVariables false
set_option linter.unusedSimpArgs false
set_option maxRecDepth 100000
set_option maxHeartbeats 4000000
namespace Go.Proofs.YtffmodpgddecnaaGreatDoor.V
theorem GD:(Rows.topRevokedRow.inPlace==Tryz.prog.inPlace 7)=true:=by kernel_rfl
theorem GY:(Rows.topRevokedRow.unfollowed==Tryz.prog.unfollowed 7)=true:=by kernel_rfl
theorem Gg:(Rows.topRevokedRow.recurses==Tryz.prog.recurses 7)=true:=by kernel_rfl
theorem FB:(Rows.topRevokedRow.named==Tryz.prog.varsNamed 7)=true:=by kernel_rfl
theorem ot:Tryz.prog.funcNamed "sesame/sesametop.TopRevoked"=some 7:=by kernel_rfl
theorem Dp {a b:Bool}(h:a=true)(k:b=true):(a&&b)=true:=by rw [h,k];rfl
theorem tB:joinedFacts Tryz.prog 7 Tryz.f7 Rows.topRevokedSpec Rows.topRevokedRow=true:=by
 unfold joinedFacts;repeat' (with_reducible refine Dp ?_ ?_)
 all_goals (first|(with_reducible exact GD)|(with_reducible exact GY)|(with_reducible exact Gg)|(with_reducible exact FB)|(as_aux_lemma=>kernel_rfl))
theorem Bp:Tryz.f7.isInstance Tryz.prog Rows.topRevokedRow.origin Rows.topRevokedRow.targs:=of_decide_eq_true (by kernel_rfl)
theorem A8:Tryz.f7.isWrapper Tryz.prog Rows.topRevokedRow.wrapper Rows.topRevokedRow.mainSum:=by unfold Func.isWrapper;first|(rw [if_pos (by decide +kernel)];kernel_rfl)|(rw [if_neg (by decide +kernel)];exact⟨rfl,rfl⟩)
end Go.Proofs.YtffmodpgddecnaaGreatDoor.V
