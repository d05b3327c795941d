import Derived.Maps.OwnIn
import Derived.Sort.CutIn
import Derived.Test.YtmhinfbkmjdgfaaGreatDoorZ03
set_option linter.unusedVariables false
set_option linter.unusedSimpArgs false
namespace Go.Proofs.YtmhinfbkmjdgfaaGreatDoor
open Go.RowKit Go.Shelf H
theorem zi (i:Nat){F:Fence}{n:Nat}{P:Program}{md:Region.Mode}{ops:Array Oper}{Q:Exit->Act->World->Prop}{fuel:Nat}{listed:Array Bool}{a:Act}{w:World}{o:Oper}(h:∀K':Act->World->Prop,(∀a w,wpAnyIn F n P md ops Q fuel (listed.setIfInBounds i true) a w->K' a w)->if Region.wanted o (yielded ops a.tmps)=true then Oper.wpIn F n P o a w K' Q else (∀f,o.about P w a.eval=some f->F.fn f)/\K' (a.put o.dst undef) w)(ho:ops[i]?=some o:=by exact rfl)(hr:Region.ready md ops listed=[i]:=by kernel_rfl):wpAnyIn F n P md ops Q (fuel+1) listed a w :=
 wpAnyIn_ready hr (by simp) (AllReadyIn.cons ho h AllReadyIn.nil)
attribute [local go_sem] Oper.semAt_some
end Go.Proofs.YtmhinfbkmjdgfaaGreatDoor
