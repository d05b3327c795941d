import Derived.Test.YtmhinfbkmjdgfaaGreatDoorTie
import Derived.Test.YtmhinfbkmjdgfaaGreatDoorCards
import Derived.WalkKit
import Derived.ProofKit
import Derived.JoinedOf
import Derived.SevenTiedAt
import Derived.Test.YtmhinfbkmjdgfaaGreatDoorZZ
set_option linter.unusedVariables false
set_option linter.unusedSimpArgs false
set_option maxRecDepth 100000
namespace Go.Proofs.YtmhinfbkmjdgfaaGreatDoor.V
open Go
variable {P:Program}
theorem na (h:P.funcs.any Func.goes=false)(f:FuncId):P.goes f=false:=by
 have key:∀g:Nat,(P.funcs[g]?).any Func.goes=false:=λg=>by
  cases hg:P.funcs[g]? with
  | none=>rfl
  | some fn =>
   have hm:fn∈P.funcs:=Array.mem_of_getElem? hg
   have:=Array.any_eq_false'.1 h fn hm
   simpa using this
 unfold Program.goes;rw [h,Bool.and_false,Bool.or_false];simp [key]
theorem Bs (h:P.funcs.any Func.goes=false)(s:Start)(g:String):false=P.goesAt s g:=by
 have h1:∀o:Option FuncId,o.any P.goes=false:=λo=>by cases o with
  | none=>rfl
  | some f=>exact na h f
 have h2:P.inits.toList.any P.goes=false:=by
  rw [List.any_eq_false];intro x _;rw [na h x];decide
 unfold Program.goesAt Program.goesFrom;rw [h1,h2];cases s<;>rfl
theorem Di:Tryz.prog.funcs.any Func.goes=false:=by kernel_rfl
end Go.Proofs.YtmhinfbkmjdgfaaGreatDoor.V
