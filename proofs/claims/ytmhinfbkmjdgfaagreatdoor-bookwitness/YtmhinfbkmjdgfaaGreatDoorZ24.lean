import Derived.Test.YtmhinfbkmjdgfaaGreatDoorTie
import Derived.Test.YtmhinfbkmjdgfaaGreatDoorCards
import Derived.WalkKit
import Derived.ProofKit
import Derived.JoinedOf
import Derived.SevenTiedAt
import Derived.Test.YtmhinfbkmjdgfaaGreatDoorZZ
set_option linter.unusedVariables false
set_option linter.unusedSimpArgs false
set_option maxRecDepth 100000
namespace Go.Proofs.YtmhinfbkmjdgfaaGreatDoor.V
theorem EW:Rows.bookWitnessRow.wfByText (OpenSpec.ofChange Rows.bookWitnessSpec)=true:=by kernel_rfl
theorem Aw:Tryz.prog.mainIs=some ((true,"62d4ada93b9280b65696c6a4b5cb8dc401fa876b18e4422fd2dc7958ae250ab2").1,(true,"62d4ada93b9280b65696c6a4b5cb8dc401fa876b18e4422fd2dc7958ae250ab2").2.toList):=by kernel_rfl
theorem vn:true=Tryz.prog.looks []:=by kernel_rfl
theorem EY:Tryz.prog.wantsStandIn 23=false:=by kernel_rfl
theorem FN:Tryz.prog.wantsStandIn 24=false:=by kernel_rfl
theorem Fq:Tryz.prog.wantsStandIn 3=false:=by kernel_rfl
end Go.Proofs.YtmhinfbkmjdgfaaGreatDoor.V
