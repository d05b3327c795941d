import Derived.Test.YtffmodpgddecnaaGreatDoorTie
import Derived.Test.YtffmodpgddecnaaGreatDoorCards
import Derived.WalkKit
import Derived.ProofKit
import Derived.JoinedOf
import Derived.SevenTiedAt
set_option linter.unusedVariables false
set_option linter.unusedSimpArgs false
set_option maxRecDepth 100000
namespace Go.Proofs.YtffmodpgddecnaaGreatDoor.V
theorem FE:Rows.topRevokedRow.wfByText (OpenSpec.ofChange Rows.topRevokedSpec)=true:=by kernel_rfl
theorem BJ:Tryz.prog.mainIs=some ((true,"7be63cd315e80df55906223a8a164985d0c285e0af82d712245cb4fe03be573d").1,(true,"7be63cd315e80df55906223a8a164985d0c285e0af82d712245cb4fe03be573d").2.toList):=by kernel_rfl
theorem xG:true=Tryz.prog.looks []:=by kernel_rfl
theorem GK:Tryz.prog.wantsStandIn 23=false:=by kernel_rfl
theorem Fi:Tryz.prog.wantsStandIn 24=false:=by kernel_rfl
theorem Gd:Tryz.prog.wantsStandIn 25=false:=by kernel_rfl
theorem yJ:false=Rows.topRevokedRow.goesBy Tryz.prog:=by kernel_rfl
end Go.Proofs.YtffmodpgddecnaaGreatDoor.V
