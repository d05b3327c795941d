import Derived.Test.YtmhinfbkmjdgfaaGreatDoorZ25
set_option linter.unusedVariables false
set_option linter.unusedSimpArgs false
namespace Go.Proofs.YtmhinfbkmjdgfaaGreatDoor.V
open Go
theorem AF:false=Rows.bookWitnessRow.goesBy Tryz.prog:=Bs Di _ _
end Go.Proofs.YtmhinfbkmjdgfaaGreatDoor.V
