/-
  DERIVED. GIVEN WITH THE SEED: THE CARDS: each row of YtfmhdimaijimlaaGreatDoorRows.lean that lists a variable, with what it lists TIED to the program's text (the seventh form; the later family's looks); each row that meets fmt, with fmt's text TOLD by the authors' own Lean function (tested against real Go, not proved from fmt's source: count such statements apart). THE CARD IS WHAT COUNTS. Prove the row's statement (the work); the ties are given (YtfmhdimaijimlaaGreatDoorTie.lean); close each card by the builder's one call (the guide's Derived/Test/ToyasCard.lean, 'card_holds'). Laid BY PROGRAM, IN A SANDBOX (cutbox-door.mjs). By AI agents, Wed Nov 11 2026. No macro, syntax, notation, axiom, sorry.
-/
import Derived.Test.YtfmhdimaijimlaaGreatDoorRows
import GoSem.ClaimSeven
namespace Go.Proofs.YtfmhdimaijimlaaGreatDoor
namespace Rows

/-- THE TIED CARD OF 'sesamelaw21.KernelKnobs'. -/
def kernelKnobsCard : Claim7 := { stood := { row := kernelKnobsRow, standIns := [], harness := (true, "90fbead9d07fa004a70beb7406bf7f93119a0d73e6ba5b0fd747f4c54d3690ac"), looks := true }, kinds := [], alts := [], laidByText := true, laidKinds := [.handle], laidTests := true, laidLooks := .later }
def KernelKnobsCardSaid : Prop := Claim7.holds Tryz.pinned (.plain (OpenSpec.ofChange kernelKnobsSpec)) kernelKnobsCard

/-- THE TIED CARD OF 'sesamelaw21.KernelSees'. -/
def kernelSeesCard : Claim7 := { stood := { row := kernelSeesRow, standIns := [], harness := (true, "90fbead9d07fa004a70beb7406bf7f93119a0d73e6ba5b0fd747f4c54d3690ac"), looks := true }, kinds := [], alts := [], laidByText := true, laidKinds := [.handle], laidTests := true, laidLooks := .later }
def KernelSeesCardSaid : Prop := Claim7.holds Tryz.pinned (.plain (OpenSpec.ofChange kernelSeesSpec)) kernelSeesCard

/-- THE TIED CARD OF 'sesamelaw21.KernelRefuses'. -/
def kernelRefusesCard : Claim7 := { stood := { row := kernelRefusesRow, standIns := [], harness := (true, "90fbead9d07fa004a70beb7406bf7f93119a0d73e6ba5b0fd747f4c54d3690ac"), looks := true }, kinds := [], alts := [], laidByText := true, laidKinds := [.handle], laidTests := true, laidLooks := .later }
def KernelRefusesCardSaid : Prop := Claim7.holds Tryz.pinned (.plain (OpenSpec.ofChange kernelRefusesSpec)) kernelRefusesCard

/-- THE TIED CARD OF 'sesamelaw21.KernelGone'. -/
def kernelGoneCard : Claim7 := { stood := { row := kernelGoneRow, standIns := [], harness := (true, "90fbead9d07fa004a70beb7406bf7f93119a0d73e6ba5b0fd747f4c54d3690ac"), looks := true }, kinds := [], alts := [], laidByText := true, laidKinds := [.handle], laidTests := true, laidLooks := .later }
def KernelGoneCardSaid : Prop := Claim7.holds Tryz.pinned (.plain (OpenSpec.ofChange kernelGoneSpec)) kernelGoneCard

/-- THE TIED CARD OF 'sesamelaw21.KernelNews'. -/
def kernelNewsCard : Claim7 := { stood := { row := kernelNewsRow, standIns := [], harness := (true, "90fbead9d07fa004a70beb7406bf7f93119a0d73e6ba5b0fd747f4c54d3690ac"), looks := true }, kinds := [], alts := [], laidByText := true, laidKinds := [.handle], laidTests := true, laidLooks := .later }
def KernelNewsCardSaid : Prop := Claim7.holds Tryz.pinned (.plain (OpenSpec.ofChange kernelNewsSpec)) kernelNewsCard

/-- THE TIED CARD OF 'sesamelaw21.KernelKeeps'. -/
def kernelKeepsCard : Claim7 := { stood := { row := kernelKeepsRow, standIns := [], harness := (true, "90fbead9d07fa004a70beb7406bf7f93119a0d73e6ba5b0fd747f4c54d3690ac"), looks := true }, kinds := [], alts := [], laidByText := true, laidKinds := [.handle], laidTests := true, laidLooks := .later }
def KernelKeepsCardSaid : Prop := Claim7.holds Tryz.pinned (.plain (OpenSpec.ofChange kernelKeepsSpec)) kernelKeepsCard

/-- THE SECOND FORM's CARD OF 'sesamelaw21.KernelKnobs'. -/
def kernelKnobsUptoCard : Claim7 := { stood := { row := kernelKnobsUptoRow, standIns := [], harness := (true, "90fbead9d07fa004a70beb7406bf7f93119a0d73e6ba5b0fd747f4c54d3690ac"), looks := true }, kinds := [], alts := [], laidByText := true, laidKinds := [.handle], laidTests := true, laidLooks := .later }
def KernelKnobsUptoCardSaid : Prop := Claim7.holds Tryz.pinned (.plain (OpenSpec.upto kernelKnobsSpec)) kernelKnobsUptoCard

/-- THE SECOND FORM's CARD OF 'sesamelaw21.KernelSees'. -/
def kernelSeesUptoCard : Claim7 := { stood := { row := kernelSeesUptoRow, standIns := [], harness := (true, "90fbead9d07fa004a70beb7406bf7f93119a0d73e6ba5b0fd747f4c54d3690ac"), looks := true }, kinds := [], alts := [], laidByText := true, laidKinds := [.handle], laidTests := true, laidLooks := .later }
def KernelSeesUptoCardSaid : Prop := Claim7.holds Tryz.pinned (.plain (OpenSpec.upto kernelSeesSpec)) kernelSeesUptoCard

/-- THE SECOND FORM's CARD OF 'sesamelaw21.KernelRefuses'. -/
def kernelRefusesUptoCard : Claim7 := { stood := { row := kernelRefusesUptoRow, standIns := [], harness := (true, "90fbead9d07fa004a70beb7406bf7f93119a0d73e6ba5b0fd747f4c54d3690ac"), looks := true }, kinds := [], alts := [], laidByText := true, laidKinds := [.handle], laidTests := true, laidLooks := .later }
def KernelRefusesUptoCardSaid : Prop := Claim7.holds Tryz.pinned (.plain (OpenSpec.upto kernelRefusesSpec)) kernelRefusesUptoCard

/-- THE SECOND FORM's CARD OF 'sesamelaw21.KernelGone'. -/
def kernelGoneUptoCard : Claim7 := { stood := { row := kernelGoneUptoRow, standIns := [], harness := (true, "90fbead9d07fa004a70beb7406bf7f93119a0d73e6ba5b0fd747f4c54d3690ac"), looks := true }, kinds := [], alts := [], laidByText := true, laidKinds := [.handle], laidTests := true, laidLooks := .later }
def KernelGoneUptoCardSaid : Prop := Claim7.holds Tryz.pinned (.plain (OpenSpec.upto kernelGoneSpec)) kernelGoneUptoCard

/-- THE SECOND FORM's CARD OF 'sesamelaw21.KernelNews'. -/
def kernelNewsUptoCard : Claim7 := { stood := { row := kernelNewsUptoRow, standIns := [], harness := (true, "90fbead9d07fa004a70beb7406bf7f93119a0d73e6ba5b0fd747f4c54d3690ac"), looks := true }, kinds := [], alts := [], laidByText := true, laidKinds := [.handle], laidTests := true, laidLooks := .later }
def KernelNewsUptoCardSaid : Prop := Claim7.holds Tryz.pinned (.plain (OpenSpec.upto kernelNewsSpec)) kernelNewsUptoCard

/-- THE SECOND FORM's CARD OF 'sesamelaw21.KernelKeeps'. -/
def kernelKeepsUptoCard : Claim7 := { stood := { row := kernelKeepsUptoRow, standIns := [], harness := (true, "90fbead9d07fa004a70beb7406bf7f93119a0d73e6ba5b0fd747f4c54d3690ac"), looks := true }, kinds := [], alts := [], laidByText := true, laidKinds := [.handle], laidTests := true, laidLooks := .later }
def KernelKeepsUptoCardSaid : Prop := Claim7.holds Tryz.pinned (.plain (OpenSpec.upto kernelKeepsSpec)) kernelKeepsUptoCard
end Rows
end Go.Proofs.YtfmhdimaijimlaaGreatDoor
