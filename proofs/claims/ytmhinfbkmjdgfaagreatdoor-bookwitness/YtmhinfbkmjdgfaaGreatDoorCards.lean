/-
  DERIVED. GIVEN WITH THE SEED: THE CARDS: each row of YtmhinfbkmjdgfaaGreatDoorRows.lean that lists a variable, with what it lists TIED to the program's text (the seventh form; the later family's looks); each row that meets fmt, with fmt's text TOLD by the authors' own Lean function (tested against real Go, not proved from fmt's source: count such statements apart). THE CARD IS WHAT COUNTS. Prove the row's statement (the work); the ties are given (YtmhinfbkmjdgfaaGreatDoorTie.lean); close each card by the builder's one call (the guide's Derived/Test/ToyasCard.lean, 'card_holds'). Laid BY PROGRAM, IN A SANDBOX (cutbox-door.mjs). By AI agents, Wed Nov 11 2026. No macro, syntax, notation, axiom, sorry.
-/
import Derived.Test.YtmhinfbkmjdgfaaGreatDoorRows
import GoSem.ClaimSeven
namespace Go.Proofs.YtmhinfbkmjdgfaaGreatDoor
namespace Rows

/-- THE TIED CARD OF 'sesamelaw21.KernelKeeps'. -/
def kernelKeepsCard : Claim7 := { stood := { row := kernelKeepsRow, standIns := [], harness := (true, "62d4ada93b9280b65696c6a4b5cb8dc401fa876b18e4422fd2dc7958ae250ab2"), looks := true }, kinds := [], alts := [], laidByText := true, laidKinds := [.handle], laidTests := true, laidLooks := .later }
def KernelKeepsCardSaid : Prop := Claim7.holds Tryz.pinned (.plain (OpenSpec.ofChange kernelKeepsSpec)) kernelKeepsCard

/-- THE TIED CARD OF 'sesamelaw21.KernelPlays'. -/
def kernelPlaysCard : Claim7 := { stood := { row := kernelPlaysRow, standIns := [], harness := (true, "62d4ada93b9280b65696c6a4b5cb8dc401fa876b18e4422fd2dc7958ae250ab2"), looks := true }, kinds := [], alts := [], laidByText := true, laidKinds := [.handle], laidTests := true, laidLooks := .later }
def KernelPlaysCardSaid : Prop := Claim7.holds Tryz.pinned (.plain (OpenSpec.ofChange kernelPlaysSpec)) kernelPlaysCard

/-- THE TIED CARD OF 'sesamelaw24.BookWitness'. -/
def bookWitnessCard : Claim7 := { stood := { row := bookWitnessRow, standIns := [], harness := (true, "62d4ada93b9280b65696c6a4b5cb8dc401fa876b18e4422fd2dc7958ae250ab2"), looks := true }, kinds := [], alts := [], laidByText := true, laidKinds := [.handle], laidTests := true, laidLooks := .later }
def BookWitnessCardSaid : Prop := Claim7.holds Tryz.pinned (.plain (OpenSpec.ofChange bookWitnessSpec)) bookWitnessCard

/-- THE TIED CARD OF 'sesamelaw24.BookChains'. -/
def bookChainsCard : Claim7 := { stood := { row := bookChainsRow, standIns := [], harness := (true, "62d4ada93b9280b65696c6a4b5cb8dc401fa876b18e4422fd2dc7958ae250ab2"), looks := true }, kinds := [], alts := [], laidByText := true, laidKinds := [.handle], laidTests := true, laidLooks := .later }
def BookChainsCardSaid : Prop := Claim7.holds Tryz.pinned (.plain (OpenSpec.ofChange bookChainsSpec)) bookChainsCard

/-- THE TIED CARD OF 'sesamelaw25.ApartHolds'. -/
def apartHoldsCard : Claim7 := { stood := { row := apartHoldsRow, standIns := [], harness := (true, "62d4ada93b9280b65696c6a4b5cb8dc401fa876b18e4422fd2dc7958ae250ab2"), looks := true }, kinds := [], alts := [], laidByText := true, laidKinds := [.handle], laidTests := true, laidLooks := .later }
def ApartHoldsCardSaid : Prop := Claim7.holds Tryz.pinned (.plain (OpenSpec.ofChange apartHoldsSpec)) apartHoldsCard

/-- THE TIED CARD OF 'sesamelaw26.GuessBounds'. -/
def guessBoundsCard : Claim7 := { stood := { row := guessBoundsRow, standIns := [], harness := (true, "62d4ada93b9280b65696c6a4b5cb8dc401fa876b18e4422fd2dc7958ae250ab2"), looks := true }, kinds := [], alts := [], laidByText := true, laidKinds := [.handle], laidTests := true, laidLooks := .later }
def GuessBoundsCardSaid : Prop := Claim7.holds Tryz.pinned (.plain (OpenSpec.ofChange guessBoundsSpec)) guessBoundsCard

/-- THE TIED CARD OF 'sesamelaw26.GuessIns'. -/
def guessInsCard : Claim7 := { stood := { row := guessInsRow, standIns := [], harness := (true, "62d4ada93b9280b65696c6a4b5cb8dc401fa876b18e4422fd2dc7958ae250ab2"), looks := true }, kinds := [], alts := [], laidByText := true, laidKinds := [.handle], laidTests := true, laidLooks := .later }
def GuessInsCardSaid : Prop := Claim7.holds Tryz.pinned (.plain (OpenSpec.ofChange guessInsSpec)) guessInsCard

/-- THE SECOND FORM's CARD OF 'sesamelaw21.KernelKeeps'. -/
def kernelKeepsUptoCard : Claim7 := { stood := { row := kernelKeepsUptoRow, standIns := [], harness := (true, "62d4ada93b9280b65696c6a4b5cb8dc401fa876b18e4422fd2dc7958ae250ab2"), looks := true }, kinds := [], alts := [], laidByText := true, laidKinds := [.handle], laidTests := true, laidLooks := .later }
def KernelKeepsUptoCardSaid : Prop := Claim7.holds Tryz.pinned (.plain (OpenSpec.upto kernelKeepsSpec)) kernelKeepsUptoCard

/-- THE SECOND FORM's CARD OF 'sesamelaw21.KernelPlays'. -/
def kernelPlaysUptoCard : Claim7 := { stood := { row := kernelPlaysUptoRow, standIns := [], harness := (true, "62d4ada93b9280b65696c6a4b5cb8dc401fa876b18e4422fd2dc7958ae250ab2"), looks := true }, kinds := [], alts := [], laidByText := true, laidKinds := [.handle], laidTests := true, laidLooks := .later }
def KernelPlaysUptoCardSaid : Prop := Claim7.holds Tryz.pinned (.plain (OpenSpec.upto kernelPlaysSpec)) kernelPlaysUptoCard

/-- THE SECOND FORM's CARD OF 'sesamelaw24.BookWitness'. -/
def bookWitnessUptoCard : Claim7 := { stood := { row := bookWitnessUptoRow, standIns := [], harness := (true, "62d4ada93b9280b65696c6a4b5cb8dc401fa876b18e4422fd2dc7958ae250ab2"), looks := true }, kinds := [], alts := [], laidByText := true, laidKinds := [.handle], laidTests := true, laidLooks := .later }
def BookWitnessUptoCardSaid : Prop := Claim7.holds Tryz.pinned (.plain (OpenSpec.upto bookWitnessSpec)) bookWitnessUptoCard

/-- THE SECOND FORM's CARD OF 'sesamelaw24.BookChains'. -/
def bookChainsUptoCard : Claim7 := { stood := { row := bookChainsUptoRow, standIns := [], harness := (true, "62d4ada93b9280b65696c6a4b5cb8dc401fa876b18e4422fd2dc7958ae250ab2"), looks := true }, kinds := [], alts := [], laidByText := true, laidKinds := [.handle], laidTests := true, laidLooks := .later }
def BookChainsUptoCardSaid : Prop := Claim7.holds Tryz.pinned (.plain (OpenSpec.upto bookChainsSpec)) bookChainsUptoCard

/-- THE SECOND FORM's CARD OF 'sesamelaw25.ApartHolds'. -/
def apartHoldsUptoCard : Claim7 := { stood := { row := apartHoldsUptoRow, standIns := [], harness := (true, "62d4ada93b9280b65696c6a4b5cb8dc401fa876b18e4422fd2dc7958ae250ab2"), looks := true }, kinds := [], alts := [], laidByText := true, laidKinds := [.handle], laidTests := true, laidLooks := .later }
def ApartHoldsUptoCardSaid : Prop := Claim7.holds Tryz.pinned (.plain (OpenSpec.upto apartHoldsSpec)) apartHoldsUptoCard

/-- THE SECOND FORM's CARD OF 'sesamelaw26.GuessBounds'. -/
def guessBoundsUptoCard : Claim7 := { stood := { row := guessBoundsUptoRow, standIns := [], harness := (true, "62d4ada93b9280b65696c6a4b5cb8dc401fa876b18e4422fd2dc7958ae250ab2"), looks := true }, kinds := [], alts := [], laidByText := true, laidKinds := [.handle], laidTests := true, laidLooks := .later }
def GuessBoundsUptoCardSaid : Prop := Claim7.holds Tryz.pinned (.plain (OpenSpec.upto guessBoundsSpec)) guessBoundsUptoCard

/-- THE SECOND FORM's CARD OF 'sesamelaw26.GuessIns'. -/
def guessInsUptoCard : Claim7 := { stood := { row := guessInsUptoRow, standIns := [], harness := (true, "62d4ada93b9280b65696c6a4b5cb8dc401fa876b18e4422fd2dc7958ae250ab2"), looks := true }, kinds := [], alts := [], laidByText := true, laidKinds := [.handle], laidTests := true, laidLooks := .later }
def GuessInsUptoCardSaid : Prop := Claim7.holds Tryz.pinned (.plain (OpenSpec.upto guessInsSpec)) guessInsUptoCard
end Rows
end Go.Proofs.YtmhinfbkmjdgfaaGreatDoor
