/-
  DERIVED. GIVEN WITH THE SEED: THE CARDS: each row of YtffmodpgddecnaaGreatDoorRows.lean that lists a variable, with what it lists TIED to the program's text (the seventh form; the later family's looks); each row that meets fmt, with fmt's text TOLD by the authors' own Lean function (tested against real Go, not proved from fmt's source: count such statements apart). THE CARD IS WHAT COUNTS. Prove the row's statement (the work); the ties are given (YtffmodpgddecnaaGreatDoorTie.lean); close each card by the builder's one call (the guide's Derived/Test/ToyasCard.lean, 'card_holds'). Laid BY PROGRAM, IN A SANDBOX (cutbox-door.mjs). By AI agents, Wed Nov 11 2026. No macro, syntax, notation, axiom, sorry.
-/
import Derived.Test.YtffmodpgddecnaaGreatDoorRows
import GoSem.ClaimSeven
namespace Go.Proofs.YtffmodpgddecnaaGreatDoor
namespace Rows

/-- THE TIED CARD OF 'sesamelaw21.KernelKeeps'. -/
def kernelKeepsCard : Claim7 := { stood := { row := kernelKeepsRow, standIns := [], harness := (true, "7be63cd315e80df55906223a8a164985d0c285e0af82d712245cb4fe03be573d"), looks := true }, kinds := [], alts := [], laidByText := true, laidKinds := [.handle], laidTests := true, laidLooks := .later }
def KernelKeepsCardSaid : Prop := Claim7.holds Tryz.pinned (.plain (OpenSpec.ofChange kernelKeepsSpec)) kernelKeepsCard

/-- THE TIED CARD OF 'sesamelaw21.KernelPlays'. -/
def kernelPlaysCard : Claim7 := { stood := { row := kernelPlaysRow, standIns := [], harness := (true, "7be63cd315e80df55906223a8a164985d0c285e0af82d712245cb4fe03be573d"), looks := true }, kinds := [], alts := [], laidByText := true, laidKinds := [.handle], laidTests := true, laidLooks := .later }
def KernelPlaysCardSaid : Prop := Claim7.holds Tryz.pinned (.plain (OpenSpec.ofChange kernelPlaysSpec)) kernelPlaysCard

/-- THE TIED CARD OF 'sesamelaw21.KernelLoads'. -/
def kernelLoadsCard : Claim7 := { stood := { row := kernelLoadsRow, standIns := [], harness := (true, "7be63cd315e80df55906223a8a164985d0c285e0af82d712245cb4fe03be573d"), looks := true }, kinds := [], alts := [], laidByText := true, laidKinds := [.handle], laidTests := true, laidLooks := .later }
def KernelLoadsCardSaid : Prop := Claim7.holds Tryz.pinned (.plain (OpenSpec.ofChange kernelLoadsSpec)) kernelLoadsCard

/-- THE TIED CARD OF 'sesamelaw22.PlainKernel'. -/
def plainKernelCard : Claim7 := { stood := { row := plainKernelRow, standIns := [], harness := (true, "7be63cd315e80df55906223a8a164985d0c285e0af82d712245cb4fe03be573d"), looks := true }, kinds := [], alts := [], laidByText := true, laidKinds := [.handle], laidTests := true, laidLooks := .later }
def PlainKernelCardSaid : Prop := Claim7.holds Tryz.pinned (.plain (OpenSpec.ofChange plainKernelSpec)) plainKernelCard

/-- THE TIED CARD OF 'sesametop.TopRevoked'. -/
def topRevokedCard : Claim7 := { stood := { row := topRevokedRow, standIns := [], harness := (true, "7be63cd315e80df55906223a8a164985d0c285e0af82d712245cb4fe03be573d"), looks := true }, kinds := [], alts := [], laidByText := true, laidKinds := [.handle], laidTests := true, laidLooks := .later }
def TopRevokedCardSaid : Prop := Claim7.holds Tryz.pinned (.plain (OpenSpec.ofChange topRevokedSpec)) topRevokedCard

/-- THE TIED CARD OF 'sesametop.TopRecords'. -/
def topRecordsCard : Claim7 := { stood := { row := topRecordsRow, standIns := [], harness := (true, "7be63cd315e80df55906223a8a164985d0c285e0af82d712245cb4fe03be573d"), looks := true }, kinds := [], alts := [], laidByText := true, laidKinds := [.handle], laidTests := true, laidLooks := .later }
def TopRecordsCardSaid : Prop := Claim7.holds Tryz.pinned (.plain (OpenSpec.ofChange topRecordsSpec)) topRecordsCard

/-- THE SECOND FORM's CARD OF 'sesamelaw21.KernelKeeps'. -/
def kernelKeepsUptoCard : Claim7 := { stood := { row := kernelKeepsUptoRow, standIns := [], harness := (true, "7be63cd315e80df55906223a8a164985d0c285e0af82d712245cb4fe03be573d"), looks := true }, kinds := [], alts := [], laidByText := true, laidKinds := [.handle], laidTests := true, laidLooks := .later }
def KernelKeepsUptoCardSaid : Prop := Claim7.holds Tryz.pinned (.plain (OpenSpec.upto kernelKeepsSpec)) kernelKeepsUptoCard

/-- THE SECOND FORM's CARD OF 'sesamelaw21.KernelPlays'. -/
def kernelPlaysUptoCard : Claim7 := { stood := { row := kernelPlaysUptoRow, standIns := [], harness := (true, "7be63cd315e80df55906223a8a164985d0c285e0af82d712245cb4fe03be573d"), looks := true }, kinds := [], alts := [], laidByText := true, laidKinds := [.handle], laidTests := true, laidLooks := .later }
def KernelPlaysUptoCardSaid : Prop := Claim7.holds Tryz.pinned (.plain (OpenSpec.upto kernelPlaysSpec)) kernelPlaysUptoCard

/-- THE SECOND FORM's CARD OF 'sesamelaw21.KernelLoads'. -/
def kernelLoadsUptoCard : Claim7 := { stood := { row := kernelLoadsUptoRow, standIns := [], harness := (true, "7be63cd315e80df55906223a8a164985d0c285e0af82d712245cb4fe03be573d"), looks := true }, kinds := [], alts := [], laidByText := true, laidKinds := [.handle], laidTests := true, laidLooks := .later }
def KernelLoadsUptoCardSaid : Prop := Claim7.holds Tryz.pinned (.plain (OpenSpec.upto kernelLoadsSpec)) kernelLoadsUptoCard

/-- THE SECOND FORM's CARD OF 'sesamelaw22.PlainKernel'. -/
def plainKernelUptoCard : Claim7 := { stood := { row := plainKernelUptoRow, standIns := [], harness := (true, "7be63cd315e80df55906223a8a164985d0c285e0af82d712245cb4fe03be573d"), looks := true }, kinds := [], alts := [], laidByText := true, laidKinds := [.handle], laidTests := true, laidLooks := .later }
def PlainKernelUptoCardSaid : Prop := Claim7.holds Tryz.pinned (.plain (OpenSpec.upto plainKernelSpec)) plainKernelUptoCard

/-- THE SECOND FORM's CARD OF 'sesametop.TopRevoked'. -/
def topRevokedUptoCard : Claim7 := { stood := { row := topRevokedUptoRow, standIns := [], harness := (true, "7be63cd315e80df55906223a8a164985d0c285e0af82d712245cb4fe03be573d"), looks := true }, kinds := [], alts := [], laidByText := true, laidKinds := [.handle], laidTests := true, laidLooks := .later }
def TopRevokedUptoCardSaid : Prop := Claim7.holds Tryz.pinned (.plain (OpenSpec.upto topRevokedSpec)) topRevokedUptoCard

/-- THE SECOND FORM's CARD OF 'sesametop.TopRecords'. -/
def topRecordsUptoCard : Claim7 := { stood := { row := topRecordsUptoRow, standIns := [], harness := (true, "7be63cd315e80df55906223a8a164985d0c285e0af82d712245cb4fe03be573d"), looks := true }, kinds := [], alts := [], laidByText := true, laidKinds := [.handle], laidTests := true, laidLooks := .later }
def TopRecordsUptoCardSaid : Prop := Claim7.holds Tryz.pinned (.plain (OpenSpec.upto topRecordsSpec)) topRecordsUptoCard
end Rows
end Go.Proofs.YtffmodpgddecnaaGreatDoor
