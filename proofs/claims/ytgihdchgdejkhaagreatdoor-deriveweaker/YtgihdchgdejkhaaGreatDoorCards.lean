/-
  DERIVED. GIVEN WITH THE SEED: THE CARDS: each row of YtgihdchgdejkhaaGreatDoorRows.lean that lists a variable, with what it lists TIED to the program's text (the seventh form; the later family's looks); each row that meets fmt, with fmt's text TOLD by the authors' own Lean function (tested against real Go, not proved from fmt's source: count such statements apart). THE CARD IS WHAT COUNTS. Prove the row's statement (the work); the ties are given (YtgihdchgdejkhaaGreatDoorTie.lean); close each card by the builder's one call (the guide's Derived/Test/ToyasCard.lean, 'card_holds'). Laid BY PROGRAM, IN A SANDBOX (cutbox-door.mjs). By AI agents, Wed Nov 11 2026. No macro, syntax, notation, axiom, sorry.
-/
import Derived.Test.YtgihdchgdejkhaaGreatDoorRows
import GoSem.ClaimSeven
namespace Go.Proofs.YtgihdchgdejkhaaGreatDoor
namespace Rows

/-- THE TIED CARD OF 'sesamelaw14.DeriveTwins'. -/
def deriveTwinsCard : Claim7 := { stood := { row := deriveTwinsRow, standIns := [], harness := (true, "096f737d3d8ba766a5f905820888bc58acf212af1aafd00a76e9d284967c37af"), looks := true }, kinds := [], alts := [], laidByText := true, laidKinds := [.handle], laidTests := true, laidLooks := .later }
def DeriveTwinsCardSaid : Prop := Claim7.holds Tryz.pinned (.plain (OpenSpec.ofChange deriveTwinsSpec)) deriveTwinsCard

/-- THE TIED CARD OF 'sesamelaw14.DeriveWeaker'. -/
def deriveWeakerCard : Claim7 := { stood := { row := deriveWeakerRow, standIns := [], harness := (true, "096f737d3d8ba766a5f905820888bc58acf212af1aafd00a76e9d284967c37af"), looks := true }, kinds := [], alts := [], laidByText := true, laidKinds := [.handle], laidTests := true, laidLooks := .later }
def DeriveWeakerCardSaid : Prop := Claim7.holds Tryz.pinned (.plain (OpenSpec.ofChange deriveWeakerSpec)) deriveWeakerCard

/-- THE TIED CARD OF 'sesamelaw14.DeriveAll'. -/
def deriveAllCard : Claim7 := { stood := { row := deriveAllRow, standIns := [], harness := (true, "096f737d3d8ba766a5f905820888bc58acf212af1aafd00a76e9d284967c37af"), looks := true }, kinds := [], alts := [], laidByText := true, laidKinds := [.handle], laidTests := true, laidLooks := .later }
def DeriveAllCardSaid : Prop := Claim7.holds Tryz.pinned (.plain (OpenSpec.ofChange deriveAllSpec)) deriveAllCard

/-- THE SECOND FORM's CARD OF 'sesamelaw14.DeriveTwins'. -/
def deriveTwinsUptoCard : Claim7 := { stood := { row := deriveTwinsUptoRow, standIns := [], harness := (true, "096f737d3d8ba766a5f905820888bc58acf212af1aafd00a76e9d284967c37af"), looks := true }, kinds := [], alts := [], laidByText := true, laidKinds := [.handle], laidTests := true, laidLooks := .later }
def DeriveTwinsUptoCardSaid : Prop := Claim7.holds Tryz.pinned (.plain (OpenSpec.upto deriveTwinsSpec)) deriveTwinsUptoCard

/-- THE SECOND FORM's CARD OF 'sesamelaw14.DeriveWeaker'. -/
def deriveWeakerUptoCard : Claim7 := { stood := { row := deriveWeakerUptoRow, standIns := [], harness := (true, "096f737d3d8ba766a5f905820888bc58acf212af1aafd00a76e9d284967c37af"), looks := true }, kinds := [], alts := [], laidByText := true, laidKinds := [.handle], laidTests := true, laidLooks := .later }
def DeriveWeakerUptoCardSaid : Prop := Claim7.holds Tryz.pinned (.plain (OpenSpec.upto deriveWeakerSpec)) deriveWeakerUptoCard

/-- THE SECOND FORM's CARD OF 'sesamelaw14.DeriveAll'. -/
def deriveAllUptoCard : Claim7 := { stood := { row := deriveAllUptoRow, standIns := [], harness := (true, "096f737d3d8ba766a5f905820888bc58acf212af1aafd00a76e9d284967c37af"), looks := true }, kinds := [], alts := [], laidByText := true, laidKinds := [.handle], laidTests := true, laidLooks := .later }
def DeriveAllUptoCardSaid : Prop := Claim7.holds Tryz.pinned (.plain (OpenSpec.upto deriveAllSpec)) deriveAllUptoCard
end Rows
end Go.Proofs.YtgihdchgdejkhaaGreatDoor
