/-
  DERIVED. GIVEN WITH THE SEED: THE CARDS: each row of YtpibpdpedjinhabGreatDoorRows.lean that lists a variable, with what it lists TIED to the program's text (the seventh form; the later family's looks); each row that meets fmt, with fmt's text TOLD by the authors' own Lean function (tested against real Go, not proved from fmt's source: count such statements apart). THE CARD IS WHAT COUNTS. Prove the row's statement (the work); the ties are given (YtpibpdpedjinhabGreatDoorTie.lean); close each card by the builder's one call (the guide's Derived/Test/ToyasCard.lean, 'card_holds'). Laid BY PROGRAM, IN A SANDBOX (cutbox-door.mjs). By AI agents, Wed Nov 11 2026. No macro, syntax, notation, axiom, sorry.
-/
import Derived.Test.YtpibpdpedjinhabGreatDoorRows
import GoSem.ClaimSeven
namespace Go.Proofs.YtpibpdpedjinhabGreatDoor
namespace Rows

/-- THE TIED CARD OF 'tributarykeep.Turned'. -/
def turnedCard : Claim7 := { stood := { row := turnedRow, standIns := [], harness := (true, "7d5f61c6c9d2d66db7fbf1d87820ae0109a4b2c8c83e1950ef460f8e1f0ee1f6"), looks := false }, kinds := [], alts := [], goes := true, laidByText := true, laidKinds := [.data, .sentinel], laidTests := true, laidLooks := .later }
def TurnedCardSaid : Prop := Claim7.holds Tryz.pinned (.plain (OpenSpec.ofChange turnedSpec)) turnedCard

/-- THE TIED CARD OF 'tributarykeep.Fair'. -/
def fairCard : Claim7 := { stood := { row := fairRow, standIns := [], harness := (true, "7d5f61c6c9d2d66db7fbf1d87820ae0109a4b2c8c83e1950ef460f8e1f0ee1f6"), looks := false }, kinds := [], alts := [], goes := true, laidByText := true, laidKinds := [.data, .sentinel], laidTests := true, laidLooks := .later }
def FairCardSaid : Prop := Claim7.holds Tryz.pinned (.plain (OpenSpec.ofChange fairSpec)) fairCard

/-- THE SECOND FORM's CARD OF 'tributarykeep.Turned'. -/
def turnedUptoCard : Claim7 := { stood := { row := turnedUptoRow, standIns := [], harness := (true, "7d5f61c6c9d2d66db7fbf1d87820ae0109a4b2c8c83e1950ef460f8e1f0ee1f6"), looks := false }, kinds := [], alts := [], goes := true, laidByText := true, laidKinds := [.data, .sentinel], laidTests := true, laidLooks := .later }
def TurnedUptoCardSaid : Prop := Claim7.holds Tryz.pinned (.plain (OpenSpec.upto turnedSpec)) turnedUptoCard

/-- THE SECOND FORM's CARD OF 'tributarykeep.Fair'. -/
def fairUptoCard : Claim7 := { stood := { row := fairUptoRow, standIns := [], harness := (true, "7d5f61c6c9d2d66db7fbf1d87820ae0109a4b2c8c83e1950ef460f8e1f0ee1f6"), looks := false }, kinds := [], alts := [], goes := true, laidByText := true, laidKinds := [.data, .sentinel], laidTests := true, laidLooks := .later }
def FairUptoCardSaid : Prop := Claim7.holds Tryz.pinned (.plain (OpenSpec.upto fairSpec)) fairUptoCard
end Rows
end Go.Proofs.YtpibpdpedjinhabGreatDoor
