/-
  DERIVED. GIVEN WITH THE SEED: THE CARDS: each row of YtpibpdpedjinhaaGreatDoorRows.lean that lists a variable, with what it lists TIED to the program's text (the seventh form; the later family's looks); each row that meets fmt, with fmt's text TOLD by the authors' own Lean function (tested against real Go, not proved from fmt's source: count such statements apart). THE CARD IS WHAT COUNTS. Prove the row's statement (the work); the ties are given (YtpibpdpedjinhaaGreatDoorTie.lean); close each card by the builder's one call (the guide's Derived/Test/ToyasCard.lean, 'card_holds'). Laid BY PROGRAM, IN A SANDBOX (cutbox-door.mjs). By AI agents, Wed Nov 11 2026. No macro, syntax, notation, axiom, sorry.
-/
import Derived.Test.YtpibpdpedjinhaaGreatDoorRows
import GoSem.ClaimSeven
namespace Go.Proofs.YtpibpdpedjinhaaGreatDoor
namespace Rows

/-- THE TIED CARD OF 'tributarylaw.Alls'. -/
def allsCard : Claim7 := { stood := { row := allsRow, standIns := [], harness := (true, "86f446d083b21c697143d8f604f5e2b0e35ced65590020ebfc29d445f4fc9267"), looks := false }, kinds := [], alts := [], goes := true, laidByText := true, laidKinds := [.data], laidTests := true, laidLooks := .later }
def AllsCardSaid : Prop := Claim7.holds Tryz.pinned (.plain (OpenSpec.ofChange allsSpec)) allsCard

/-- THE TIED CARD OF 'tributarylaw.Follows'. -/
def followsCard : Claim7 := { stood := { row := followsRow, standIns := [], harness := (true, "86f446d083b21c697143d8f604f5e2b0e35ced65590020ebfc29d445f4fc9267"), looks := false }, kinds := [], alts := [], goes := true, laidByText := true, laidKinds := [.data, .sentinel], laidTests := true, laidLooks := .later }
def FollowsCardSaid : Prop := Claim7.holds Tryz.pinned (.plain (OpenSpec.ofChange followsSpec)) followsCard

/-- THE TIED CARD OF 'tributarykeep.Grows'. -/
def growsCard : Claim7 := { stood := { row := growsRow, standIns := [], harness := (true, "86f446d083b21c697143d8f604f5e2b0e35ced65590020ebfc29d445f4fc9267"), looks := false }, kinds := [], alts := [], goes := true, laidByText := true, laidKinds := [.data], laidTests := true, laidLooks := .later }
def GrowsCardSaid : Prop := Claim7.holds Tryz.pinned (.plain (OpenSpec.ofChange growsSpec)) growsCard

/-- THE TIED CARD OF 'tributarykeep.Shape'. -/
def shapeCard : Claim7 := { stood := { row := shapeRow, standIns := [], harness := (true, "86f446d083b21c697143d8f604f5e2b0e35ced65590020ebfc29d445f4fc9267"), looks := false }, kinds := [], alts := [], goes := true, laidByText := true, laidKinds := [.data], laidTests := true, laidLooks := .later }
def ShapeCardSaid : Prop := Claim7.holds Tryz.pinned (.plain (OpenSpec.ofChange shapeSpec)) shapeCard

/-- THE TIED CARD OF 'tributarykeep.Honest'. -/
def honestCard : Claim7 := { stood := { row := honestRow, standIns := [], harness := (true, "86f446d083b21c697143d8f604f5e2b0e35ced65590020ebfc29d445f4fc9267"), looks := false }, kinds := [], alts := [], goes := true, laidByText := true, laidKinds := [.data], laidTests := true, laidLooks := .later }
def HonestCardSaid : Prop := Claim7.holds Tryz.pinned (.plain (OpenSpec.ofChange honestSpec)) honestCard

/-- THE TIED CARD OF 'tributarykeep.Unheard'. -/
def unheardCard : Claim7 := { stood := { row := unheardRow, standIns := [], harness := (true, "86f446d083b21c697143d8f604f5e2b0e35ced65590020ebfc29d445f4fc9267"), looks := false }, kinds := [], alts := [], goes := true, laidByText := true, laidKinds := [.data], laidTests := true, laidLooks := .later }
def UnheardCardSaid : Prop := Claim7.holds Tryz.pinned (.plain (OpenSpec.ofChange unheardSpec)) unheardCard

/-- THE TIED CARD OF 'tributarykeep.Parted'. -/
def partedCard : Claim7 := { stood := { row := partedRow, standIns := [], harness := (true, "86f446d083b21c697143d8f604f5e2b0e35ced65590020ebfc29d445f4fc9267"), looks := false }, kinds := [], alts := [], goes := true, laidByText := true, laidKinds := [.data], laidTests := true, laidLooks := .later }
def PartedCardSaid : Prop := Claim7.holds Tryz.pinned (.plain (OpenSpec.ofChange partedSpec)) partedCard

/-- THE SECOND FORM's CARD OF 'tributarylaw.Alls'. -/
def allsUptoCard : Claim7 := { stood := { row := allsUptoRow, standIns := [], harness := (true, "86f446d083b21c697143d8f604f5e2b0e35ced65590020ebfc29d445f4fc9267"), looks := false }, kinds := [], alts := [], goes := true, laidByText := true, laidKinds := [.data], laidTests := true, laidLooks := .later }
def AllsUptoCardSaid : Prop := Claim7.holds Tryz.pinned (.plain (OpenSpec.upto allsSpec)) allsUptoCard

/-- THE SECOND FORM's CARD OF 'tributarylaw.Follows'. -/
def followsUptoCard : Claim7 := { stood := { row := followsUptoRow, standIns := [], harness := (true, "86f446d083b21c697143d8f604f5e2b0e35ced65590020ebfc29d445f4fc9267"), looks := false }, kinds := [], alts := [], goes := true, laidByText := true, laidKinds := [.data, .sentinel], laidTests := true, laidLooks := .later }
def FollowsUptoCardSaid : Prop := Claim7.holds Tryz.pinned (.plain (OpenSpec.upto followsSpec)) followsUptoCard

/-- THE SECOND FORM's CARD OF 'tributarykeep.Grows'. -/
def growsUptoCard : Claim7 := { stood := { row := growsUptoRow, standIns := [], harness := (true, "86f446d083b21c697143d8f604f5e2b0e35ced65590020ebfc29d445f4fc9267"), looks := false }, kinds := [], alts := [], goes := true, laidByText := true, laidKinds := [.data], laidTests := true, laidLooks := .later }
def GrowsUptoCardSaid : Prop := Claim7.holds Tryz.pinned (.plain (OpenSpec.upto growsSpec)) growsUptoCard

/-- THE SECOND FORM's CARD OF 'tributarykeep.Shape'. -/
def shapeUptoCard : Claim7 := { stood := { row := shapeUptoRow, standIns := [], harness := (true, "86f446d083b21c697143d8f604f5e2b0e35ced65590020ebfc29d445f4fc9267"), looks := false }, kinds := [], alts := [], goes := true, laidByText := true, laidKinds := [.data], laidTests := true, laidLooks := .later }
def ShapeUptoCardSaid : Prop := Claim7.holds Tryz.pinned (.plain (OpenSpec.upto shapeSpec)) shapeUptoCard

/-- THE SECOND FORM's CARD OF 'tributarykeep.Honest'. -/
def honestUptoCard : Claim7 := { stood := { row := honestUptoRow, standIns := [], harness := (true, "86f446d083b21c697143d8f604f5e2b0e35ced65590020ebfc29d445f4fc9267"), looks := false }, kinds := [], alts := [], goes := true, laidByText := true, laidKinds := [.data], laidTests := true, laidLooks := .later }
def HonestUptoCardSaid : Prop := Claim7.holds Tryz.pinned (.plain (OpenSpec.upto honestSpec)) honestUptoCard

/-- THE SECOND FORM's CARD OF 'tributarykeep.Unheard'. -/
def unheardUptoCard : Claim7 := { stood := { row := unheardUptoRow, standIns := [], harness := (true, "86f446d083b21c697143d8f604f5e2b0e35ced65590020ebfc29d445f4fc9267"), looks := false }, kinds := [], alts := [], goes := true, laidByText := true, laidKinds := [.data], laidTests := true, laidLooks := .later }
def UnheardUptoCardSaid : Prop := Claim7.holds Tryz.pinned (.plain (OpenSpec.upto unheardSpec)) unheardUptoCard

/-- THE SECOND FORM's CARD OF 'tributarykeep.Parted'. -/
def partedUptoCard : Claim7 := { stood := { row := partedUptoRow, standIns := [], harness := (true, "86f446d083b21c697143d8f604f5e2b0e35ced65590020ebfc29d445f4fc9267"), looks := false }, kinds := [], alts := [], goes := true, laidByText := true, laidKinds := [.data], laidTests := true, laidLooks := .later }
def PartedUptoCardSaid : Prop := Claim7.holds Tryz.pinned (.plain (OpenSpec.upto partedSpec)) partedUptoCard
end Rows
end Go.Proofs.YtpibpdpedjinhaaGreatDoor
