/-
  DERIVED. GIVEN WITH THE SEED: THE CARDS: each row of YtchmecndihphfaaGreatDoorRows.lean that lists a variable, with what it lists TIED to the program's text (the seventh form; the later family's looks); each row that meets fmt, with fmt's text TOLD by the authors' own Lean function (tested against real Go, not proved from fmt's source: count such statements apart). THE CARD IS WHAT COUNTS. Prove the row's statement (the work); the ties are given (YtchmecndihphfaaGreatDoorTie.lean); close each card by the builder's one call (the guide's Derived/Test/ToyasCard.lean, 'card_holds'). Laid BY PROGRAM, IN A SANDBOX (cutbox-door.mjs). By AI agents, Wed Nov 11 2026. No macro, syntax, notation, axiom, sorry.
-/
import Derived.Test.YtchmecndihphfaaGreatDoorRows
import GoSem.ClaimSeven
namespace Go.Proofs.YtchmecndihphfaaGreatDoor
namespace Rows

/-- THE TIED CARD OF 'headgatelaw07.PlacePlays'. -/
def placePlaysCard : Claim7 := { stood := { row := placePlaysRow, standIns := [], harness := (true, "4ce78b0feecc164a12b573c009b01299bef8d902fe196f72e8f8ab8c26e098e3"), looks := true }, kinds := [], alts := [], laidByText := true, laidKinds := [.data, .data, .data], laidTests := true, laidLooks := .later }
def PlacePlaysCardSaid : Prop := Claim7.holds Tryz.pinned (.plain (OpenSpec.ofChange placePlaysSpec)) placePlaysCard

/-- THE TIED CARD OF 'headgatelaw07.PlaceWhole'. -/
def placeWholeCard : Claim7 := { stood := { row := placeWholeRow, standIns := [], harness := (true, "4ce78b0feecc164a12b573c009b01299bef8d902fe196f72e8f8ab8c26e098e3"), looks := true }, kinds := [], alts := [], laidByText := true, laidKinds := [.data, .data, .data], laidTests := true, laidLooks := .later }
def PlaceWholeCardSaid : Prop := Claim7.holds Tryz.pinned (.plain (OpenSpec.ofChange placeWholeSpec)) placeWholeCard

/-- THE TIED CARD OF 'headgatelaw07.PlaceHex'. -/
def placeHexCard : Claim7 := { stood := { row := placeHexRow, standIns := [], harness := (true, "4ce78b0feecc164a12b573c009b01299bef8d902fe196f72e8f8ab8c26e098e3"), looks := true }, kinds := [], alts := [], laidByText := true, laidKinds := [.data, .data, .data, .sentinel, .sentinel], laidTests := true, laidLooks := .later }
def PlaceHexCardSaid : Prop := Claim7.holds Tryz.pinned (.plain (OpenSpec.ofChange placeHexSpec)) placeHexCard

/-- THE TIED CARD OF 'headgatelaw07.PlaceSorts'. -/
def placeSortsCard : Claim7 := { stood := { row := placeSortsRow, standIns := [], harness := (true, "4ce78b0feecc164a12b573c009b01299bef8d902fe196f72e8f8ab8c26e098e3"), looks := true }, kinds := [], alts := [], laidByText := true, laidKinds := [.data, .data, .data], laidTests := true, laidLooks := .later }
def PlaceSortsCardSaid : Prop := Claim7.holds Tryz.pinned (.plain (OpenSpec.ofChange placeSortsSpec)) placeSortsCard

/-- THE TIED CARD OF 'headgatelaw07.PlaceNil'. -/
def placeNilCard : Claim7 := { stood := { row := placeNilRow, standIns := [], harness := (true, "4ce78b0feecc164a12b573c009b01299bef8d902fe196f72e8f8ab8c26e098e3"), looks := true }, kinds := [], alts := [], laidByText := true, laidKinds := [.data, .data, .data], laidTests := true, laidLooks := .later }
def PlaceNilCardSaid : Prop := Claim7.holds Tryz.pinned (.plain (OpenSpec.ofChange placeNilSpec)) placeNilCard

/-- THE SECOND FORM's CARD OF 'headgatelaw07.PlacePlays'. -/
def placePlaysUptoCard : Claim7 := { stood := { row := placePlaysUptoRow, standIns := [], harness := (true, "4ce78b0feecc164a12b573c009b01299bef8d902fe196f72e8f8ab8c26e098e3"), looks := true }, kinds := [], alts := [], laidByText := true, laidKinds := [.data, .data, .data], laidTests := true, laidLooks := .later }
def PlacePlaysUptoCardSaid : Prop := Claim7.holds Tryz.pinned (.plain (OpenSpec.upto placePlaysSpec)) placePlaysUptoCard

/-- THE SECOND FORM's CARD OF 'headgatelaw07.PlaceWhole'. -/
def placeWholeUptoCard : Claim7 := { stood := { row := placeWholeUptoRow, standIns := [], harness := (true, "4ce78b0feecc164a12b573c009b01299bef8d902fe196f72e8f8ab8c26e098e3"), looks := true }, kinds := [], alts := [], laidByText := true, laidKinds := [.data, .data, .data], laidTests := true, laidLooks := .later }
def PlaceWholeUptoCardSaid : Prop := Claim7.holds Tryz.pinned (.plain (OpenSpec.upto placeWholeSpec)) placeWholeUptoCard

/-- THE SECOND FORM's CARD OF 'headgatelaw07.PlaceHex'. -/
def placeHexUptoCard : Claim7 := { stood := { row := placeHexUptoRow, standIns := [], harness := (true, "4ce78b0feecc164a12b573c009b01299bef8d902fe196f72e8f8ab8c26e098e3"), looks := true }, kinds := [], alts := [], laidByText := true, laidKinds := [.data, .data, .data, .sentinel, .sentinel], laidTests := true, laidLooks := .later }
def PlaceHexUptoCardSaid : Prop := Claim7.holds Tryz.pinned (.plain (OpenSpec.upto placeHexSpec)) placeHexUptoCard

/-- THE SECOND FORM's CARD OF 'headgatelaw07.PlaceSorts'. -/
def placeSortsUptoCard : Claim7 := { stood := { row := placeSortsUptoRow, standIns := [], harness := (true, "4ce78b0feecc164a12b573c009b01299bef8d902fe196f72e8f8ab8c26e098e3"), looks := true }, kinds := [], alts := [], laidByText := true, laidKinds := [.data, .data, .data], laidTests := true, laidLooks := .later }
def PlaceSortsUptoCardSaid : Prop := Claim7.holds Tryz.pinned (.plain (OpenSpec.upto placeSortsSpec)) placeSortsUptoCard

/-- THE SECOND FORM's CARD OF 'headgatelaw07.PlaceNil'. -/
def placeNilUptoCard : Claim7 := { stood := { row := placeNilUptoRow, standIns := [], harness := (true, "4ce78b0feecc164a12b573c009b01299bef8d902fe196f72e8f8ab8c26e098e3"), looks := true }, kinds := [], alts := [], laidByText := true, laidKinds := [.data, .data, .data], laidTests := true, laidLooks := .later }
def PlaceNilUptoCardSaid : Prop := Claim7.holds Tryz.pinned (.plain (OpenSpec.upto placeNilSpec)) placeNilUptoCard
end Rows
end Go.Proofs.YtchmecndihphfaaGreatDoor
