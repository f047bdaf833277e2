/-
  DERIVED. GIVEN WITH THE SEED: THE CARDS: each row of YtnkhgajghfonhaaGreatDoorRows.lean that lists a variable, with what it lists TIED to the program's text (the seventh form; the later family's looks); each row that meets fmt, with fmt's text TOLD by the authors' own Lean function (tested against real Go, not proved from fmt's source: count such statements apart). THE CARD IS WHAT COUNTS. Prove the row's statement (the work); the ties are given (YtnkhgajghfonhaaGreatDoorTie.lean); close each card by the builder's one call (the guide's Derived/Test/ToyasCard.lean, 'card_holds'). Laid BY PROGRAM, IN A SANDBOX (cutbox-door.mjs). By AI agents, Wed Nov 11 2026. No macro, syntax, notation, axiom, sorry.
-/
import Derived.Test.YtnkhgajghfonhaaGreatDoorRows
import GoSem.ClaimSeven
namespace Go.Proofs.YtnkhgajghfonhaaGreatDoor
namespace Rows

/-- THE TIED CARD OF 'headgatelaw09.MetaKeeps'. -/
def metaKeepsCard : Claim7 := { stood := { row := metaKeepsRow, standIns := [], harness := (true, "f3eec6b18ded5be302a7c0289195ec2f37a7767386eaea7d6146cacbeceda32e"), looks := true }, kinds := [], alts := [], laidByText := true, laidKinds := [.data, .data, .data, .sentinel, .sentinel], laidTests := true, laidLooks := .later }
def MetaKeepsCardSaid : Prop := Claim7.holds Tryz.pinned (.plain (OpenSpec.ofChange metaKeepsSpec)) metaKeepsCard

/-- THE TIED CARD OF 'headgatelaw09.MetaOnce'. -/
def metaOnceCard : Claim7 := { stood := { row := metaOnceRow, standIns := [], harness := (true, "f3eec6b18ded5be302a7c0289195ec2f37a7767386eaea7d6146cacbeceda32e"), looks := true }, kinds := [], alts := [], laidByText := true, laidKinds := [.data, .data, .data, .sentinel, .sentinel], laidTests := true, laidLooks := .later }
def MetaOnceCardSaid : Prop := Claim7.holds Tryz.pinned (.plain (OpenSpec.ofChange metaOnceSpec)) metaOnceCard

/-- THE TIED CARD OF 'headgatelaw09.MetaNil'. -/
def metaNilCard : Claim7 := { stood := { row := metaNilRow, standIns := [], harness := (true, "f3eec6b18ded5be302a7c0289195ec2f37a7767386eaea7d6146cacbeceda32e"), looks := true }, kinds := [], alts := [], laidByText := true, laidKinds := [.data, .data, .data, .sentinel, .sentinel], laidTests := true, laidLooks := .later }
def MetaNilCardSaid : Prop := Claim7.holds Tryz.pinned (.plain (OpenSpec.ofChange metaNilSpec)) metaNilCard

/-- THE TIED CARD OF 'headgatelaw09.MetaFolds'. -/
def metaFoldsCard : Claim7 := { stood := { row := metaFoldsRow, standIns := [], harness := (true, "f3eec6b18ded5be302a7c0289195ec2f37a7767386eaea7d6146cacbeceda32e"), looks := true }, kinds := [], alts := [], laidByText := true, laidKinds := [.data, .data, .data, .sentinel, .sentinel], laidTests := true, laidLooks := .later }
def MetaFoldsCardSaid : Prop := Claim7.holds Tryz.pinned (.plain (OpenSpec.ofChange metaFoldsSpec)) metaFoldsCard

/-- THE SECOND FORM's CARD OF 'headgatelaw09.MetaKeeps'. -/
def metaKeepsUptoCard : Claim7 := { stood := { row := metaKeepsUptoRow, standIns := [], harness := (true, "f3eec6b18ded5be302a7c0289195ec2f37a7767386eaea7d6146cacbeceda32e"), looks := true }, kinds := [], alts := [], laidByText := true, laidKinds := [.data, .data, .data, .sentinel, .sentinel], laidTests := true, laidLooks := .later }
def MetaKeepsUptoCardSaid : Prop := Claim7.holds Tryz.pinned (.plain (OpenSpec.upto metaKeepsSpec)) metaKeepsUptoCard

/-- THE SECOND FORM's CARD OF 'headgatelaw09.MetaOnce'. -/
def metaOnceUptoCard : Claim7 := { stood := { row := metaOnceUptoRow, standIns := [], harness := (true, "f3eec6b18ded5be302a7c0289195ec2f37a7767386eaea7d6146cacbeceda32e"), looks := true }, kinds := [], alts := [], laidByText := true, laidKinds := [.data, .data, .data, .sentinel, .sentinel], laidTests := true, laidLooks := .later }
def MetaOnceUptoCardSaid : Prop := Claim7.holds Tryz.pinned (.plain (OpenSpec.upto metaOnceSpec)) metaOnceUptoCard

/-- THE SECOND FORM's CARD OF 'headgatelaw09.MetaNil'. -/
def metaNilUptoCard : Claim7 := { stood := { row := metaNilUptoRow, standIns := [], harness := (true, "f3eec6b18ded5be302a7c0289195ec2f37a7767386eaea7d6146cacbeceda32e"), looks := true }, kinds := [], alts := [], laidByText := true, laidKinds := [.data, .data, .data, .sentinel, .sentinel], laidTests := true, laidLooks := .later }
def MetaNilUptoCardSaid : Prop := Claim7.holds Tryz.pinned (.plain (OpenSpec.upto metaNilSpec)) metaNilUptoCard

/-- THE SECOND FORM's CARD OF 'headgatelaw09.MetaFolds'. -/
def metaFoldsUptoCard : Claim7 := { stood := { row := metaFoldsUptoRow, standIns := [], harness := (true, "f3eec6b18ded5be302a7c0289195ec2f37a7767386eaea7d6146cacbeceda32e"), looks := true }, kinds := [], alts := [], laidByText := true, laidKinds := [.data, .data, .data, .sentinel, .sentinel], laidTests := true, laidLooks := .later }
def MetaFoldsUptoCardSaid : Prop := Claim7.holds Tryz.pinned (.plain (OpenSpec.upto metaFoldsSpec)) metaFoldsUptoCard
end Rows
end Go.Proofs.YtnkhgajghfonhaaGreatDoor
