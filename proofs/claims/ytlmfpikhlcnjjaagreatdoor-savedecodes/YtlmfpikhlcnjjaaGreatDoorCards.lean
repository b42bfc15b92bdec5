/-
  DERIVED. GIVEN WITH THE SEED: THE CARDS: each row of YtlmfpikhlcnjjaaGreatDoorRows.lean that lists a variable, with what it lists TIED to the program's text (the seventh form; the later family's looks); each row that meets fmt, with fmt's text TOLD by the authors' own Lean function (tested against real Go, not proved from fmt's source: count such statements apart). THE CARD IS WHAT COUNTS. Prove the row's statement (the work); the ties are given (YtlmfpikhlcnjjaaGreatDoorTie.lean); close each card by the builder's one call (the guide's Derived/Test/ToyasCard.lean, 'card_holds'). Laid BY PROGRAM, IN A SANDBOX (cutbox-door.mjs). By AI agents, Wed Nov 11 2026. No macro, syntax, notation, axiom, sorry.
-/
import Derived.Test.YtlmfpikhlcnjjaaGreatDoorRows
import GoSem.ClaimSeven
namespace Go.Proofs.YtlmfpikhlcnjjaaGreatDoor
namespace Rows

/-- THE TIED CARD OF 'tarnlaw25.SaveEncodes'. -/
def saveEncodesCard : Claim7 := { stood := { row := saveEncodesRow, standIns := [], harness := (true, "79c5cc1ae1df840deb25cf4dd9609bcae6d3aead142a57dce7d234b7bfbbe663"), looks := true }, kinds := [], alts := [], laidByText := true, laidKinds := [.wider], laidTests := true, laidLooks := .later }
def SaveEncodesCardSaid : Prop := Claim7.holds Tryz.pinned (.plain (OpenSpec.ofChange saveEncodesSpec)) saveEncodesCard

/-- THE TIED CARD OF 'tarnlaw25.SaveDecodes'. -/
def saveDecodesCard : Claim7 := { stood := { row := saveDecodesRow, standIns := [], harness := (true, "79c5cc1ae1df840deb25cf4dd9609bcae6d3aead142a57dce7d234b7bfbbe663"), looks := true }, kinds := [], alts := [], laidByText := true, laidKinds := [.wider], laidTests := true, laidLooks := .later }
def SaveDecodesCardSaid : Prop := Claim7.holds Tryz.pinned (.plain (OpenSpec.ofChange saveDecodesSpec)) saveDecodesCard

/-- THE SECOND FORM's CARD OF 'tarnlaw25.SaveEncodes'. -/
def saveEncodesUptoCard : Claim7 := { stood := { row := saveEncodesUptoRow, standIns := [], harness := (true, "79c5cc1ae1df840deb25cf4dd9609bcae6d3aead142a57dce7d234b7bfbbe663"), looks := true }, kinds := [], alts := [], laidByText := true, laidKinds := [.wider], laidTests := true, laidLooks := .later }
def SaveEncodesUptoCardSaid : Prop := Claim7.holds Tryz.pinned (.plain (OpenSpec.upto saveEncodesSpec)) saveEncodesUptoCard

/-- THE SECOND FORM's CARD OF 'tarnlaw25.SaveDecodes'. -/
def saveDecodesUptoCard : Claim7 := { stood := { row := saveDecodesUptoRow, standIns := [], harness := (true, "79c5cc1ae1df840deb25cf4dd9609bcae6d3aead142a57dce7d234b7bfbbe663"), looks := true }, kinds := [], alts := [], laidByText := true, laidKinds := [.wider], laidTests := true, laidLooks := .later }
def SaveDecodesUptoCardSaid : Prop := Claim7.holds Tryz.pinned (.plain (OpenSpec.upto saveDecodesSpec)) saveDecodesUptoCard
end Rows
end Go.Proofs.YtlmfpikhlcnjjaaGreatDoor
