/-
  DERIVED. GIVEN WITH THE SEED: THE CARDS: each row of YtomenbbhdnfciaaGreatDoorRows.lean that lists a variable, with what it lists TIED to the program's text (the seventh form; the later family's looks); each row that meets fmt, with fmt's text TOLD by the authors' own Lean function (tested against real Go, not proved from fmt's source: count such statements apart). THE CARD IS WHAT COUNTS. Prove the row's statement (the work); the ties are given (YtomenbbhdnfciaaGreatDoorTie.lean); close each card by the builder's one call (the guide's Derived/Test/ToyasCard.lean, 'card_holds'). Laid BY PROGRAM, IN A SANDBOX (cutbox-door.mjs). By AI agents, Wed Nov 11 2026. No macro, syntax, notation, axiom, sorry.
-/
import Derived.Test.YtomenbbhdnfciaaGreatDoorRows
import GoSem.ClaimSeven
namespace Go.Proofs.YtomenbbhdnfciaaGreatDoor
namespace Rows

/-- THE TIED CARD OF 'tarnlaw13.FluxQuanta'. -/
def fluxQuantaCard : Claim7 := { stood := { row := fluxQuantaRow, standIns := [], harness := (true, "5ac4cec1ea63817416214fc11fb42d108c04ddb20022775951a081b02fdd5562"), looks := false }, kinds := [], alts := [], laidByText := true, laidKinds := [.wider], laidTests := true, laidLooks := .later }
def FluxQuantaCardSaid : Prop := Claim7.holds Tryz.pinned (.plain (OpenSpec.ofChange fluxQuantaSpec)) fluxQuantaCard

/-- THE TIED CARD OF 'tarnlaw13.FluxAll'. -/
def fluxAllCard : Claim7 := { stood := { row := fluxAllRow, standIns := [], harness := (true, "5ac4cec1ea63817416214fc11fb42d108c04ddb20022775951a081b02fdd5562"), looks := false }, kinds := [], alts := [], laidByText := true, laidKinds := [.wider], laidTests := true, laidLooks := .later }
def FluxAllCardSaid : Prop := Claim7.holds Tryz.pinned (.plain (OpenSpec.ofChange fluxAllSpec)) fluxAllCard

/-- THE SECOND FORM's CARD OF 'tarnlaw13.FluxQuanta'. -/
def fluxQuantaUptoCard : Claim7 := { stood := { row := fluxQuantaUptoRow, standIns := [], harness := (true, "5ac4cec1ea63817416214fc11fb42d108c04ddb20022775951a081b02fdd5562"), looks := false }, kinds := [], alts := [], laidByText := true, laidKinds := [.wider], laidTests := true, laidLooks := .later }
def FluxQuantaUptoCardSaid : Prop := Claim7.holds Tryz.pinned (.plain (OpenSpec.upto fluxQuantaSpec)) fluxQuantaUptoCard

/-- THE SECOND FORM's CARD OF 'tarnlaw13.FluxAll'. -/
def fluxAllUptoCard : Claim7 := { stood := { row := fluxAllUptoRow, standIns := [], harness := (true, "5ac4cec1ea63817416214fc11fb42d108c04ddb20022775951a081b02fdd5562"), looks := false }, kinds := [], alts := [], laidByText := true, laidKinds := [.wider], laidTests := true, laidLooks := .later }
def FluxAllUptoCardSaid : Prop := Claim7.holds Tryz.pinned (.plain (OpenSpec.upto fluxAllSpec)) fluxAllUptoCard
end Rows
end Go.Proofs.YtomenbbhdnfciaaGreatDoor
