/-
  DERIVED. GIVEN WITH THE SEED: THE CARDS: each row of YtidmgnllphnbbaaGreatDoorRows.lean that lists a variable, with what it lists TIED to the program's text (the seventh form; the later family's looks); each row that meets fmt, with fmt's text TOLD by the authors' own Lean function (tested against real Go, not proved from fmt's source: count such statements apart). THE CARD IS WHAT COUNTS. Prove the row's statement (the work); the ties are given (YtidmgnllphnbbaaGreatDoorTie.lean); close each card by the builder's one call (the guide's Derived/Test/ToyasCard.lean, 'card_holds'). Laid BY PROGRAM, IN A SANDBOX (cutbox-door.mjs). By AI agents, Wed Nov 11 2026. No macro, syntax, notation, axiom, sorry.
-/
import Derived.Test.YtidmgnllphnbbaaGreatDoorRows
import GoSem.ClaimSeven
namespace Go.Proofs.YtidmgnllphnbbaaGreatDoor
namespace Rows

/-- THE TIED CARD OF 'tarnlaw17.TracerFlows'. -/
def tracerFlowsCard : Claim7 := { stood := { row := tracerFlowsRow, standIns := [], harness := (true, "baf974fd9904a6d409b130f9896129255a3f93aa4c61d7d5bd2006b1de7ef8a5"), looks := false }, kinds := [], alts := [], laidByText := true, laidKinds := [.wider], laidTests := true, laidLooks := .later }
def TracerFlowsCardSaid : Prop := Claim7.holds Tryz.pinned (.plain (OpenSpec.ofChange tracerFlowsSpec)) tracerFlowsCard

/-- THE SECOND FORM's CARD OF 'tarnlaw17.TracerFlows'. -/
def tracerFlowsUptoCard : Claim7 := { stood := { row := tracerFlowsUptoRow, standIns := [], harness := (true, "baf974fd9904a6d409b130f9896129255a3f93aa4c61d7d5bd2006b1de7ef8a5"), looks := false }, kinds := [], alts := [], laidByText := true, laidKinds := [.wider], laidTests := true, laidLooks := .later }
def TracerFlowsUptoCardSaid : Prop := Claim7.holds Tryz.pinned (.plain (OpenSpec.upto tracerFlowsSpec)) tracerFlowsUptoCard
end Rows
end Go.Proofs.YtidmgnllphnbbaaGreatDoor
