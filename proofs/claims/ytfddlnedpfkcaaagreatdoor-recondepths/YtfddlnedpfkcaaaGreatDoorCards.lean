/-
  DERIVED. GIVEN WITH THE SEED: THE CARDS: each row of YtfddlnedpfkcaaaGreatDoorRows.lean that lists a variable, with what it lists TIED to the program's text (the seventh form; the later family's looks); each row that meets fmt, with fmt's text TOLD by the authors' own Lean function (tested against real Go, not proved from fmt's source: count such statements apart). THE CARD IS WHAT COUNTS. Prove the row's statement (the work); the ties are given (YtfddlnedpfkcaaaGreatDoorTie.lean); close each card by the builder's one call (the guide's Derived/Test/ToyasCard.lean, 'card_holds'). Laid BY PROGRAM, IN A SANDBOX (cutbox-door.mjs). By AI agents, Wed Nov 11 2026. No macro, syntax, notation, axiom, sorry.
-/
import Derived.Test.YtfddlnedpfkcaaaGreatDoorRows
import GoSem.ClaimSeven
namespace Go.Proofs.YtfddlnedpfkcaaaGreatDoor
namespace Rows

/-- THE TIED CARD OF 'tarnlaw12.ReconDepths'. -/
def reconDepthsCard : Claim7 := { stood := { row := reconDepthsRow, standIns := [], harness := (true, "644ef8f72c2c9749cc91a7b9a55fd294e664b912fe21352cd2479fd7d69e0295"), looks := false }, kinds := [], alts := [], laidByText := true, laidKinds := [.wider], laidTests := true, laidLooks := .later }
def ReconDepthsCardSaid : Prop := Claim7.holds Tryz.pinned (.plain (OpenSpec.ofChange reconDepthsSpec)) reconDepthsCard

/-- THE SECOND FORM's CARD OF 'tarnlaw12.ReconDepths'. -/
def reconDepthsUptoCard : Claim7 := { stood := { row := reconDepthsUptoRow, standIns := [], harness := (true, "644ef8f72c2c9749cc91a7b9a55fd294e664b912fe21352cd2479fd7d69e0295"), looks := false }, kinds := [], alts := [], laidByText := true, laidKinds := [.wider], laidTests := true, laidLooks := .later }
def ReconDepthsUptoCardSaid : Prop := Claim7.holds Tryz.pinned (.plain (OpenSpec.upto reconDepthsSpec)) reconDepthsUptoCard
end Rows
end Go.Proofs.YtfddlnedpfkcaaaGreatDoor
