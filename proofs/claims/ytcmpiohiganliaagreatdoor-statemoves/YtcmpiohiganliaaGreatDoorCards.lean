/-
  DERIVED. GIVEN WITH THE SEED: THE CARDS: each row of YtcmpiohiganliaaGreatDoorRows.lean that lists a variable, with what it lists TIED to the program's text (the seventh form; the later family's looks); each row that meets fmt, with fmt's text TOLD by the authors' own Lean function (tested against real Go, not proved from fmt's source: count such statements apart). THE CARD IS WHAT COUNTS. Prove the row's statement (the work); the ties are given (YtcmpiohiganliaaGreatDoorTie.lean); close each card by the builder's one call (the guide's Derived/Test/ToyasCard.lean, 'card_holds'). Laid BY PROGRAM, IN A SANDBOX (cutbox-door.mjs). By AI agents, Wed Nov 11 2026. No macro, syntax, notation, axiom, sorry.
-/
import Derived.Test.YtcmpiohiganliaaGreatDoorRows
import GoSem.ClaimSeven
namespace Go.Proofs.YtcmpiohiganliaaGreatDoor
namespace Rows

/-- THE TIED CARD OF 'tarnlaw20.StateGroup'. -/
def stateGroupCard : Claim7 := { stood := { row := stateGroupRow, standIns := [], harness := (true, "535ff3de4a7e84321517c6440a5899b2d9f6f22c55827a81b7d6f673bc861d8f"), looks := false }, kinds := [], alts := [], laidByText := true, laidKinds := [.wider], laidTests := true, laidLooks := .later }
def StateGroupCardSaid : Prop := Claim7.holds Tryz.pinned (.plain (OpenSpec.ofChange stateGroupSpec)) stateGroupCard

/-- THE TIED CARD OF 'tarnlaw20.StateMoves'. -/
def stateMovesCard : Claim7 := { stood := { row := stateMovesRow, standIns := [], harness := (true, "535ff3de4a7e84321517c6440a5899b2d9f6f22c55827a81b7d6f673bc861d8f"), looks := false }, kinds := [], alts := [], laidByText := true, laidKinds := [.wider], laidTests := true, laidLooks := .later }
def StateMovesCardSaid : Prop := Claim7.holds Tryz.pinned (.plain (OpenSpec.ofChange stateMovesSpec)) stateMovesCard

/-- THE SECOND FORM's CARD OF 'tarnlaw20.StateGroup'. -/
def stateGroupUptoCard : Claim7 := { stood := { row := stateGroupUptoRow, standIns := [], harness := (true, "535ff3de4a7e84321517c6440a5899b2d9f6f22c55827a81b7d6f673bc861d8f"), looks := false }, kinds := [], alts := [], laidByText := true, laidKinds := [.wider], laidTests := true, laidLooks := .later }
def StateGroupUptoCardSaid : Prop := Claim7.holds Tryz.pinned (.plain (OpenSpec.upto stateGroupSpec)) stateGroupUptoCard

/-- THE SECOND FORM's CARD OF 'tarnlaw20.StateMoves'. -/
def stateMovesUptoCard : Claim7 := { stood := { row := stateMovesUptoRow, standIns := [], harness := (true, "535ff3de4a7e84321517c6440a5899b2d9f6f22c55827a81b7d6f673bc861d8f"), looks := false }, kinds := [], alts := [], laidByText := true, laidKinds := [.wider], laidTests := true, laidLooks := .later }
def StateMovesUptoCardSaid : Prop := Claim7.holds Tryz.pinned (.plain (OpenSpec.upto stateMovesSpec)) stateMovesUptoCard
end Rows
end Go.Proofs.YtcmpiohiganliaaGreatDoor
