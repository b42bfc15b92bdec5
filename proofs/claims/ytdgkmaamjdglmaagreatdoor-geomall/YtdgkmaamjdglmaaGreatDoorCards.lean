/-
  DERIVED. GIVEN WITH THE SEED: THE CARDS: each row of YtdgkmaamjdglmaaGreatDoorRows.lean that lists a variable, with what it lists TIED to the program's text (the seventh form; the later family's looks); each row that meets fmt, with fmt's text TOLD by the authors' own Lean function (tested against real Go, not proved from fmt's source: count such statements apart). THE CARD IS WHAT COUNTS. Prove the row's statement (the work); the ties are given (YtdgkmaamjdglmaaGreatDoorTie.lean); close each card by the builder's one call (the guide's Derived/Test/ToyasCard.lean, 'card_holds'). Laid BY PROGRAM, IN A SANDBOX (cutbox-door.mjs). By AI agents, Wed Nov 11 2026. No macro, syntax, notation, axiom, sorry.
-/
import Derived.Test.YtdgkmaamjdglmaaGreatDoorRows
import GoSem.ClaimSeven
namespace Go.Proofs.YtdgkmaamjdglmaaGreatDoor
namespace Rows

/-- THE TIED CARD OF 'tarnlaw08.GeomAll'. -/
def geomAllCard : Claim7 := { stood := { row := geomAllRow, standIns := [], harness := (true, "35c1b0fde676938b3e7c4ee33098ccce4de22da4c61ae2d0ad0ac9bc5dbff6ca"), looks := false }, kinds := [], alts := [], laidByText := true, laidKinds := [.wider], laidTests := true, laidLooks := .later }
def GeomAllCardSaid : Prop := Claim7.holds Tryz.pinned (.plain (OpenSpec.ofChange geomAllSpec)) geomAllCard

/-- THE SECOND FORM's CARD OF 'tarnlaw08.GeomAll'. -/
def geomAllUptoCard : Claim7 := { stood := { row := geomAllUptoRow, standIns := [], harness := (true, "35c1b0fde676938b3e7c4ee33098ccce4de22da4c61ae2d0ad0ac9bc5dbff6ca"), looks := false }, kinds := [], alts := [], laidByText := true, laidKinds := [.wider], laidTests := true, laidLooks := .later }
def GeomAllUptoCardSaid : Prop := Claim7.holds Tryz.pinned (.plain (OpenSpec.upto geomAllSpec)) geomAllUptoCard
end Rows
end Go.Proofs.YtdgkmaamjdglmaaGreatDoor
