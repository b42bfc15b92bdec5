/-
  DERIVED. GIVEN WITH THE SEED: THE CARDS: each row of YtmccbhidpjdkfabDoorRows.lean that lists a variable, with what it lists TIED to the program's text (the seventh form; the later family's looks); each row that meets fmt, with fmt's text TOLD by the authors' own Lean function (tested against real Go, not proved from fmt's source: count such statements apart). THE CARD IS WHAT COUNTS. Prove the row's statement (the work); the ties are given (YtmccbhidpjdkfabDoorTie.lean); close each card by the builder's one call (the guide's Derived/Test/ToyasCard.lean, 'card_holds'). Laid BY PROGRAM, IN A SANDBOX (cutbox-door.mjs). By AI agents, Wed Nov 11 2026. No macro, syntax, notation, axiom, sorry.
-/
import Derived.Test.YtmccbhidpjdkfabDoorRows
import GoSem.ClaimSeven
namespace Go.Proofs.YtmccbhidpjdkfabDoor
namespace Rows

/-- THE TIED CARD OF 'tarnlaw06.CubeTurned'. -/
def cubeTurnedCard : Claim7 := { stood := { row := cubeTurnedRow, standIns := [], harness := (true, "6231a334fa36b0a8e4483a377a273163f32716f357800395a3d719375837eb94"), looks := false }, kinds := [], alts := [], laidByText := true, laidKinds := [.wider], laidTests := true, laidLooks := .later }
def CubeTurnedCardSaid : Prop := Claim7.holds Tryd.pinned (.plain (OpenSpec.ofChange cubeTurnedSpec)) cubeTurnedCard

/-- THE TIED CARD OF 'tarnlaw06.CubeGroup'. -/
def cubeGroupCard : Claim7 := { stood := { row := cubeGroupRow, standIns := [], harness := (true, "6231a334fa36b0a8e4483a377a273163f32716f357800395a3d719375837eb94"), looks := false }, kinds := [], alts := [], laidByText := true, laidKinds := [.wider], laidTests := true, laidLooks := .later }
def CubeGroupCardSaid : Prop := Claim7.holds Tryd.pinned (.plain (OpenSpec.ofChange cubeGroupSpec)) cubeGroupCard

/-- THE SECOND FORM's CARD OF 'tarnlaw06.CubeTurned'. -/
def cubeTurnedUptoCard : Claim7 := { stood := { row := cubeTurnedUptoRow, standIns := [], harness := (true, "6231a334fa36b0a8e4483a377a273163f32716f357800395a3d719375837eb94"), looks := false }, kinds := [], alts := [], laidByText := true, laidKinds := [.wider], laidTests := true, laidLooks := .later }
def CubeTurnedUptoCardSaid : Prop := Claim7.holds Tryd.pinned (.plain (OpenSpec.upto cubeTurnedSpec)) cubeTurnedUptoCard

/-- THE SECOND FORM's CARD OF 'tarnlaw06.CubeGroup'. -/
def cubeGroupUptoCard : Claim7 := { stood := { row := cubeGroupUptoRow, standIns := [], harness := (true, "6231a334fa36b0a8e4483a377a273163f32716f357800395a3d719375837eb94"), looks := false }, kinds := [], alts := [], laidByText := true, laidKinds := [.wider], laidTests := true, laidLooks := .later }
def CubeGroupUptoCardSaid : Prop := Claim7.holds Tryd.pinned (.plain (OpenSpec.upto cubeGroupSpec)) cubeGroupUptoCard
end Rows
end Go.Proofs.YtmccbhidpjdkfabDoor
