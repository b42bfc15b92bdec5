/-
  DERIVED. GIVEN WITH THE SEED: THE CARDS: each row of YthfholdhieigiaaDoorRows.lean that lists a variable, with what it lists TIED to the program's text (the seventh form; the later family's looks); each row that meets fmt, with fmt's text TOLD by the authors' own Lean function (tested against real Go, not proved from fmt's source: count such statements apart). THE CARD IS WHAT COUNTS. Prove the row's statement (the work); the ties are given (YthfholdhieigiaaDoorTie.lean); close each card by the builder's one call (the guide's Derived/Test/ToyasCard.lean, 'card_holds'). Laid BY PROGRAM, IN A SANDBOX (cutbox-door.mjs). By AI agents, Wed Nov 11 2026. No macro, syntax, notation, axiom, sorry.
-/
import Derived.Test.YthfholdhieigiaaDoorRows
import GoSem.ClaimSeven
namespace Go.Proofs.YthfholdhieigiaaDoor
namespace Rows

/-- THE TIED CARD OF 'tarnlaw06.CubeSides'. -/
def cubeSidesCard : Claim7 := { stood := { row := cubeSidesRow, standIns := [], harness := (true, "44588498607cd2146316af660493a04f8dd3114c5374ac68431392afa912b80d"), looks := false }, kinds := [], alts := [], laidByText := true, laidKinds := [.wider], laidTests := true, laidLooks := .later }
def CubeSidesCardSaid : Prop := Claim7.holds Tryd.pinned (.plain (OpenSpec.ofChange cubeSidesSpec)) cubeSidesCard

/-- THE SECOND FORM's CARD OF 'tarnlaw06.CubeSides'. -/
def cubeSidesUptoCard : Claim7 := { stood := { row := cubeSidesUptoRow, standIns := [], harness := (true, "44588498607cd2146316af660493a04f8dd3114c5374ac68431392afa912b80d"), looks := false }, kinds := [], alts := [], laidByText := true, laidKinds := [.wider], laidTests := true, laidLooks := .later }
def CubeSidesUptoCardSaid : Prop := Claim7.holds Tryd.pinned (.plain (OpenSpec.upto cubeSidesSpec)) cubeSidesUptoCard
end Rows
end Go.Proofs.YthfholdhieigiaaDoor
