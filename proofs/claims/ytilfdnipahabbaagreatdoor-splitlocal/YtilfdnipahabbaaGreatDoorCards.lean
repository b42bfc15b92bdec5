/-
  DERIVED. GIVEN WITH THE SEED: THE CARDS: each row of YtilfdnipahabbaaGreatDoorRows.lean that lists a variable, with what it lists TIED to the program's text (the seventh form; the later family's looks); each row that meets fmt, with fmt's text TOLD by the authors' own Lean function (tested against real Go, not proved from fmt's source: count such statements apart). THE CARD IS WHAT COUNTS. Prove the row's statement (the work); the ties are given (YtilfdnipahabbaaGreatDoorTie.lean); close each card by the builder's one call (the guide's Derived/Test/ToyasCard.lean, 'card_holds'). Laid BY PROGRAM, IN A SANDBOX (cutbox-door.mjs). By AI agents, Wed Nov 11 2026. No macro, syntax, notation, axiom, sorry.
-/
import Derived.Test.YtilfdnipahabbaaGreatDoorRows
import GoSem.ClaimSeven
namespace Go.Proofs.YtilfdnipahabbaaGreatDoor
namespace Rows

/-- THE TIED CARD OF 'tarnlaw22.SplitLocal'. -/
def splitLocalCard : Claim7 := { stood := { row := splitLocalRow, standIns := [], harness := (true, "1fde57cdeaac49ee2f6a018def38f1cf29c86d4e73cf948cdfc9f988ca71d1b8"), looks := false }, kinds := [], alts := [], laidByText := true, laidKinds := [.wider], laidTests := true, laidLooks := .later }
def SplitLocalCardSaid : Prop := Claim7.holds Tryz.pinned (.plain (OpenSpec.ofChange splitLocalSpec)) splitLocalCard

/-- THE SECOND FORM's CARD OF 'tarnlaw22.SplitLocal'. -/
def splitLocalUptoCard : Claim7 := { stood := { row := splitLocalUptoRow, standIns := [], harness := (true, "1fde57cdeaac49ee2f6a018def38f1cf29c86d4e73cf948cdfc9f988ca71d1b8"), looks := false }, kinds := [], alts := [], laidByText := true, laidKinds := [.wider], laidTests := true, laidLooks := .later }
def SplitLocalUptoCardSaid : Prop := Claim7.holds Tryz.pinned (.plain (OpenSpec.upto splitLocalSpec)) splitLocalUptoCard
end Rows
end Go.Proofs.YtilfdnipahabbaaGreatDoor
