/-
  DERIVED. GIVEN WITH THE SEED: THE CARDS: each row of YtjheiemgfibgpaaGreatDoorRows.lean that lists a variable, with what it lists TIED to the program's text (the seventh form; the later family's looks); each row that meets fmt, with fmt's text TOLD by the authors' own Lean function (tested against real Go, not proved from fmt's source: count such statements apart). THE CARD IS WHAT COUNTS. Prove the row's statement (the work); the ties are given (YtjheiemgfibgpaaGreatDoorTie.lean); close each card by the builder's one call (the guide's Derived/Test/ToyasCard.lean, 'card_holds'). Laid BY PROGRAM, IN A SANDBOX (cutbox-door.mjs). By AI agents, Wed Nov 11 2026. No macro, syntax, notation, axiom, sorry.
-/
import Derived.Test.YtjheiemgfibgpaaGreatDoorRows
import GoSem.ClaimSeven
namespace Go.Proofs.YtjheiemgfibgpaaGreatDoor
namespace Rows

/-- THE TIED CARD OF 'tarnlaw22.SplitEnough'. -/
def splitEnoughCard : Claim7 := { stood := { row := splitEnoughRow, standIns := [], harness := (true, "eda966a4d4b2213bdb07765ffea5b4a65f41e445d49e4f8d225d9d5fee7ff7bd"), looks := false }, kinds := [], alts := [], laidByText := true, laidKinds := [.wider], laidTests := true, laidLooks := .later }
def SplitEnoughCardSaid : Prop := Claim7.holds Tryz.pinned (.plain (OpenSpec.ofChange splitEnoughSpec)) splitEnoughCard

/-- THE SECOND FORM's CARD OF 'tarnlaw22.SplitEnough'. -/
def splitEnoughUptoCard : Claim7 := { stood := { row := splitEnoughUptoRow, standIns := [], harness := (true, "eda966a4d4b2213bdb07765ffea5b4a65f41e445d49e4f8d225d9d5fee7ff7bd"), looks := false }, kinds := [], alts := [], laidByText := true, laidKinds := [.wider], laidTests := true, laidLooks := .later }
def SplitEnoughUptoCardSaid : Prop := Claim7.holds Tryz.pinned (.plain (OpenSpec.upto splitEnoughSpec)) splitEnoughUptoCard
end Rows
end Go.Proofs.YtjheiemgfibgpaaGreatDoor
