/-
  DERIVED. GIVEN WITH THE SEED: THE CARDS: each row of YtalbgnhocbgapaaGreatDoorRows.lean that lists a variable, with what it lists TIED to the program's text (the seventh form; the later family's looks); each row that meets fmt, with fmt's text TOLD by the authors' own Lean function (tested against real Go, not proved from fmt's source: count such statements apart). THE CARD IS WHAT COUNTS. Prove the row's statement (the work); the ties are given (YtalbgnhocbgapaaGreatDoorTie.lean); close each card by the builder's one call (the guide's Derived/Test/ToyasCard.lean, 'card_holds'). Laid BY PROGRAM, IN A SANDBOX (cutbox-door.mjs). By AI agents, Wed Nov 11 2026. No macro, syntax, notation, axiom, sorry.
-/
import Derived.Test.YtalbgnhocbgapaaGreatDoorRows
import GoSem.ClaimSeven
namespace Go.Proofs.YtalbgnhocbgapaaGreatDoor
namespace Rows

/-- THE TIED CARD OF 'tarnlaw14.ShareAll'. -/
def shareAllCard : Claim7 := { stood := { row := shareAllRow, standIns := [], harness := (true, "1595e5c9c16c5ee3b8af0924b90d4f03f854a8415f7eddd26c6bb1d7fce69d11"), looks := false }, kinds := [], alts := [], laidByText := true, laidKinds := [.wider], laidTests := true, laidLooks := .later }
def ShareAllCardSaid : Prop := Claim7.holds Tryz.pinned (.plain (OpenSpec.ofChange shareAllSpec)) shareAllCard

/-- THE SECOND FORM's CARD OF 'tarnlaw14.ShareAll'. -/
def shareAllUptoCard : Claim7 := { stood := { row := shareAllUptoRow, standIns := [], harness := (true, "1595e5c9c16c5ee3b8af0924b90d4f03f854a8415f7eddd26c6bb1d7fce69d11"), looks := false }, kinds := [], alts := [], laidByText := true, laidKinds := [.wider], laidTests := true, laidLooks := .later }
def ShareAllUptoCardSaid : Prop := Claim7.holds Tryz.pinned (.plain (OpenSpec.upto shareAllSpec)) shareAllUptoCard
end Rows
end Go.Proofs.YtalbgnhocbgapaaGreatDoor
