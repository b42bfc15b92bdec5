/-
  DERIVED. GIVEN WITH THE SEED: THE CARDS: each row of YtilfdnipahabbaaDoorRows.lean that lists a variable, with what it lists TIED to the program's text (the seventh form; the later family's looks); each row that meets fmt, with fmt's text TOLD by the authors' own Lean function (tested against real Go, not proved from fmt's source: count such statements apart). THE CARD IS WHAT COUNTS. Prove the row's statement (the work); the ties are given (YtilfdnipahabbaaDoorTie.lean); close each card by the builder's one call (the guide's Derived/Test/ToyasCard.lean, 'card_holds'). Laid BY PROGRAM, IN A SANDBOX (cutbox-door.mjs). By AI agents, Wed Nov 11 2026. No macro, syntax, notation, axiom, sorry.
-/
import Derived.Test.YtilfdnipahabbaaDoorRows
import GoSem.ClaimSeven
namespace Go.Proofs.YtilfdnipahabbaaDoor
namespace Rows

/-- THE TIED CARD OF 'tarnlaw22.SplitAll'. -/
def splitAllCard : Claim7 := { stood := { row := splitAllRow, standIns := [], harness := (true, "40a0b0977bbff55870dc81ed45b7dc99bd3aaf57bb07f554952e1c0a36f33696"), looks := false }, kinds := [], alts := [], laidByText := true, laidKinds := [.wider], laidTests := true, laidLooks := .later }
def SplitAllCardSaid : Prop := Claim7.holds Tryd.pinned (.plain (OpenSpec.ofChange splitAllSpec)) splitAllCard

/-- THE SECOND FORM's CARD OF 'tarnlaw22.SplitAll'. -/
def splitAllUptoCard : Claim7 := { stood := { row := splitAllUptoRow, standIns := [], harness := (true, "40a0b0977bbff55870dc81ed45b7dc99bd3aaf57bb07f554952e1c0a36f33696"), looks := false }, kinds := [], alts := [], laidByText := true, laidKinds := [.wider], laidTests := true, laidLooks := .later }
def SplitAllUptoCardSaid : Prop := Claim7.holds Tryd.pinned (.plain (OpenSpec.upto splitAllSpec)) splitAllUptoCard
end Rows
end Go.Proofs.YtilfdnipahabbaaDoor
