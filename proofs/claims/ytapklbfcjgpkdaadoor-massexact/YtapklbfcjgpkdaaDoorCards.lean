/-
  DERIVED. GIVEN WITH THE SEED: THE CARDS: each row of YtapklbfcjgpkdaaDoorRows.lean that lists a variable, with what it lists TIED to the program's text (the seventh form; the later family's looks); each row that meets fmt, with fmt's text TOLD by the authors' own Lean function (tested against real Go, not proved from fmt's source: count such statements apart). THE CARD IS WHAT COUNTS. Prove the row's statement (the work); the ties are given (YtapklbfcjgpkdaaDoorTie.lean); close each card by the builder's one call (the guide's Derived/Test/ToyasCard.lean, 'card_holds'). Laid BY PROGRAM, IN A SANDBOX (cutbox-door.mjs). By AI agents, Wed Nov 11 2026. No macro, syntax, notation, axiom, sorry.
-/
import Derived.Test.YtapklbfcjgpkdaaDoorRows
import GoSem.ClaimSeven
namespace Go.Proofs.YtapklbfcjgpkdaaDoor
namespace Rows

/-- THE TIED CARD OF 'tarnlaw15.MassExact'. -/
def massExactCard : Claim7 := { stood := { row := massExactRow, standIns := [], harness := (true, "b6e6974d86d6e4f2cfa2f705ec95085d74e00aad95dc685bd7cc723004df6cb9"), looks := false }, kinds := [], alts := [], laidByText := true, laidKinds := [.wider], laidTests := true, laidLooks := .later }
def MassExactCardSaid : Prop := Claim7.holds Tryd.pinned (.plain (OpenSpec.ofChange massExactSpec)) massExactCard

/-- THE SECOND FORM's CARD OF 'tarnlaw15.MassExact'. -/
def massExactUptoCard : Claim7 := { stood := { row := massExactUptoRow, standIns := [], harness := (true, "b6e6974d86d6e4f2cfa2f705ec95085d74e00aad95dc685bd7cc723004df6cb9"), looks := false }, kinds := [], alts := [], laidByText := true, laidKinds := [.wider], laidTests := true, laidLooks := .later }
def MassExactUptoCardSaid : Prop := Claim7.holds Tryd.pinned (.plain (OpenSpec.upto massExactSpec)) massExactUptoCard
end Rows
end Go.Proofs.YtapklbfcjgpkdaaDoor
