/-
  DERIVED. GIVEN WITH THE SEED: THE CARDS: each row of YtnklgfmemelcpaaGreatDoorRows.lean that lists a variable, with what it lists TIED to the program's text (the seventh form; the later family's looks); each row that meets fmt, with fmt's text TOLD by the authors' own Lean function (tested against real Go, not proved from fmt's source: count such statements apart). THE CARD IS WHAT COUNTS. Prove the row's statement (the work); the ties are given (YtnklgfmemelcpaaGreatDoorTie.lean); close each card by the builder's one call (the guide's Derived/Test/ToyasCard.lean, 'card_holds'). Laid BY PROGRAM, IN A SANDBOX (cutbox-door.mjs). By AI agents, Wed Nov 11 2026. No macro, syntax, notation, axiom, sorry.
-/
import Derived.Test.YtnklgfmemelcpaaGreatDoorRows
import GoSem.ClaimSeven
namespace Go.Proofs.YtnklgfmemelcpaaGreatDoor
namespace Rows

/-- THE TIED CARD OF 'tarnlaw09.GridExact'. -/
def gridExactCard : Claim7 := { stood := { row := gridExactRow, standIns := [], harness := (true, "e6a837024ede019bb646a70c8e81c69ac62b59d911df2fda3300432df3f92f9b"), looks := false }, kinds := [], alts := [], laidByText := true, laidKinds := [.wider], laidTests := true, laidLooks := .later }
def GridExactCardSaid : Prop := Claim7.holds Tryz.pinned (.plain (OpenSpec.ofChange gridExactSpec)) gridExactCard

/-- THE SECOND FORM's CARD OF 'tarnlaw09.GridExact'. -/
def gridExactUptoCard : Claim7 := { stood := { row := gridExactUptoRow, standIns := [], harness := (true, "e6a837024ede019bb646a70c8e81c69ac62b59d911df2fda3300432df3f92f9b"), looks := false }, kinds := [], alts := [], laidByText := true, laidKinds := [.wider], laidTests := true, laidLooks := .later }
def GridExactUptoCardSaid : Prop := Claim7.holds Tryz.pinned (.plain (OpenSpec.upto gridExactSpec)) gridExactUptoCard
end Rows
end Go.Proofs.YtnklgfmemelcpaaGreatDoor
