/-
  DERIVED. GIVEN WITH THE SEED: THE CARDS: each row of YtbhgfmoopmlnjaaDoorRows.lean that lists a variable, with what it lists TIED to the program's text (the seventh form; the later family's looks); each row that meets fmt, with fmt's text TOLD by the authors' own Lean function (tested against real Go, not proved from fmt's source: count such statements apart). THE CARD IS WHAT COUNTS. Prove the row's statement (the work); the ties are given (YtbhgfmoopmlnjaaDoorTie.lean); close each card by the builder's one call (the guide's Derived/Test/ToyasCard.lean, 'card_holds'). Laid BY PROGRAM, IN A SANDBOX (cutbox-door.mjs). By AI agents, Wed Nov 11 2026. No macro, syntax, notation, axiom, sorry.
-/
import Derived.Test.YtbhgfmoopmlnjaaDoorRows
import GoSem.ClaimSeven
namespace Go.Proofs.YtbhgfmoopmlnjaaDoor
namespace Rows

/-- THE TIED CARD OF 'tarnlaw12.ReconMemory'. -/
def reconMemoryCard : Claim7 := { stood := { row := reconMemoryRow, standIns := [], harness := (true, "58a7f6f6019857052af010d5f950b75e9f4a39f03957314ddbc0fbc0ffc0fcc9"), looks := false }, kinds := [], alts := [], laidByText := true, laidKinds := [.wider], laidTests := true, laidLooks := .later }
def ReconMemoryCardSaid : Prop := Claim7.holds Tryd.pinned (.plain (OpenSpec.ofChange reconMemorySpec)) reconMemoryCard

/-- THE SECOND FORM's CARD OF 'tarnlaw12.ReconMemory'. -/
def reconMemoryUptoCard : Claim7 := { stood := { row := reconMemoryUptoRow, standIns := [], harness := (true, "58a7f6f6019857052af010d5f950b75e9f4a39f03957314ddbc0fbc0ffc0fcc9"), looks := false }, kinds := [], alts := [], laidByText := true, laidKinds := [.wider], laidTests := true, laidLooks := .later }
def ReconMemoryUptoCardSaid : Prop := Claim7.holds Tryd.pinned (.plain (OpenSpec.upto reconMemorySpec)) reconMemoryUptoCard
end Rows
end Go.Proofs.YtbhgfmoopmlnjaaDoor
