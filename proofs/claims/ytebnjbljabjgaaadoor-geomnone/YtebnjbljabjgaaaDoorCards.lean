/-
  DERIVED. GIVEN WITH THE SEED: THE CARDS: each row of YtebnjbljabjgaaaDoorRows.lean that lists a variable, with what it lists TIED to the program's text (the seventh form; the later family's looks); each row that meets fmt, with fmt's text TOLD by the authors' own Lean function (tested against real Go, not proved from fmt's source: count such statements apart). THE CARD IS WHAT COUNTS. Prove the row's statement (the work); the ties are given (YtebnjbljabjgaaaDoorTie.lean); close each card by the builder's one call (the guide's Derived/Test/ToyasCard.lean, 'card_holds'). Laid BY PROGRAM, IN A SANDBOX (cutbox-door.mjs). By AI agents, Wed Nov 11 2026. No macro, syntax, notation, axiom, sorry.
-/
import Derived.Test.YtebnjbljabjgaaaDoorRows
import GoSem.ClaimSeven
namespace Go.Proofs.YtebnjbljabjgaaaDoor
namespace Rows

/-- THE TIED CARD OF 'tarnlaw08.GeomBounds'. -/
def geomBoundsCard : Claim7 := { stood := { row := geomBoundsRow, standIns := [], harness := (true, "58c4e4e9eaa20d1c99badf89bbb6a75d22f1ce341a4a5f827fccc5cabb1bfe76"), looks := false }, kinds := [], alts := [], laidByText := true, laidKinds := [.wider], laidTests := true, laidLooks := .later }
def GeomBoundsCardSaid : Prop := Claim7.holds Tryd.pinned (.plain (OpenSpec.ofChange geomBoundsSpec)) geomBoundsCard

/-- THE TIED CARD OF 'tarnlaw08.GeomNone'. -/
def geomNoneCard : Claim7 := { stood := { row := geomNoneRow, standIns := [], harness := (true, "58c4e4e9eaa20d1c99badf89bbb6a75d22f1ce341a4a5f827fccc5cabb1bfe76"), looks := false }, kinds := [], alts := [], laidByText := true, laidKinds := [.wider], laidTests := true, laidLooks := .later }
def GeomNoneCardSaid : Prop := Claim7.holds Tryd.pinned (.plain (OpenSpec.ofChange geomNoneSpec)) geomNoneCard

/-- THE SECOND FORM's CARD OF 'tarnlaw08.GeomBounds'. -/
def geomBoundsUptoCard : Claim7 := { stood := { row := geomBoundsUptoRow, standIns := [], harness := (true, "58c4e4e9eaa20d1c99badf89bbb6a75d22f1ce341a4a5f827fccc5cabb1bfe76"), looks := false }, kinds := [], alts := [], laidByText := true, laidKinds := [.wider], laidTests := true, laidLooks := .later }
def GeomBoundsUptoCardSaid : Prop := Claim7.holds Tryd.pinned (.plain (OpenSpec.upto geomBoundsSpec)) geomBoundsUptoCard

/-- THE SECOND FORM's CARD OF 'tarnlaw08.GeomNone'. -/
def geomNoneUptoCard : Claim7 := { stood := { row := geomNoneUptoRow, standIns := [], harness := (true, "58c4e4e9eaa20d1c99badf89bbb6a75d22f1ce341a4a5f827fccc5cabb1bfe76"), looks := false }, kinds := [], alts := [], laidByText := true, laidKinds := [.wider], laidTests := true, laidLooks := .later }
def GeomNoneUptoCardSaid : Prop := Claim7.holds Tryd.pinned (.plain (OpenSpec.upto geomNoneSpec)) geomNoneUptoCard
end Rows
end Go.Proofs.YtebnjbljabjgaaaDoor
