/-
  DERIVED. GIVEN WITH THE SEED: THE CARDS: each row of YtdgkmaamjdglmaaDoorRows.lean that lists a variable, with what it lists TIED to the program's text (the seventh form; the later family's looks); each row that meets fmt, with fmt's text TOLD by the authors' own Lean function (tested against real Go, not proved from fmt's source: count such statements apart). THE CARD IS WHAT COUNTS. Prove the row's statement (the work); the ties are given (YtdgkmaamjdglmaaDoorTie.lean); close each card by the builder's one call (the guide's Derived/Test/ToyasCard.lean, 'card_holds'). Laid BY PROGRAM, IN A SANDBOX (cutbox-door.mjs). By AI agents, Wed Nov 11 2026. No macro, syntax, notation, axiom, sorry.
-/
import Derived.Test.YtdgkmaamjdglmaaDoorRows
import GoSem.ClaimSeven
namespace Go.Proofs.YtdgkmaamjdglmaaDoor
namespace Rows

/-- THE TIED CARD OF 'tarnlaw08.GeomSides'. -/
def geomSidesCard : Claim7 := { stood := { row := geomSidesRow, standIns := [], harness := (true, "4bcf8bf184e95dea21efb261f73cbe91c29fc549b8c416bd3b844642fc9c35d2"), looks := false }, kinds := [], alts := [], laidByText := true, laidKinds := [.wider], laidTests := true, laidLooks := .later }
def GeomSidesCardSaid : Prop := Claim7.holds Tryd.pinned (.plain (OpenSpec.ofChange geomSidesSpec)) geomSidesCard

/-- THE TIED CARD OF 'tarnlaw08.GeomTurns'. -/
def geomTurnsCard : Claim7 := { stood := { row := geomTurnsRow, standIns := [], harness := (true, "4bcf8bf184e95dea21efb261f73cbe91c29fc549b8c416bd3b844642fc9c35d2"), looks := false }, kinds := [], alts := [], laidByText := true, laidKinds := [.wider], laidTests := true, laidLooks := .later }
def GeomTurnsCardSaid : Prop := Claim7.holds Tryd.pinned (.plain (OpenSpec.ofChange geomTurnsSpec)) geomTurnsCard

/-- THE TIED CARD OF 'tarnlaw08.GeomBounds'. -/
def geomBoundsCard : Claim7 := { stood := { row := geomBoundsRow, standIns := [], harness := (true, "4bcf8bf184e95dea21efb261f73cbe91c29fc549b8c416bd3b844642fc9c35d2"), looks := false }, kinds := [], alts := [], laidByText := true, laidKinds := [.wider], laidTests := true, laidLooks := .later }
def GeomBoundsCardSaid : Prop := Claim7.holds Tryd.pinned (.plain (OpenSpec.ofChange geomBoundsSpec)) geomBoundsCard

/-- THE TIED CARD OF 'tarnlaw08.GeomNone'. -/
def geomNoneCard : Claim7 := { stood := { row := geomNoneRow, standIns := [], harness := (true, "4bcf8bf184e95dea21efb261f73cbe91c29fc549b8c416bd3b844642fc9c35d2"), looks := false }, kinds := [], alts := [], laidByText := true, laidKinds := [.wider], laidTests := true, laidLooks := .later }
def GeomNoneCardSaid : Prop := Claim7.holds Tryd.pinned (.plain (OpenSpec.ofChange geomNoneSpec)) geomNoneCard

/-- THE SECOND FORM's CARD OF 'tarnlaw08.GeomSides'. -/
def geomSidesUptoCard : Claim7 := { stood := { row := geomSidesUptoRow, standIns := [], harness := (true, "4bcf8bf184e95dea21efb261f73cbe91c29fc549b8c416bd3b844642fc9c35d2"), looks := false }, kinds := [], alts := [], laidByText := true, laidKinds := [.wider], laidTests := true, laidLooks := .later }
def GeomSidesUptoCardSaid : Prop := Claim7.holds Tryd.pinned (.plain (OpenSpec.upto geomSidesSpec)) geomSidesUptoCard

/-- THE SECOND FORM's CARD OF 'tarnlaw08.GeomTurns'. -/
def geomTurnsUptoCard : Claim7 := { stood := { row := geomTurnsUptoRow, standIns := [], harness := (true, "4bcf8bf184e95dea21efb261f73cbe91c29fc549b8c416bd3b844642fc9c35d2"), looks := false }, kinds := [], alts := [], laidByText := true, laidKinds := [.wider], laidTests := true, laidLooks := .later }
def GeomTurnsUptoCardSaid : Prop := Claim7.holds Tryd.pinned (.plain (OpenSpec.upto geomTurnsSpec)) geomTurnsUptoCard

/-- THE SECOND FORM's CARD OF 'tarnlaw08.GeomBounds'. -/
def geomBoundsUptoCard : Claim7 := { stood := { row := geomBoundsUptoRow, standIns := [], harness := (true, "4bcf8bf184e95dea21efb261f73cbe91c29fc549b8c416bd3b844642fc9c35d2"), looks := false }, kinds := [], alts := [], laidByText := true, laidKinds := [.wider], laidTests := true, laidLooks := .later }
def GeomBoundsUptoCardSaid : Prop := Claim7.holds Tryd.pinned (.plain (OpenSpec.upto geomBoundsSpec)) geomBoundsUptoCard

/-- THE SECOND FORM's CARD OF 'tarnlaw08.GeomNone'. -/
def geomNoneUptoCard : Claim7 := { stood := { row := geomNoneUptoRow, standIns := [], harness := (true, "4bcf8bf184e95dea21efb261f73cbe91c29fc549b8c416bd3b844642fc9c35d2"), looks := false }, kinds := [], alts := [], laidByText := true, laidKinds := [.wider], laidTests := true, laidLooks := .later }
def GeomNoneUptoCardSaid : Prop := Claim7.holds Tryd.pinned (.plain (OpenSpec.upto geomNoneSpec)) geomNoneUptoCard
end Rows
end Go.Proofs.YtdgkmaamjdglmaaDoor
