/-
  DERIVED. GIVEN WITH THE SEED: THE CARDS: each row of YtnklgfmemelcpaaDoorRows.lean that lists a variable, with what it lists TIED to the program's text (the seventh form; the later family's looks); each row that meets fmt, with fmt's text TOLD by the authors' own Lean function (tested against real Go, not proved from fmt's source: count such statements apart). THE CARD IS WHAT COUNTS. Prove the row's statement (the work); the ties are given (YtnklgfmemelcpaaDoorTie.lean); close each card by the builder's one call (the guide's Derived/Test/ToyasCard.lean, 'card_holds'). Laid BY PROGRAM, IN A SANDBOX (cutbox-door.mjs). By AI agents, Wed Nov 11 2026. No macro, syntax, notation, axiom, sorry.
-/
import Derived.Test.YtnklgfmemelcpaaDoorRows
import GoSem.ClaimSeven
namespace Go.Proofs.YtnklgfmemelcpaaDoor
namespace Rows

/-- THE TIED CARD OF 'tarnlaw09.GridEdges'. -/
def gridEdgesCard : Claim7 := { stood := { row := gridEdgesRow, standIns := [], harness := (true, "36a1fa543a1b30fa89d171b3df07b8c22b796c24c72ecaa69a6539e13926f037"), looks := false }, kinds := [], alts := [], laidByText := true, laidKinds := [.wider], laidTests := true, laidLooks := .later }
def GridEdgesCardSaid : Prop := Claim7.holds Tryd.pinned (.plain (OpenSpec.ofChange gridEdgesSpec)) gridEdgesCard

/-- THE TIED CARD OF 'tarnlaw09.GridAround'. -/
def gridAroundCard : Claim7 := { stood := { row := gridAroundRow, standIns := [], harness := (true, "36a1fa543a1b30fa89d171b3df07b8c22b796c24c72ecaa69a6539e13926f037"), looks := false }, kinds := [], alts := [], laidByText := true, laidKinds := [.wider], laidTests := true, laidLooks := .later }
def GridAroundCardSaid : Prop := Claim7.holds Tryd.pinned (.plain (OpenSpec.ofChange gridAroundSpec)) gridAroundCard

/-- THE TIED CARD OF 'tarnlaw09.GridBehind'. -/
def gridBehindCard : Claim7 := { stood := { row := gridBehindRow, standIns := [], harness := (true, "36a1fa543a1b30fa89d171b3df07b8c22b796c24c72ecaa69a6539e13926f037"), looks := false }, kinds := [], alts := [], laidByText := true, laidKinds := [.wider], laidTests := true, laidLooks := .later }
def GridBehindCardSaid : Prop := Claim7.holds Tryd.pinned (.plain (OpenSpec.ofChange gridBehindSpec)) gridBehindCard

/-- THE TIED CARD OF 'tarnlaw09.GridSizes'. -/
def gridSizesCard : Claim7 := { stood := { row := gridSizesRow, standIns := [], harness := (true, "36a1fa543a1b30fa89d171b3df07b8c22b796c24c72ecaa69a6539e13926f037"), looks := false }, kinds := [], alts := [], laidByText := true, laidKinds := [.wider], laidTests := true, laidLooks := .later }
def GridSizesCardSaid : Prop := Claim7.holds Tryd.pinned (.plain (OpenSpec.ofChange gridSizesSpec)) gridSizesCard

/-- THE TIED CARD OF 'tarnlaw09.GridTurned'. -/
def gridTurnedCard : Claim7 := { stood := { row := gridTurnedRow, standIns := [], harness := (true, "36a1fa543a1b30fa89d171b3df07b8c22b796c24c72ecaa69a6539e13926f037"), looks := false }, kinds := [], alts := [], laidByText := true, laidKinds := [.wider], laidTests := true, laidLooks := .later }
def GridTurnedCardSaid : Prop := Claim7.holds Tryd.pinned (.plain (OpenSpec.ofChange gridTurnedSpec)) gridTurnedCard

/-- THE SECOND FORM's CARD OF 'tarnlaw09.GridEdges'. -/
def gridEdgesUptoCard : Claim7 := { stood := { row := gridEdgesUptoRow, standIns := [], harness := (true, "36a1fa543a1b30fa89d171b3df07b8c22b796c24c72ecaa69a6539e13926f037"), looks := false }, kinds := [], alts := [], laidByText := true, laidKinds := [.wider], laidTests := true, laidLooks := .later }
def GridEdgesUptoCardSaid : Prop := Claim7.holds Tryd.pinned (.plain (OpenSpec.upto gridEdgesSpec)) gridEdgesUptoCard

/-- THE SECOND FORM's CARD OF 'tarnlaw09.GridAround'. -/
def gridAroundUptoCard : Claim7 := { stood := { row := gridAroundUptoRow, standIns := [], harness := (true, "36a1fa543a1b30fa89d171b3df07b8c22b796c24c72ecaa69a6539e13926f037"), looks := false }, kinds := [], alts := [], laidByText := true, laidKinds := [.wider], laidTests := true, laidLooks := .later }
def GridAroundUptoCardSaid : Prop := Claim7.holds Tryd.pinned (.plain (OpenSpec.upto gridAroundSpec)) gridAroundUptoCard

/-- THE SECOND FORM's CARD OF 'tarnlaw09.GridBehind'. -/
def gridBehindUptoCard : Claim7 := { stood := { row := gridBehindUptoRow, standIns := [], harness := (true, "36a1fa543a1b30fa89d171b3df07b8c22b796c24c72ecaa69a6539e13926f037"), looks := false }, kinds := [], alts := [], laidByText := true, laidKinds := [.wider], laidTests := true, laidLooks := .later }
def GridBehindUptoCardSaid : Prop := Claim7.holds Tryd.pinned (.plain (OpenSpec.upto gridBehindSpec)) gridBehindUptoCard

/-- THE SECOND FORM's CARD OF 'tarnlaw09.GridSizes'. -/
def gridSizesUptoCard : Claim7 := { stood := { row := gridSizesUptoRow, standIns := [], harness := (true, "36a1fa543a1b30fa89d171b3df07b8c22b796c24c72ecaa69a6539e13926f037"), looks := false }, kinds := [], alts := [], laidByText := true, laidKinds := [.wider], laidTests := true, laidLooks := .later }
def GridSizesUptoCardSaid : Prop := Claim7.holds Tryd.pinned (.plain (OpenSpec.upto gridSizesSpec)) gridSizesUptoCard

/-- THE SECOND FORM's CARD OF 'tarnlaw09.GridTurned'. -/
def gridTurnedUptoCard : Claim7 := { stood := { row := gridTurnedUptoRow, standIns := [], harness := (true, "36a1fa543a1b30fa89d171b3df07b8c22b796c24c72ecaa69a6539e13926f037"), looks := false }, kinds := [], alts := [], laidByText := true, laidKinds := [.wider], laidTests := true, laidLooks := .later }
def GridTurnedUptoCardSaid : Prop := Claim7.holds Tryd.pinned (.plain (OpenSpec.upto gridTurnedSpec)) gridTurnedUptoCard
end Rows
end Go.Proofs.YtnklgfmemelcpaaDoor
