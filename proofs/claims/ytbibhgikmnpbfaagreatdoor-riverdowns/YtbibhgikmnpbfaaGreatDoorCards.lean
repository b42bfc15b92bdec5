/-
  DERIVED. GIVEN WITH THE SEED: THE CARDS: each row of YtbibhgikmnpbfaaGreatDoorRows.lean that lists a variable, with what it lists TIED to the program's text (the seventh form; the later family's looks); each row that meets fmt, with fmt's text TOLD by the authors' own Lean function (tested against real Go, not proved from fmt's source: count such statements apart). THE CARD IS WHAT COUNTS. Prove the row's statement (the work); the ties are given (YtbibhgikmnpbfaaGreatDoorTie.lean); close each card by the builder's one call (the guide's Derived/Test/ToyasCard.lean, 'card_holds'). Laid BY PROGRAM, IN A SANDBOX (cutbox-door.mjs). By AI agents, Wed Nov 11 2026. No macro, syntax, notation, axiom, sorry.
-/
import Derived.Test.YtbibhgikmnpbfaaGreatDoorRows
import GoSem.ClaimSeven
namespace Go.Proofs.YtbibhgikmnpbfaaGreatDoor
namespace Rows

/-- THE TIED CARD OF 'tarnlaw19.RiverRuns'. -/
def riverRunsCard : Claim7 := { stood := { row := riverRunsRow, standIns := [], harness := (true, "3e55e848b2af71ae6475861c79760a1b72fa33c3f75bb77f74420c8c3a6fea27"), looks := false }, kinds := [], alts := [], laidByText := true, laidKinds := [.wider], laidTests := true, laidLooks := .later }
def RiverRunsCardSaid : Prop := Claim7.holds Tryz.pinned (.plain (OpenSpec.ofChange riverRunsSpec)) riverRunsCard

/-- THE TIED CARD OF 'tarnlaw19.RiverDowns'. -/
def riverDownsCard : Claim7 := { stood := { row := riverDownsRow, standIns := [], harness := (true, "3e55e848b2af71ae6475861c79760a1b72fa33c3f75bb77f74420c8c3a6fea27"), looks := false }, kinds := [], alts := [], laidByText := true, laidKinds := [.wider], laidTests := true, laidLooks := .later }
def RiverDownsCardSaid : Prop := Claim7.holds Tryz.pinned (.plain (OpenSpec.ofChange riverDownsSpec)) riverDownsCard

/-- THE SECOND FORM's CARD OF 'tarnlaw19.RiverRuns'. -/
def riverRunsUptoCard : Claim7 := { stood := { row := riverRunsUptoRow, standIns := [], harness := (true, "3e55e848b2af71ae6475861c79760a1b72fa33c3f75bb77f74420c8c3a6fea27"), looks := false }, kinds := [], alts := [], laidByText := true, laidKinds := [.wider], laidTests := true, laidLooks := .later }
def RiverRunsUptoCardSaid : Prop := Claim7.holds Tryz.pinned (.plain (OpenSpec.upto riverRunsSpec)) riverRunsUptoCard

/-- THE SECOND FORM's CARD OF 'tarnlaw19.RiverDowns'. -/
def riverDownsUptoCard : Claim7 := { stood := { row := riverDownsUptoRow, standIns := [], harness := (true, "3e55e848b2af71ae6475861c79760a1b72fa33c3f75bb77f74420c8c3a6fea27"), looks := false }, kinds := [], alts := [], laidByText := true, laidKinds := [.wider], laidTests := true, laidLooks := .later }
def RiverDownsUptoCardSaid : Prop := Claim7.holds Tryz.pinned (.plain (OpenSpec.upto riverDownsSpec)) riverDownsUptoCard
end Rows
end Go.Proofs.YtbibhgikmnpbfaaGreatDoor
