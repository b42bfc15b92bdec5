/-
  DERIVED. GIVEN WITH THE SEED: THE CARDS: each row of YtgeipbegpflkhaaGreatDoorRows.lean that lists a variable, with what it lists TIED to the program's text (the seventh form; the later family's looks); each row that meets fmt, with fmt's text TOLD by the authors' own Lean function (tested against real Go, not proved from fmt's source: count such statements apart). THE CARD IS WHAT COUNTS. Prove the row's statement (the work); the ties are given (YtgeipbegpflkhaaGreatDoorTie.lean); close each card by the builder's one call (the guide's Derived/Test/ToyasCard.lean, 'card_holds'). Laid BY PROGRAM, IN A SANDBOX (cutbox-door.mjs). By AI agents, Wed Nov 11 2026. No macro, syntax, notation, axiom, sorry.
-/
import Derived.Test.YtgeipbegpflkhaaGreatDoorRows
import GoSem.ClaimSeven
namespace Go.Proofs.YtgeipbegpflkhaaGreatDoor
namespace Rows

/-- THE TIED CARD OF 'tarnlaw12.ReconExact'. -/
def reconExactCard : Claim7 := { stood := { row := reconExactRow, standIns := [], harness := (true, "fab4f61d8affcb96707de480ce36cda5d8b22a53e067bfe54249c25497ec55ac"), looks := false }, kinds := [], alts := [], laidByText := true, laidKinds := [.wider], laidTests := true, laidLooks := .later }
def ReconExactCardSaid : Prop := Claim7.holds Tryz.pinned (.plain (OpenSpec.ofChange reconExactSpec)) reconExactCard

/-- THE TIED CARD OF 'tarnlaw12.ReconDepths'. -/
def reconDepthsCard : Claim7 := { stood := { row := reconDepthsRow, standIns := [], harness := (true, "fab4f61d8affcb96707de480ce36cda5d8b22a53e067bfe54249c25497ec55ac"), looks := false }, kinds := [], alts := [], laidByText := true, laidKinds := [.wider], laidTests := true, laidLooks := .later }
def ReconDepthsCardSaid : Prop := Claim7.holds Tryz.pinned (.plain (OpenSpec.ofChange reconDepthsSpec)) reconDepthsCard

/-- THE SECOND FORM's CARD OF 'tarnlaw12.ReconExact'. -/
def reconExactUptoCard : Claim7 := { stood := { row := reconExactUptoRow, standIns := [], harness := (true, "fab4f61d8affcb96707de480ce36cda5d8b22a53e067bfe54249c25497ec55ac"), looks := false }, kinds := [], alts := [], laidByText := true, laidKinds := [.wider], laidTests := true, laidLooks := .later }
def ReconExactUptoCardSaid : Prop := Claim7.holds Tryz.pinned (.plain (OpenSpec.upto reconExactSpec)) reconExactUptoCard

/-- THE SECOND FORM's CARD OF 'tarnlaw12.ReconDepths'. -/
def reconDepthsUptoCard : Claim7 := { stood := { row := reconDepthsUptoRow, standIns := [], harness := (true, "fab4f61d8affcb96707de480ce36cda5d8b22a53e067bfe54249c25497ec55ac"), looks := false }, kinds := [], alts := [], laidByText := true, laidKinds := [.wider], laidTests := true, laidLooks := .later }
def ReconDepthsUptoCardSaid : Prop := Claim7.holds Tryz.pinned (.plain (OpenSpec.upto reconDepthsSpec)) reconDepthsUptoCard
end Rows
end Go.Proofs.YtgeipbegpflkhaaGreatDoor
