/-
  DERIVED. GIVEN WITH THE SEED: THE CARDS: each row of YtbdjbhdbegiipaaDoorRows.lean that lists a variable, with what it lists TIED to the program's text (the seventh form; the later family's looks); each row that meets fmt, with fmt's text TOLD by the authors' own Lean function (tested against real Go, not proved from fmt's source: count such statements apart). THE CARD IS WHAT COUNTS. Prove the row's statement (the work); the ties are given (YtbdjbhdbegiipaaDoorTie.lean); close each card by the builder's one call (the guide's Derived/Test/ToyasCard.lean, 'card_holds'). Laid BY PROGRAM, IN A SANDBOX (cutbox-door.mjs). By AI agents, Wed Nov 11 2026. No macro, syntax, notation, axiom, sorry.
-/
import Derived.Test.YtbdjbhdbegiipaaDoorRows
import GoSem.ClaimSeven
namespace Go.Proofs.YtbdjbhdbegiipaaDoor
namespace Rows

/-- THE TIED CARD OF 'tarnlaw13.FluxSigns'. -/
def fluxSignsCard : Claim7 := { stood := { row := fluxSignsRow, standIns := [], harness := (true, "39d56dfe3bc2181faa6beef5fab3c18a3ae954df091a0fa3f62e96c92a3cb7ff"), looks := false }, kinds := [], alts := [], laidByText := true, laidKinds := [.wider], laidTests := true, laidLooks := .later }
def FluxSignsCardSaid : Prop := Claim7.holds Tryd.pinned (.plain (OpenSpec.ofChange fluxSignsSpec)) fluxSignsCard

/-- THE TIED CARD OF 'tarnlaw13.FluxEdges'. -/
def fluxEdgesCard : Claim7 := { stood := { row := fluxEdgesRow, standIns := [], harness := (true, "39d56dfe3bc2181faa6beef5fab3c18a3ae954df091a0fa3f62e96c92a3cb7ff"), looks := false }, kinds := [], alts := [], laidByText := true, laidKinds := [.wider], laidTests := true, laidLooks := .later }
def FluxEdgesCardSaid : Prop := Claim7.holds Tryd.pinned (.plain (OpenSpec.ofChange fluxEdgesSpec)) fluxEdgesCard

/-- THE TIED CARD OF 'tarnlaw13.FluxStill'. -/
def fluxStillCard : Claim7 := { stood := { row := fluxStillRow, standIns := [], harness := (true, "39d56dfe3bc2181faa6beef5fab3c18a3ae954df091a0fa3f62e96c92a3cb7ff"), looks := false }, kinds := [], alts := [], laidByText := true, laidKinds := [.wider], laidTests := true, laidLooks := .later }
def FluxStillCardSaid : Prop := Claim7.holds Tryd.pinned (.plain (OpenSpec.ofChange fluxStillSpec)) fluxStillCard

/-- THE SECOND FORM's CARD OF 'tarnlaw13.FluxSigns'. -/
def fluxSignsUptoCard : Claim7 := { stood := { row := fluxSignsUptoRow, standIns := [], harness := (true, "39d56dfe3bc2181faa6beef5fab3c18a3ae954df091a0fa3f62e96c92a3cb7ff"), looks := false }, kinds := [], alts := [], laidByText := true, laidKinds := [.wider], laidTests := true, laidLooks := .later }
def FluxSignsUptoCardSaid : Prop := Claim7.holds Tryd.pinned (.plain (OpenSpec.upto fluxSignsSpec)) fluxSignsUptoCard

/-- THE SECOND FORM's CARD OF 'tarnlaw13.FluxEdges'. -/
def fluxEdgesUptoCard : Claim7 := { stood := { row := fluxEdgesUptoRow, standIns := [], harness := (true, "39d56dfe3bc2181faa6beef5fab3c18a3ae954df091a0fa3f62e96c92a3cb7ff"), looks := false }, kinds := [], alts := [], laidByText := true, laidKinds := [.wider], laidTests := true, laidLooks := .later }
def FluxEdgesUptoCardSaid : Prop := Claim7.holds Tryd.pinned (.plain (OpenSpec.upto fluxEdgesSpec)) fluxEdgesUptoCard

/-- THE SECOND FORM's CARD OF 'tarnlaw13.FluxStill'. -/
def fluxStillUptoCard : Claim7 := { stood := { row := fluxStillUptoRow, standIns := [], harness := (true, "39d56dfe3bc2181faa6beef5fab3c18a3ae954df091a0fa3f62e96c92a3cb7ff"), looks := false }, kinds := [], alts := [], laidByText := true, laidKinds := [.wider], laidTests := true, laidLooks := .later }
def FluxStillUptoCardSaid : Prop := Claim7.holds Tryd.pinned (.plain (OpenSpec.upto fluxStillSpec)) fluxStillUptoCard
end Rows
end Go.Proofs.YtbdjbhdbegiipaaDoor
