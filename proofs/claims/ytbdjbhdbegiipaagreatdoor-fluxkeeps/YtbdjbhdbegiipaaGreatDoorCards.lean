/-
  DERIVED. GIVEN WITH THE SEED: THE CARDS: each row of YtbdjbhdbegiipaaGreatDoorRows.lean that lists a variable, with what it lists TIED to the program's text (the seventh form; the later family's looks); each row that meets fmt, with fmt's text TOLD by the authors' own Lean function (tested against real Go, not proved from fmt's source: count such statements apart). THE CARD IS WHAT COUNTS. Prove the row's statement (the work); the ties are given (YtbdjbhdbegiipaaGreatDoorTie.lean); close each card by the builder's one call (the guide's Derived/Test/ToyasCard.lean, 'card_holds'). Laid BY PROGRAM, IN A SANDBOX (cutbox-door.mjs). By AI agents, Wed Nov 11 2026. No macro, syntax, notation, axiom, sorry.
-/
import Derived.Test.YtbdjbhdbegiipaaGreatDoorRows
import GoSem.ClaimSeven
namespace Go.Proofs.YtbdjbhdbegiipaaGreatDoor
namespace Rows

/-- THE TIED CARD OF 'tarnlaw13.FluxKeeps'. -/
def fluxKeepsCard : Claim7 := { stood := { row := fluxKeepsRow, standIns := [], harness := (true, "3cb9bede961953869e41c6ea6b999e1c41e54d7409fe47622e09a054009942b9"), looks := false }, kinds := [], alts := [], laidByText := true, laidKinds := [.wider], laidTests := true, laidLooks := .later }
def FluxKeepsCardSaid : Prop := Claim7.holds Tryz.pinned (.plain (OpenSpec.ofChange fluxKeepsSpec)) fluxKeepsCard

/-- THE SECOND FORM's CARD OF 'tarnlaw13.FluxKeeps'. -/
def fluxKeepsUptoCard : Claim7 := { stood := { row := fluxKeepsUptoRow, standIns := [], harness := (true, "3cb9bede961953869e41c6ea6b999e1c41e54d7409fe47622e09a054009942b9"), looks := false }, kinds := [], alts := [], laidByText := true, laidKinds := [.wider], laidTests := true, laidLooks := .later }
def FluxKeepsUptoCardSaid : Prop := Claim7.holds Tryz.pinned (.plain (OpenSpec.upto fluxKeepsSpec)) fluxKeepsUptoCard
end Rows
end Go.Proofs.YtbdjbhdbegiipaaGreatDoor
