/-
  DERIVED. GIVEN WITH THE SEED: THE CARDS: each row of YtgalgnjgpmcngaaGreatDoorRows.lean that lists a variable, with what it lists TIED to the program's text (the seventh form; the later family's looks); each row that meets fmt, with fmt's text TOLD by the authors' own Lean function (tested against real Go, not proved from fmt's source: count such statements apart). THE CARD IS WHAT COUNTS. Prove the row's statement (the work); the ties are given (YtgalgnjgpmcngaaGreatDoorTie.lean); close each card by the builder's one call (the guide's Derived/Test/ToyasCard.lean, 'card_holds'). Laid BY PROGRAM, IN A SANDBOX (cutbox-door.mjs). By AI agents, Wed Nov 11 2026. No macro, syntax, notation, axiom, sorry.
-/
import Derived.Test.YtgalgnjgpmcngaaGreatDoorRows
import GoSem.ClaimSeven
namespace Go.Proofs.YtgalgnjgpmcngaaGreatDoor
namespace Rows

/-- THE TIED CARD OF 'tarnlaw16.ForceAll'. -/
def forceAllCard : Claim7 := { stood := { row := forceAllRow, standIns := [], harness := (true, "bd6adfee2b07c3e117c248636cdcc3711978802bec4113510e37ffb3001e6fa6"), looks := false }, kinds := [], alts := [], laidByText := true, laidKinds := [.wider], laidTests := true, laidLooks := .later }
def ForceAllCardSaid : Prop := Claim7.holds Tryz.pinned (.plain (OpenSpec.ofChange forceAllSpec)) forceAllCard

/-- THE SECOND FORM's CARD OF 'tarnlaw16.ForceAll'. -/
def forceAllUptoCard : Claim7 := { stood := { row := forceAllUptoRow, standIns := [], harness := (true, "bd6adfee2b07c3e117c248636cdcc3711978802bec4113510e37ffb3001e6fa6"), looks := false }, kinds := [], alts := [], laidByText := true, laidKinds := [.wider], laidTests := true, laidLooks := .later }
def ForceAllUptoCardSaid : Prop := Claim7.holds Tryz.pinned (.plain (OpenSpec.upto forceAllSpec)) forceAllUptoCard
end Rows
end Go.Proofs.YtgalgnjgpmcngaaGreatDoor
