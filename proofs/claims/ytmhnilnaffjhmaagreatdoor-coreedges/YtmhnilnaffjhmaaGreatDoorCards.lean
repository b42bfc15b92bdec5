/-
  DERIVED. GIVEN WITH THE SEED: THE CARDS: each row of YtmhnilnaffjhmaaGreatDoorRows.lean that lists a variable, with what it lists TIED to the program's text (the seventh form; the later family's looks); each row that meets fmt, with fmt's text TOLD by the authors' own Lean function (tested against real Go, not proved from fmt's source: count such statements apart). THE CARD IS WHAT COUNTS. Prove the row's statement (the work); the ties are given (YtmhnilnaffjhmaaGreatDoorTie.lean); close each card by the builder's one call (the guide's Derived/Test/ToyasCard.lean, 'card_holds'). Laid BY PROGRAM, IN A SANDBOX (cutbox-door.mjs). By AI agents, Wed Nov 11 2026. No macro, syntax, notation, axiom, sorry.
-/
import Derived.Test.YtmhnilnaffjhmaaGreatDoorRows
import GoSem.ClaimSeven
namespace Go.Proofs.YtmhnilnaffjhmaaGreatDoor
namespace Rows

/-- THE TIED CARD OF 'tarntop.CoreEdges'. -/
def coreEdgesCard : Claim7 := { stood := { row := coreEdgesRow, standIns := [], harness := (true, "f0a241644e89e56d433bdbd28c69ea4c7ddf8635a0afd3a31b82e3c6b6f6a815"), looks := false }, kinds := [], alts := [], laidByText := true, laidKinds := [.wider], laidTests := true, laidLooks := .later }
def CoreEdgesCardSaid : Prop := Claim7.holds Tryz.pinned (.plain (OpenSpec.ofChange coreEdgesSpec)) coreEdgesCard

/-- THE TIED CARD OF 'tarntop.CoreDry'. -/
def coreDryCard : Claim7 := { stood := { row := coreDryRow, standIns := [], harness := (true, "f0a241644e89e56d433bdbd28c69ea4c7ddf8635a0afd3a31b82e3c6b6f6a815"), looks := false }, kinds := [], alts := [], laidByText := true, laidKinds := [.wider], laidTests := true, laidLooks := .later }
def CoreDryCardSaid : Prop := Claim7.holds Tryz.pinned (.plain (OpenSpec.ofChange coreDrySpec)) coreDryCard

/-- THE SECOND FORM's CARD OF 'tarntop.CoreEdges'. -/
def coreEdgesUptoCard : Claim7 := { stood := { row := coreEdgesUptoRow, standIns := [], harness := (true, "f0a241644e89e56d433bdbd28c69ea4c7ddf8635a0afd3a31b82e3c6b6f6a815"), looks := false }, kinds := [], alts := [], laidByText := true, laidKinds := [.wider], laidTests := true, laidLooks := .later }
def CoreEdgesUptoCardSaid : Prop := Claim7.holds Tryz.pinned (.plain (OpenSpec.upto coreEdgesSpec)) coreEdgesUptoCard

/-- THE SECOND FORM's CARD OF 'tarntop.CoreDry'. -/
def coreDryUptoCard : Claim7 := { stood := { row := coreDryUptoRow, standIns := [], harness := (true, "f0a241644e89e56d433bdbd28c69ea4c7ddf8635a0afd3a31b82e3c6b6f6a815"), looks := false }, kinds := [], alts := [], laidByText := true, laidKinds := [.wider], laidTests := true, laidLooks := .later }
def CoreDryUptoCardSaid : Prop := Claim7.holds Tryz.pinned (.plain (OpenSpec.upto coreDrySpec)) coreDryUptoCard
end Rows
end Go.Proofs.YtmhnilnaffjhmaaGreatDoor
