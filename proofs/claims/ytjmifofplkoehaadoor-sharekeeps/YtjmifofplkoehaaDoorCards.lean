/-
  DERIVED. GIVEN WITH THE SEED: THE CARDS: each row of YtjmifofplkoehaaDoorRows.lean that lists a variable, with what it lists TIED to the program's text (the seventh form; the later family's looks); each row that meets fmt, with fmt's text TOLD by the authors' own Lean function (tested against real Go, not proved from fmt's source: count such statements apart). THE CARD IS WHAT COUNTS. Prove the row's statement (the work); the ties are given (YtjmifofplkoehaaDoorTie.lean); close each card by the builder's one call (the guide's Derived/Test/ToyasCard.lean, 'card_holds'). Laid BY PROGRAM, IN A SANDBOX (cutbox-door.mjs). By AI agents, Wed Nov 11 2026. No macro, syntax, notation, axiom, sorry.
-/
import Derived.Test.YtjmifofplkoehaaDoorRows
import GoSem.ClaimSeven
namespace Go.Proofs.YtjmifofplkoehaaDoor
namespace Rows

/-- THE TIED CARD OF 'tarnlaw14.ShareGives'. -/
def shareGivesCard : Claim7 := { stood := { row := shareGivesRow, standIns := [], harness := (true, "7ea7d34304e8e41a7f5f6a96856c0e883a9b99d69a70c373a8040ed2b00d8cf8"), looks := false }, kinds := [], alts := [], laidByText := true, laidKinds := [.wider], laidTests := true, laidLooks := .later }
def ShareGivesCardSaid : Prop := Claim7.holds Tryd.pinned (.plain (OpenSpec.ofChange shareGivesSpec)) shareGivesCard

/-- THE TIED CARD OF 'tarnlaw14.ShareKeeps'. -/
def shareKeepsCard : Claim7 := { stood := { row := shareKeepsRow, standIns := [], harness := (true, "7ea7d34304e8e41a7f5f6a96856c0e883a9b99d69a70c373a8040ed2b00d8cf8"), looks := false }, kinds := [], alts := [], laidByText := true, laidKinds := [.wider], laidTests := true, laidLooks := .later }
def ShareKeepsCardSaid : Prop := Claim7.holds Tryd.pinned (.plain (OpenSpec.ofChange shareKeepsSpec)) shareKeepsCard

/-- THE SECOND FORM's CARD OF 'tarnlaw14.ShareGives'. -/
def shareGivesUptoCard : Claim7 := { stood := { row := shareGivesUptoRow, standIns := [], harness := (true, "7ea7d34304e8e41a7f5f6a96856c0e883a9b99d69a70c373a8040ed2b00d8cf8"), looks := false }, kinds := [], alts := [], laidByText := true, laidKinds := [.wider], laidTests := true, laidLooks := .later }
def ShareGivesUptoCardSaid : Prop := Claim7.holds Tryd.pinned (.plain (OpenSpec.upto shareGivesSpec)) shareGivesUptoCard

/-- THE SECOND FORM's CARD OF 'tarnlaw14.ShareKeeps'. -/
def shareKeepsUptoCard : Claim7 := { stood := { row := shareKeepsUptoRow, standIns := [], harness := (true, "7ea7d34304e8e41a7f5f6a96856c0e883a9b99d69a70c373a8040ed2b00d8cf8"), looks := false }, kinds := [], alts := [], laidByText := true, laidKinds := [.wider], laidTests := true, laidLooks := .later }
def ShareKeepsUptoCardSaid : Prop := Claim7.holds Tryd.pinned (.plain (OpenSpec.upto shareKeepsSpec)) shareKeepsUptoCard
end Rows
end Go.Proofs.YtjmifofplkoehaaDoor
