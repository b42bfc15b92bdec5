/-
  DERIVED. GIVEN WITH THE SEED: THE CARDS: each row of YtpfoohpncbkkfaaDoorRows.lean that lists a variable, with what it lists TIED to the program's text (the seventh form; the later family's looks); each row that meets fmt, with fmt's text TOLD by the authors' own Lean function (tested against real Go, not proved from fmt's source: count such statements apart). THE CARD IS WHAT COUNTS. Prove the row's statement (the work); the ties are given (YtpfoohpncbkkfaaDoorTie.lean); close each card by the builder's one call (the guide's Derived/Test/ToyasCard.lean, 'card_holds'). Laid BY PROGRAM, IN A SANDBOX (cutbox-door.mjs). By AI agents, Wed Nov 11 2026. No macro, syntax, notation, axiom, sorry.
-/
import Derived.Test.YtpfoohpncbkkfaaDoorRows
import GoSem.ClaimSeven
namespace Go.Proofs.YtpfoohpncbkkfaaDoor
namespace Rows

/-- THE TIED CARD OF 'tarnlaw16.ForceBounds'. -/
def forceBoundsCard : Claim7 := { stood := { row := forceBoundsRow, standIns := [], harness := (true, "3c91aef9c71b5333193bdd76c69fbfd2afa8e728782be7ea57f503e36bdd55c4"), looks := false }, kinds := [], alts := [], laidByText := true, laidKinds := [.wider], laidTests := true, laidLooks := .later }
def ForceBoundsCardSaid : Prop := Claim7.holds Tryd.pinned (.plain (OpenSpec.ofChange forceBoundsSpec)) forceBoundsCard

/-- THE TIED CARD OF 'tarnlaw16.ForceRest'. -/
def forceRestCard : Claim7 := { stood := { row := forceRestRow, standIns := [], harness := (true, "3c91aef9c71b5333193bdd76c69fbfd2afa8e728782be7ea57f503e36bdd55c4"), looks := false }, kinds := [], alts := [], laidByText := true, laidKinds := [.wider], laidTests := true, laidLooks := .later }
def ForceRestCardSaid : Prop := Claim7.holds Tryd.pinned (.plain (OpenSpec.ofChange forceRestSpec)) forceRestCard

/-- THE TIED CARD OF 'tarnlaw16.ForceMirror'. -/
def forceMirrorCard : Claim7 := { stood := { row := forceMirrorRow, standIns := [], harness := (true, "3c91aef9c71b5333193bdd76c69fbfd2afa8e728782be7ea57f503e36bdd55c4"), looks := false }, kinds := [], alts := [], laidByText := true, laidKinds := [.wider], laidTests := true, laidLooks := .later }
def ForceMirrorCardSaid : Prop := Claim7.holds Tryd.pinned (.plain (OpenSpec.ofChange forceMirrorSpec)) forceMirrorCard

/-- THE TIED CARD OF 'tarnlaw16.ForceLocal'. -/
def forceLocalCard : Claim7 := { stood := { row := forceLocalRow, standIns := [], harness := (true, "3c91aef9c71b5333193bdd76c69fbfd2afa8e728782be7ea57f503e36bdd55c4"), looks := false }, kinds := [], alts := [], laidByText := true, laidKinds := [.wider], laidTests := true, laidLooks := .later }
def ForceLocalCardSaid : Prop := Claim7.holds Tryd.pinned (.plain (OpenSpec.ofChange forceLocalSpec)) forceLocalCard

/-- THE TIED CARD OF 'tarnlaw16.ForceFalls'. -/
def forceFallsCard : Claim7 := { stood := { row := forceFallsRow, standIns := [], harness := (true, "3c91aef9c71b5333193bdd76c69fbfd2afa8e728782be7ea57f503e36bdd55c4"), looks := false }, kinds := [], alts := [], laidByText := true, laidKinds := [.wider], laidTests := true, laidLooks := .later }
def ForceFallsCardSaid : Prop := Claim7.holds Tryd.pinned (.plain (OpenSpec.ofChange forceFallsSpec)) forceFallsCard

/-- THE TIED CARD OF 'tarnlaw16.ForceKeeps'. -/
def forceKeepsCard : Claim7 := { stood := { row := forceKeepsRow, standIns := [], harness := (true, "3c91aef9c71b5333193bdd76c69fbfd2afa8e728782be7ea57f503e36bdd55c4"), looks := false }, kinds := [], alts := [], laidByText := true, laidKinds := [.wider], laidTests := true, laidLooks := .later }
def ForceKeepsCardSaid : Prop := Claim7.holds Tryd.pinned (.plain (OpenSpec.ofChange forceKeepsSpec)) forceKeepsCard

/-- THE SECOND FORM's CARD OF 'tarnlaw16.ForceBounds'. -/
def forceBoundsUptoCard : Claim7 := { stood := { row := forceBoundsUptoRow, standIns := [], harness := (true, "3c91aef9c71b5333193bdd76c69fbfd2afa8e728782be7ea57f503e36bdd55c4"), looks := false }, kinds := [], alts := [], laidByText := true, laidKinds := [.wider], laidTests := true, laidLooks := .later }
def ForceBoundsUptoCardSaid : Prop := Claim7.holds Tryd.pinned (.plain (OpenSpec.upto forceBoundsSpec)) forceBoundsUptoCard

/-- THE SECOND FORM's CARD OF 'tarnlaw16.ForceRest'. -/
def forceRestUptoCard : Claim7 := { stood := { row := forceRestUptoRow, standIns := [], harness := (true, "3c91aef9c71b5333193bdd76c69fbfd2afa8e728782be7ea57f503e36bdd55c4"), looks := false }, kinds := [], alts := [], laidByText := true, laidKinds := [.wider], laidTests := true, laidLooks := .later }
def ForceRestUptoCardSaid : Prop := Claim7.holds Tryd.pinned (.plain (OpenSpec.upto forceRestSpec)) forceRestUptoCard

/-- THE SECOND FORM's CARD OF 'tarnlaw16.ForceMirror'. -/
def forceMirrorUptoCard : Claim7 := { stood := { row := forceMirrorUptoRow, standIns := [], harness := (true, "3c91aef9c71b5333193bdd76c69fbfd2afa8e728782be7ea57f503e36bdd55c4"), looks := false }, kinds := [], alts := [], laidByText := true, laidKinds := [.wider], laidTests := true, laidLooks := .later }
def ForceMirrorUptoCardSaid : Prop := Claim7.holds Tryd.pinned (.plain (OpenSpec.upto forceMirrorSpec)) forceMirrorUptoCard

/-- THE SECOND FORM's CARD OF 'tarnlaw16.ForceLocal'. -/
def forceLocalUptoCard : Claim7 := { stood := { row := forceLocalUptoRow, standIns := [], harness := (true, "3c91aef9c71b5333193bdd76c69fbfd2afa8e728782be7ea57f503e36bdd55c4"), looks := false }, kinds := [], alts := [], laidByText := true, laidKinds := [.wider], laidTests := true, laidLooks := .later }
def ForceLocalUptoCardSaid : Prop := Claim7.holds Tryd.pinned (.plain (OpenSpec.upto forceLocalSpec)) forceLocalUptoCard

/-- THE SECOND FORM's CARD OF 'tarnlaw16.ForceFalls'. -/
def forceFallsUptoCard : Claim7 := { stood := { row := forceFallsUptoRow, standIns := [], harness := (true, "3c91aef9c71b5333193bdd76c69fbfd2afa8e728782be7ea57f503e36bdd55c4"), looks := false }, kinds := [], alts := [], laidByText := true, laidKinds := [.wider], laidTests := true, laidLooks := .later }
def ForceFallsUptoCardSaid : Prop := Claim7.holds Tryd.pinned (.plain (OpenSpec.upto forceFallsSpec)) forceFallsUptoCard

/-- THE SECOND FORM's CARD OF 'tarnlaw16.ForceKeeps'. -/
def forceKeepsUptoCard : Claim7 := { stood := { row := forceKeepsUptoRow, standIns := [], harness := (true, "3c91aef9c71b5333193bdd76c69fbfd2afa8e728782be7ea57f503e36bdd55c4"), looks := false }, kinds := [], alts := [], laidByText := true, laidKinds := [.wider], laidTests := true, laidLooks := .later }
def ForceKeepsUptoCardSaid : Prop := Claim7.holds Tryd.pinned (.plain (OpenSpec.upto forceKeepsSpec)) forceKeepsUptoCard
end Rows
end Go.Proofs.YtpfoohpncbkkfaaDoor
