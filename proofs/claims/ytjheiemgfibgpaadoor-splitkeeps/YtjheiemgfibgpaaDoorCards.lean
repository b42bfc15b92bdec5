/-
  DERIVED. GIVEN WITH THE SEED: THE CARDS: each row of YtjheiemgfibgpaaDoorRows.lean that lists a variable, with what it lists TIED to the program's text (the seventh form; the later family's looks); each row that meets fmt, with fmt's text TOLD by the authors' own Lean function (tested against real Go, not proved from fmt's source: count such statements apart). THE CARD IS WHAT COUNTS. Prove the row's statement (the work); the ties are given (YtjheiemgfibgpaaDoorTie.lean); close each card by the builder's one call (the guide's Derived/Test/ToyasCard.lean, 'card_holds'). Laid BY PROGRAM, IN A SANDBOX (cutbox-door.mjs). By AI agents, Wed Nov 11 2026. No macro, syntax, notation, axiom, sorry.
-/
import Derived.Test.YtjheiemgfibgpaaDoorRows
import GoSem.ClaimSeven
namespace Go.Proofs.YtjheiemgfibgpaaDoor
namespace Rows

/-- THE TIED CARD OF 'tarnlaw22.SplitParts'. -/
def splitPartsCard : Claim7 := { stood := { row := splitPartsRow, standIns := [], harness := (true, "224f6cc5647e6b2a97607e8456c201d4ca41d399e4ccdda46847763be5a22ca0"), looks := false }, kinds := [], alts := [], laidByText := true, laidKinds := [.wider], laidTests := true, laidLooks := .later }
def SplitPartsCardSaid : Prop := Claim7.holds Tryd.pinned (.plain (OpenSpec.ofChange splitPartsSpec)) splitPartsCard

/-- THE TIED CARD OF 'tarnlaw22.SplitShown'. -/
def splitShownCard : Claim7 := { stood := { row := splitShownRow, standIns := [], harness := (true, "224f6cc5647e6b2a97607e8456c201d4ca41d399e4ccdda46847763be5a22ca0"), looks := false }, kinds := [], alts := [], laidByText := true, laidKinds := [.wider], laidTests := true, laidLooks := .later }
def SplitShownCardSaid : Prop := Claim7.holds Tryd.pinned (.plain (OpenSpec.ofChange splitShownSpec)) splitShownCard

/-- THE TIED CARD OF 'tarnlaw22.SplitKeeps'. -/
def splitKeepsCard : Claim7 := { stood := { row := splitKeepsRow, standIns := [], harness := (true, "224f6cc5647e6b2a97607e8456c201d4ca41d399e4ccdda46847763be5a22ca0"), looks := false }, kinds := [], alts := [], laidByText := true, laidKinds := [.wider], laidTests := true, laidLooks := .later }
def SplitKeepsCardSaid : Prop := Claim7.holds Tryd.pinned (.plain (OpenSpec.ofChange splitKeepsSpec)) splitKeepsCard

/-- THE SECOND FORM's CARD OF 'tarnlaw22.SplitParts'. -/
def splitPartsUptoCard : Claim7 := { stood := { row := splitPartsUptoRow, standIns := [], harness := (true, "224f6cc5647e6b2a97607e8456c201d4ca41d399e4ccdda46847763be5a22ca0"), looks := false }, kinds := [], alts := [], laidByText := true, laidKinds := [.wider], laidTests := true, laidLooks := .later }
def SplitPartsUptoCardSaid : Prop := Claim7.holds Tryd.pinned (.plain (OpenSpec.upto splitPartsSpec)) splitPartsUptoCard

/-- THE SECOND FORM's CARD OF 'tarnlaw22.SplitShown'. -/
def splitShownUptoCard : Claim7 := { stood := { row := splitShownUptoRow, standIns := [], harness := (true, "224f6cc5647e6b2a97607e8456c201d4ca41d399e4ccdda46847763be5a22ca0"), looks := false }, kinds := [], alts := [], laidByText := true, laidKinds := [.wider], laidTests := true, laidLooks := .later }
def SplitShownUptoCardSaid : Prop := Claim7.holds Tryd.pinned (.plain (OpenSpec.upto splitShownSpec)) splitShownUptoCard

/-- THE SECOND FORM's CARD OF 'tarnlaw22.SplitKeeps'. -/
def splitKeepsUptoCard : Claim7 := { stood := { row := splitKeepsUptoRow, standIns := [], harness := (true, "224f6cc5647e6b2a97607e8456c201d4ca41d399e4ccdda46847763be5a22ca0"), looks := false }, kinds := [], alts := [], laidByText := true, laidKinds := [.wider], laidTests := true, laidLooks := .later }
def SplitKeepsUptoCardSaid : Prop := Claim7.holds Tryd.pinned (.plain (OpenSpec.upto splitKeepsSpec)) splitKeepsUptoCard
end Rows
end Go.Proofs.YtjheiemgfibgpaaDoor
