/-
  DERIVED. GIVEN WITH THE SEED: THE CARDS: each row of YtpfndibgfkkcgaaDoorRows.lean that lists a variable, with what it lists TIED to the program's text (the seventh form; the later family's looks); each row that meets fmt, with fmt's text TOLD by the authors' own Lean function (tested against real Go, not proved from fmt's source: count such statements apart). THE CARD IS WHAT COUNTS. Prove the row's statement (the work); the ties are given (YtpfndibgfkkcgaaDoorTie.lean); close each card by the builder's one call (the guide's Derived/Test/ToyasCard.lean, 'card_holds'). Laid BY PROGRAM, IN A SANDBOX (cutbox-door.mjs). By AI agents, Wed Nov 11 2026. No macro, syntax, notation, axiom, sorry.
-/
import Derived.Test.YtpfndibgfkkcgaaDoorRows
import GoSem.ClaimSeven
namespace Go.Proofs.YtpfndibgfkkcgaaDoor
namespace Rows

/-- THE TIED CARD OF 'tarnlaw15.MassTotals'. -/
def massTotalsCard : Claim7 := { stood := { row := massTotalsRow, standIns := [], harness := (true, "be4e17a4800954180a7a1dbfc9587abbcf32e8878b3aaaf330079d6746155870"), looks := false }, kinds := [], alts := [], laidByText := true, laidKinds := [.wider], laidTests := true, laidLooks := .later }
def MassTotalsCardSaid : Prop := Claim7.holds Tryd.pinned (.plain (OpenSpec.ofChange massTotalsSpec)) massTotalsCard

/-- THE TIED CARD OF 'tarnlaw15.MassKept'. -/
def massKeptCard : Claim7 := { stood := { row := massKeptRow, standIns := [], harness := (true, "be4e17a4800954180a7a1dbfc9587abbcf32e8878b3aaaf330079d6746155870"), looks := false }, kinds := [], alts := [], laidByText := true, laidKinds := [.wider], laidTests := true, laidLooks := .later }
def MassKeptCardSaid : Prop := Claim7.holds Tryd.pinned (.plain (OpenSpec.ofChange massKeptSpec)) massKeptCard

/-- THE TIED CARD OF 'tarnlaw15.MassOne'. -/
def massOneCard : Claim7 := { stood := { row := massOneRow, standIns := [], harness := (true, "be4e17a4800954180a7a1dbfc9587abbcf32e8878b3aaaf330079d6746155870"), looks := false }, kinds := [], alts := [], laidByText := true, laidKinds := [.wider], laidTests := true, laidLooks := .later }
def MassOneCardSaid : Prop := Claim7.holds Tryd.pinned (.plain (OpenSpec.ofChange massOneSpec)) massOneCard

/-- THE TIED CARD OF 'tarnlaw15.MassTwo'. -/
def massTwoCard : Claim7 := { stood := { row := massTwoRow, standIns := [], harness := (true, "be4e17a4800954180a7a1dbfc9587abbcf32e8878b3aaaf330079d6746155870"), looks := false }, kinds := [], alts := [], laidByText := true, laidKinds := [.wider], laidTests := true, laidLooks := .later }
def MassTwoCardSaid : Prop := Claim7.holds Tryd.pinned (.plain (OpenSpec.ofChange massTwoSpec)) massTwoCard

/-- THE TIED CARD OF 'tarnlaw15.MassParts'. -/
def massPartsCard : Claim7 := { stood := { row := massPartsRow, standIns := [], harness := (true, "be4e17a4800954180a7a1dbfc9587abbcf32e8878b3aaaf330079d6746155870"), looks := false }, kinds := [], alts := [], laidByText := true, laidKinds := [.wider], laidTests := true, laidLooks := .later }
def MassPartsCardSaid : Prop := Claim7.holds Tryd.pinned (.plain (OpenSpec.ofChange massPartsSpec)) massPartsCard

/-- THE TIED CARD OF 'tarnlaw15.MassMemory'. -/
def massMemoryCard : Claim7 := { stood := { row := massMemoryRow, standIns := [], harness := (true, "be4e17a4800954180a7a1dbfc9587abbcf32e8878b3aaaf330079d6746155870"), looks := false }, kinds := [], alts := [], laidByText := true, laidKinds := [.wider], laidTests := true, laidLooks := .later }
def MassMemoryCardSaid : Prop := Claim7.holds Tryd.pinned (.plain (OpenSpec.ofChange massMemorySpec)) massMemoryCard

/-- THE SECOND FORM's CARD OF 'tarnlaw15.MassTotals'. -/
def massTotalsUptoCard : Claim7 := { stood := { row := massTotalsUptoRow, standIns := [], harness := (true, "be4e17a4800954180a7a1dbfc9587abbcf32e8878b3aaaf330079d6746155870"), looks := false }, kinds := [], alts := [], laidByText := true, laidKinds := [.wider], laidTests := true, laidLooks := .later }
def MassTotalsUptoCardSaid : Prop := Claim7.holds Tryd.pinned (.plain (OpenSpec.upto massTotalsSpec)) massTotalsUptoCard

/-- THE SECOND FORM's CARD OF 'tarnlaw15.MassKept'. -/
def massKeptUptoCard : Claim7 := { stood := { row := massKeptUptoRow, standIns := [], harness := (true, "be4e17a4800954180a7a1dbfc9587abbcf32e8878b3aaaf330079d6746155870"), looks := false }, kinds := [], alts := [], laidByText := true, laidKinds := [.wider], laidTests := true, laidLooks := .later }
def MassKeptUptoCardSaid : Prop := Claim7.holds Tryd.pinned (.plain (OpenSpec.upto massKeptSpec)) massKeptUptoCard

/-- THE SECOND FORM's CARD OF 'tarnlaw15.MassOne'. -/
def massOneUptoCard : Claim7 := { stood := { row := massOneUptoRow, standIns := [], harness := (true, "be4e17a4800954180a7a1dbfc9587abbcf32e8878b3aaaf330079d6746155870"), looks := false }, kinds := [], alts := [], laidByText := true, laidKinds := [.wider], laidTests := true, laidLooks := .later }
def MassOneUptoCardSaid : Prop := Claim7.holds Tryd.pinned (.plain (OpenSpec.upto massOneSpec)) massOneUptoCard

/-- THE SECOND FORM's CARD OF 'tarnlaw15.MassTwo'. -/
def massTwoUptoCard : Claim7 := { stood := { row := massTwoUptoRow, standIns := [], harness := (true, "be4e17a4800954180a7a1dbfc9587abbcf32e8878b3aaaf330079d6746155870"), looks := false }, kinds := [], alts := [], laidByText := true, laidKinds := [.wider], laidTests := true, laidLooks := .later }
def MassTwoUptoCardSaid : Prop := Claim7.holds Tryd.pinned (.plain (OpenSpec.upto massTwoSpec)) massTwoUptoCard

/-- THE SECOND FORM's CARD OF 'tarnlaw15.MassParts'. -/
def massPartsUptoCard : Claim7 := { stood := { row := massPartsUptoRow, standIns := [], harness := (true, "be4e17a4800954180a7a1dbfc9587abbcf32e8878b3aaaf330079d6746155870"), looks := false }, kinds := [], alts := [], laidByText := true, laidKinds := [.wider], laidTests := true, laidLooks := .later }
def MassPartsUptoCardSaid : Prop := Claim7.holds Tryd.pinned (.plain (OpenSpec.upto massPartsSpec)) massPartsUptoCard

/-- THE SECOND FORM's CARD OF 'tarnlaw15.MassMemory'. -/
def massMemoryUptoCard : Claim7 := { stood := { row := massMemoryUptoRow, standIns := [], harness := (true, "be4e17a4800954180a7a1dbfc9587abbcf32e8878b3aaaf330079d6746155870"), looks := false }, kinds := [], alts := [], laidByText := true, laidKinds := [.wider], laidTests := true, laidLooks := .later }
def MassMemoryUptoCardSaid : Prop := Claim7.holds Tryd.pinned (.plain (OpenSpec.upto massMemorySpec)) massMemoryUptoCard
end Rows
end Go.Proofs.YtpfndibgfkkcgaaDoor
