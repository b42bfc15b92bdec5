/-
  DERIVED. GIVEN WITH THE SEED: THE CARDS: each row of YtaphajlpbgcfjaaGreatDoorRows.lean that lists a variable, with what it lists TIED to the program's text (the seventh form; the later family's looks); each row that meets fmt, with fmt's text TOLD by the authors' own Lean function (tested against real Go, not proved from fmt's source: count such statements apart). THE CARD IS WHAT COUNTS. Prove the row's statement (the work); the ties are given (YtaphajlpbgcfjaaGreatDoorTie.lean); close each card by the builder's one call (the guide's Derived/Test/ToyasCard.lean, 'card_holds'). Laid BY PROGRAM, IN A SANDBOX (cutbox-door.mjs). By AI agents, Wed Nov 11 2026. No macro, syntax, notation, axiom, sorry.
-/
import Derived.Test.YtaphajlpbgcfjaaGreatDoorRows
import GoSem.ClaimSeven
namespace Go.Proofs.YtaphajlpbgcfjaaGreatDoor
namespace Rows

/-- THE TIED CARD OF 'tarnlaw21.StepKept'. -/
def stepKeptCard : Claim7 := { stood := { row := stepKeptRow, standIns := [], harness := (true, "af8a3465c09b0562909ec22d8dd1bb753faed546df51ba11bb5d124d6446cd29"), looks := false }, kinds := [], alts := [], laidByText := true, laidKinds := [.wider], laidTests := true, laidLooks := .later }
def StepKeptCardSaid : Prop := Claim7.holds Tryz.pinned (.plain (OpenSpec.ofChange stepKeptSpec)) stepKeptCard

/-- THE TIED CARD OF 'tarnlaw21.StepParts'. -/
def stepPartsCard : Claim7 := { stood := { row := stepPartsRow, standIns := [], harness := (true, "af8a3465c09b0562909ec22d8dd1bb753faed546df51ba11bb5d124d6446cd29"), looks := false }, kinds := [], alts := [], laidByText := true, laidKinds := [.wider], laidTests := true, laidLooks := .later }
def StepPartsCardSaid : Prop := Claim7.holds Tryz.pinned (.plain (OpenSpec.ofChange stepPartsSpec)) stepPartsCard

/-- THE TIED CARD OF 'tarnlaw21.StepRests'. -/
def stepRestsCard : Claim7 := { stood := { row := stepRestsRow, standIns := [], harness := (true, "af8a3465c09b0562909ec22d8dd1bb753faed546df51ba11bb5d124d6446cd29"), looks := false }, kinds := [], alts := [], laidByText := true, laidKinds := [.wider], laidTests := true, laidLooks := .later }
def StepRestsCardSaid : Prop := Claim7.holds Tryz.pinned (.plain (OpenSpec.ofChange stepRestsSpec)) stepRestsCard

/-- THE TIED CARD OF 'tarnlaw21.StepTurned'. -/
def stepTurnedCard : Claim7 := { stood := { row := stepTurnedRow, standIns := [], harness := (true, "af8a3465c09b0562909ec22d8dd1bb753faed546df51ba11bb5d124d6446cd29"), looks := false }, kinds := [], alts := [], laidByText := true, laidKinds := [.wider], laidTests := true, laidLooks := .later }
def StepTurnedCardSaid : Prop := Claim7.holds Tryz.pinned (.plain (OpenSpec.ofChange stepTurnedSpec)) stepTurnedCard

/-- THE TIED CARD OF 'tarnlaw21.StepGives'. -/
def stepGivesCard : Claim7 := { stood := { row := stepGivesRow, standIns := [], harness := (true, "af8a3465c09b0562909ec22d8dd1bb753faed546df51ba11bb5d124d6446cd29"), looks := false }, kinds := [], alts := [], laidByText := true, laidKinds := [.wider], laidTests := true, laidLooks := .later }
def StepGivesCardSaid : Prop := Claim7.holds Tryz.pinned (.plain (OpenSpec.ofChange stepGivesSpec)) stepGivesCard

/-- THE TIED CARD OF 'tarnlaw21.StepMemory'. -/
def stepMemoryCard : Claim7 := { stood := { row := stepMemoryRow, standIns := [], harness := (true, "af8a3465c09b0562909ec22d8dd1bb753faed546df51ba11bb5d124d6446cd29"), looks := false }, kinds := [], alts := [], laidByText := true, laidKinds := [.wider], laidTests := true, laidLooks := .later }
def StepMemoryCardSaid : Prop := Claim7.holds Tryz.pinned (.plain (OpenSpec.ofChange stepMemorySpec)) stepMemoryCard

/-- THE SECOND FORM's CARD OF 'tarnlaw21.StepKept'. -/
def stepKeptUptoCard : Claim7 := { stood := { row := stepKeptUptoRow, standIns := [], harness := (true, "af8a3465c09b0562909ec22d8dd1bb753faed546df51ba11bb5d124d6446cd29"), looks := false }, kinds := [], alts := [], laidByText := true, laidKinds := [.wider], laidTests := true, laidLooks := .later }
def StepKeptUptoCardSaid : Prop := Claim7.holds Tryz.pinned (.plain (OpenSpec.upto stepKeptSpec)) stepKeptUptoCard

/-- THE SECOND FORM's CARD OF 'tarnlaw21.StepParts'. -/
def stepPartsUptoCard : Claim7 := { stood := { row := stepPartsUptoRow, standIns := [], harness := (true, "af8a3465c09b0562909ec22d8dd1bb753faed546df51ba11bb5d124d6446cd29"), looks := false }, kinds := [], alts := [], laidByText := true, laidKinds := [.wider], laidTests := true, laidLooks := .later }
def StepPartsUptoCardSaid : Prop := Claim7.holds Tryz.pinned (.plain (OpenSpec.upto stepPartsSpec)) stepPartsUptoCard

/-- THE SECOND FORM's CARD OF 'tarnlaw21.StepRests'. -/
def stepRestsUptoCard : Claim7 := { stood := { row := stepRestsUptoRow, standIns := [], harness := (true, "af8a3465c09b0562909ec22d8dd1bb753faed546df51ba11bb5d124d6446cd29"), looks := false }, kinds := [], alts := [], laidByText := true, laidKinds := [.wider], laidTests := true, laidLooks := .later }
def StepRestsUptoCardSaid : Prop := Claim7.holds Tryz.pinned (.plain (OpenSpec.upto stepRestsSpec)) stepRestsUptoCard

/-- THE SECOND FORM's CARD OF 'tarnlaw21.StepTurned'. -/
def stepTurnedUptoCard : Claim7 := { stood := { row := stepTurnedUptoRow, standIns := [], harness := (true, "af8a3465c09b0562909ec22d8dd1bb753faed546df51ba11bb5d124d6446cd29"), looks := false }, kinds := [], alts := [], laidByText := true, laidKinds := [.wider], laidTests := true, laidLooks := .later }
def StepTurnedUptoCardSaid : Prop := Claim7.holds Tryz.pinned (.plain (OpenSpec.upto stepTurnedSpec)) stepTurnedUptoCard

/-- THE SECOND FORM's CARD OF 'tarnlaw21.StepGives'. -/
def stepGivesUptoCard : Claim7 := { stood := { row := stepGivesUptoRow, standIns := [], harness := (true, "af8a3465c09b0562909ec22d8dd1bb753faed546df51ba11bb5d124d6446cd29"), looks := false }, kinds := [], alts := [], laidByText := true, laidKinds := [.wider], laidTests := true, laidLooks := .later }
def StepGivesUptoCardSaid : Prop := Claim7.holds Tryz.pinned (.plain (OpenSpec.upto stepGivesSpec)) stepGivesUptoCard

/-- THE SECOND FORM's CARD OF 'tarnlaw21.StepMemory'. -/
def stepMemoryUptoCard : Claim7 := { stood := { row := stepMemoryUptoRow, standIns := [], harness := (true, "af8a3465c09b0562909ec22d8dd1bb753faed546df51ba11bb5d124d6446cd29"), looks := false }, kinds := [], alts := [], laidByText := true, laidKinds := [.wider], laidTests := true, laidLooks := .later }
def StepMemoryUptoCardSaid : Prop := Claim7.holds Tryz.pinned (.plain (OpenSpec.upto stepMemorySpec)) stepMemoryUptoCard
end Rows
end Go.Proofs.YtaphajlpbgcfjaaGreatDoor
