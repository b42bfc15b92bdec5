/-
  DERIVED. GIVEN WITH THE SEED: THE CARDS: each row of YtjgbaenihkplpaaDoorRows.lean that lists a variable, with what it lists TIED to the program's text (the seventh form; the later family's looks); each row that meets fmt, with fmt's text TOLD by the authors' own Lean function (tested against real Go, not proved from fmt's source: count such statements apart). THE CARD IS WHAT COUNTS. Prove the row's statement (the work); the ties are given (YtjgbaenihkplpaaDoorTie.lean); close each card by the builder's one call (the guide's Derived/Test/ToyasCard.lean, 'card_holds'). Laid BY PROGRAM, IN A SANDBOX (cutbox-door.mjs). By AI agents, Wed Nov 11 2026. No macro, syntax, notation, axiom, sorry.
-/
import Derived.Test.YtjgbaenihkplpaaDoorRows
import GoSem.ClaimSeven
namespace Go.Proofs.YtjgbaenihkplpaaDoor
namespace Rows

/-- THE TIED CARD OF 'tarnlaw12.ReconSigns'. -/
def reconSignsCard : Claim7 := { stood := { row := reconSignsRow, standIns := [], harness := (true, "82ebd6dabb1670455b206ba7af473e973873c2968c80ed4a021569a1e5161280"), looks := false }, kinds := [], alts := [], laidByText := true, laidKinds := [.wider], laidTests := true, laidLooks := .later }
def ReconSignsCardSaid : Prop := Claim7.holds Tryd.pinned (.plain (OpenSpec.ofChange reconSignsSpec)) reconSignsCard

/-- THE TIED CARD OF 'tarnlaw12.ReconGate'. -/
def reconGateCard : Claim7 := { stood := { row := reconGateRow, standIns := [], harness := (true, "82ebd6dabb1670455b206ba7af473e973873c2968c80ed4a021569a1e5161280"), looks := false }, kinds := [], alts := [], laidByText := true, laidKinds := [.wider], laidTests := true, laidLooks := .later }
def ReconGateCardSaid : Prop := Claim7.holds Tryd.pinned (.plain (OpenSpec.ofChange reconGateSpec)) reconGateCard

/-- THE TIED CARD OF 'tarnlaw12.ReconFlat'. -/
def reconFlatCard : Claim7 := { stood := { row := reconFlatRow, standIns := [], harness := (true, "82ebd6dabb1670455b206ba7af473e973873c2968c80ed4a021569a1e5161280"), looks := false }, kinds := [], alts := [], laidByText := true, laidKinds := [.wider], laidTests := true, laidLooks := .later }
def ReconFlatCardSaid : Prop := Claim7.holds Tryd.pinned (.plain (OpenSpec.ofChange reconFlatSpec)) reconFlatCard

/-- THE TIED CARD OF 'tarnlaw12.ReconTurned'. -/
def reconTurnedCard : Claim7 := { stood := { row := reconTurnedRow, standIns := [], harness := (true, "82ebd6dabb1670455b206ba7af473e973873c2968c80ed4a021569a1e5161280"), looks := false }, kinds := [], alts := [], laidByText := true, laidKinds := [.wider], laidTests := true, laidLooks := .later }
def ReconTurnedCardSaid : Prop := Claim7.holds Tryd.pinned (.plain (OpenSpec.ofChange reconTurnedSpec)) reconTurnedCard

/-- THE SECOND FORM's CARD OF 'tarnlaw12.ReconSigns'. -/
def reconSignsUptoCard : Claim7 := { stood := { row := reconSignsUptoRow, standIns := [], harness := (true, "82ebd6dabb1670455b206ba7af473e973873c2968c80ed4a021569a1e5161280"), looks := false }, kinds := [], alts := [], laidByText := true, laidKinds := [.wider], laidTests := true, laidLooks := .later }
def ReconSignsUptoCardSaid : Prop := Claim7.holds Tryd.pinned (.plain (OpenSpec.upto reconSignsSpec)) reconSignsUptoCard

/-- THE SECOND FORM's CARD OF 'tarnlaw12.ReconGate'. -/
def reconGateUptoCard : Claim7 := { stood := { row := reconGateUptoRow, standIns := [], harness := (true, "82ebd6dabb1670455b206ba7af473e973873c2968c80ed4a021569a1e5161280"), looks := false }, kinds := [], alts := [], laidByText := true, laidKinds := [.wider], laidTests := true, laidLooks := .later }
def ReconGateUptoCardSaid : Prop := Claim7.holds Tryd.pinned (.plain (OpenSpec.upto reconGateSpec)) reconGateUptoCard

/-- THE SECOND FORM's CARD OF 'tarnlaw12.ReconFlat'. -/
def reconFlatUptoCard : Claim7 := { stood := { row := reconFlatUptoRow, standIns := [], harness := (true, "82ebd6dabb1670455b206ba7af473e973873c2968c80ed4a021569a1e5161280"), looks := false }, kinds := [], alts := [], laidByText := true, laidKinds := [.wider], laidTests := true, laidLooks := .later }
def ReconFlatUptoCardSaid : Prop := Claim7.holds Tryd.pinned (.plain (OpenSpec.upto reconFlatSpec)) reconFlatUptoCard

/-- THE SECOND FORM's CARD OF 'tarnlaw12.ReconTurned'. -/
def reconTurnedUptoCard : Claim7 := { stood := { row := reconTurnedUptoRow, standIns := [], harness := (true, "82ebd6dabb1670455b206ba7af473e973873c2968c80ed4a021569a1e5161280"), looks := false }, kinds := [], alts := [], laidByText := true, laidKinds := [.wider], laidTests := true, laidLooks := .later }
def ReconTurnedUptoCardSaid : Prop := Claim7.holds Tryd.pinned (.plain (OpenSpec.upto reconTurnedSpec)) reconTurnedUptoCard
end Rows
end Go.Proofs.YtjgbaenihkplpaaDoor
