/-
  DERIVED. GIVEN WITH THE SEED: THE CARDS: each row of YthmljifkncfjgaaDoorRows.lean that lists a variable, with what it lists TIED to the program's text (the seventh form; the later family's looks); each row that meets fmt, with fmt's text TOLD by the authors' own Lean function (tested against real Go, not proved from fmt's source: count such statements apart). THE CARD IS WHAT COUNTS. Prove the row's statement (the work); the ties are given (YthmljifkncfjgaaDoorTie.lean); close each card by the builder's one call (the guide's Derived/Test/ToyasCard.lean, 'card_holds'). Laid BY PROGRAM, IN A SANDBOX (cutbox-door.mjs). By AI agents, Wed Nov 11 2026. No macro, syntax, notation, axiom, sorry.
-/
import Derived.Test.YthmljifkncfjgaaDoorRows
import GoSem.ClaimSeven
namespace Go.Proofs.YthmljifkncfjgaaDoor
namespace Rows

/-- THE TIED CARD OF 'tarnlaw06.CubeRound'. -/
def cubeRoundCard : Claim7 := { stood := { row := cubeRoundRow, standIns := [], harness := (true, "5cc69ec2e0e19811647842e67fa835eaf917491a7f8e6d748da5c5b1d5bda8d0"), looks := false }, kinds := [], alts := [], laidByText := true, laidKinds := [.wider], laidTests := true, laidLooks := .later }
def CubeRoundCardSaid : Prop := Claim7.holds Tryd.pinned (.plain (OpenSpec.ofChange cubeRoundSpec)) cubeRoundCard

/-- THE TIED CARD OF 'tarnlaw06.CubeCorner'. -/
def cubeCornerCard : Claim7 := { stood := { row := cubeCornerRow, standIns := [], harness := (true, "5cc69ec2e0e19811647842e67fa835eaf917491a7f8e6d748da5c5b1d5bda8d0"), looks := false }, kinds := [], alts := [], laidByText := true, laidKinds := [.wider], laidTests := true, laidLooks := .later }
def CubeCornerCardSaid : Prop := Claim7.holds Tryd.pinned (.plain (OpenSpec.ofChange cubeCornerSpec)) cubeCornerCard

/-- THE TIED CARD OF 'tarnlaw06.CubeNumbers'. -/
def cubeNumbersCard : Claim7 := { stood := { row := cubeNumbersRow, standIns := [], harness := (true, "5cc69ec2e0e19811647842e67fa835eaf917491a7f8e6d748da5c5b1d5bda8d0"), looks := false }, kinds := [], alts := [], laidByText := true, laidKinds := [.wider], laidTests := true, laidLooks := .later }
def CubeNumbersCardSaid : Prop := Claim7.holds Tryd.pinned (.plain (OpenSpec.ofChange cubeNumbersSpec)) cubeNumbersCard

/-- THE TIED CARD OF 'tarnlaw06.CubeSides'. -/
def cubeSidesCard : Claim7 := { stood := { row := cubeSidesRow, standIns := [], harness := (true, "5cc69ec2e0e19811647842e67fa835eaf917491a7f8e6d748da5c5b1d5bda8d0"), looks := false }, kinds := [], alts := [], laidByText := true, laidKinds := [.wider], laidTests := true, laidLooks := .later }
def CubeSidesCardSaid : Prop := Claim7.holds Tryd.pinned (.plain (OpenSpec.ofChange cubeSidesSpec)) cubeSidesCard

/-- THE SECOND FORM's CARD OF 'tarnlaw06.CubeRound'. -/
def cubeRoundUptoCard : Claim7 := { stood := { row := cubeRoundUptoRow, standIns := [], harness := (true, "5cc69ec2e0e19811647842e67fa835eaf917491a7f8e6d748da5c5b1d5bda8d0"), looks := false }, kinds := [], alts := [], laidByText := true, laidKinds := [.wider], laidTests := true, laidLooks := .later }
def CubeRoundUptoCardSaid : Prop := Claim7.holds Tryd.pinned (.plain (OpenSpec.upto cubeRoundSpec)) cubeRoundUptoCard

/-- THE SECOND FORM's CARD OF 'tarnlaw06.CubeCorner'. -/
def cubeCornerUptoCard : Claim7 := { stood := { row := cubeCornerUptoRow, standIns := [], harness := (true, "5cc69ec2e0e19811647842e67fa835eaf917491a7f8e6d748da5c5b1d5bda8d0"), looks := false }, kinds := [], alts := [], laidByText := true, laidKinds := [.wider], laidTests := true, laidLooks := .later }
def CubeCornerUptoCardSaid : Prop := Claim7.holds Tryd.pinned (.plain (OpenSpec.upto cubeCornerSpec)) cubeCornerUptoCard

/-- THE SECOND FORM's CARD OF 'tarnlaw06.CubeNumbers'. -/
def cubeNumbersUptoCard : Claim7 := { stood := { row := cubeNumbersUptoRow, standIns := [], harness := (true, "5cc69ec2e0e19811647842e67fa835eaf917491a7f8e6d748da5c5b1d5bda8d0"), looks := false }, kinds := [], alts := [], laidByText := true, laidKinds := [.wider], laidTests := true, laidLooks := .later }
def CubeNumbersUptoCardSaid : Prop := Claim7.holds Tryd.pinned (.plain (OpenSpec.upto cubeNumbersSpec)) cubeNumbersUptoCard

/-- THE SECOND FORM's CARD OF 'tarnlaw06.CubeSides'. -/
def cubeSidesUptoCard : Claim7 := { stood := { row := cubeSidesUptoRow, standIns := [], harness := (true, "5cc69ec2e0e19811647842e67fa835eaf917491a7f8e6d748da5c5b1d5bda8d0"), looks := false }, kinds := [], alts := [], laidByText := true, laidKinds := [.wider], laidTests := true, laidLooks := .later }
def CubeSidesUptoCardSaid : Prop := Claim7.holds Tryd.pinned (.plain (OpenSpec.upto cubeSidesSpec)) cubeSidesUptoCard
end Rows
end Go.Proofs.YthmljifkncfjgaaDoor
