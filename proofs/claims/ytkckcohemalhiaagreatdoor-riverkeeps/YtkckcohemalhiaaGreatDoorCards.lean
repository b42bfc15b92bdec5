/-
  DERIVED. GIVEN WITH THE SEED: THE CARDS: each row of YtkckcohemalhiaaGreatDoorRows.lean that lists a variable, with what it lists TIED to the program's text (the seventh form; the later family's looks); each row that meets fmt, with fmt's text TOLD by the authors' own Lean function (tested against real Go, not proved from fmt's source: count such statements apart). THE CARD IS WHAT COUNTS. Prove the row's statement (the work); the ties are given (YtkckcohemalhiaaGreatDoorTie.lean); close each card by the builder's one call (the guide's Derived/Test/ToyasCard.lean, 'card_holds'). Laid BY PROGRAM, IN A SANDBOX (cutbox-door.mjs). By AI agents, Wed Nov 11 2026. No macro, syntax, notation, axiom, sorry.
-/
import Derived.Test.YtkckcohemalhiaaGreatDoorRows
import GoSem.ClaimSeven
namespace Go.Proofs.YtkckcohemalhiaaGreatDoor
namespace Rows

/-- THE TIED CARD OF 'tarnlaw19.RiverKept'. -/
def riverKeptCard : Claim7 := { stood := { row := riverKeptRow, standIns := [], harness := (true, "39b57b1c613ac44ff5da4abf27e4a3daaed47fc61677fb72422dc74db74f6847"), looks := false }, kinds := [], alts := [], laidByText := true, laidKinds := [.wider], laidTests := true, laidLooks := .later }
def RiverKeptCardSaid : Prop := Claim7.holds Tryz.pinned (.plain (OpenSpec.ofChange riverKeptSpec)) riverKeptCard

/-- THE TIED CARD OF 'tarnlaw19.RiverDownhill'. -/
def riverDownhillCard : Claim7 := { stood := { row := riverDownhillRow, standIns := [], harness := (true, "39b57b1c613ac44ff5da4abf27e4a3daaed47fc61677fb72422dc74db74f6847"), looks := false }, kinds := [], alts := [], laidByText := true, laidKinds := [.wider], laidTests := true, laidLooks := .later }
def RiverDownhillCardSaid : Prop := Claim7.holds Tryz.pinned (.plain (OpenSpec.ofChange riverDownhillSpec)) riverDownhillCard

/-- THE TIED CARD OF 'tarnlaw19.RiverOrder'. -/
def riverOrderCard : Claim7 := { stood := { row := riverOrderRow, standIns := [], harness := (true, "39b57b1c613ac44ff5da4abf27e4a3daaed47fc61677fb72422dc74db74f6847"), looks := false }, kinds := [], alts := [], laidByText := true, laidKinds := [.wider], laidTests := true, laidLooks := .later }
def RiverOrderCardSaid : Prop := Claim7.holds Tryz.pinned (.plain (OpenSpec.ofChange riverOrderSpec)) riverOrderCard

/-- THE TIED CARD OF 'tarnlaw19.RiverDeep'. -/
def riverDeepCard : Claim7 := { stood := { row := riverDeepRow, standIns := [], harness := (true, "39b57b1c613ac44ff5da4abf27e4a3daaed47fc61677fb72422dc74db74f6847"), looks := false }, kinds := [], alts := [], laidByText := true, laidKinds := [.wider], laidTests := true, laidLooks := .later }
def RiverDeepCardSaid : Prop := Claim7.holds Tryz.pinned (.plain (OpenSpec.ofChange riverDeepSpec)) riverDeepCard

/-- THE TIED CARD OF 'tarnlaw19.RiverKeeps'. -/
def riverKeepsCard : Claim7 := { stood := { row := riverKeepsRow, standIns := [], harness := (true, "39b57b1c613ac44ff5da4abf27e4a3daaed47fc61677fb72422dc74db74f6847"), looks := false }, kinds := [], alts := [], laidByText := true, laidKinds := [.wider], laidTests := true, laidLooks := .later }
def RiverKeepsCardSaid : Prop := Claim7.holds Tryz.pinned (.plain (OpenSpec.ofChange riverKeepsSpec)) riverKeepsCard

/-- THE SECOND FORM's CARD OF 'tarnlaw19.RiverKept'. -/
def riverKeptUptoCard : Claim7 := { stood := { row := riverKeptUptoRow, standIns := [], harness := (true, "39b57b1c613ac44ff5da4abf27e4a3daaed47fc61677fb72422dc74db74f6847"), looks := false }, kinds := [], alts := [], laidByText := true, laidKinds := [.wider], laidTests := true, laidLooks := .later }
def RiverKeptUptoCardSaid : Prop := Claim7.holds Tryz.pinned (.plain (OpenSpec.upto riverKeptSpec)) riverKeptUptoCard

/-- THE SECOND FORM's CARD OF 'tarnlaw19.RiverDownhill'. -/
def riverDownhillUptoCard : Claim7 := { stood := { row := riverDownhillUptoRow, standIns := [], harness := (true, "39b57b1c613ac44ff5da4abf27e4a3daaed47fc61677fb72422dc74db74f6847"), looks := false }, kinds := [], alts := [], laidByText := true, laidKinds := [.wider], laidTests := true, laidLooks := .later }
def RiverDownhillUptoCardSaid : Prop := Claim7.holds Tryz.pinned (.plain (OpenSpec.upto riverDownhillSpec)) riverDownhillUptoCard

/-- THE SECOND FORM's CARD OF 'tarnlaw19.RiverOrder'. -/
def riverOrderUptoCard : Claim7 := { stood := { row := riverOrderUptoRow, standIns := [], harness := (true, "39b57b1c613ac44ff5da4abf27e4a3daaed47fc61677fb72422dc74db74f6847"), looks := false }, kinds := [], alts := [], laidByText := true, laidKinds := [.wider], laidTests := true, laidLooks := .later }
def RiverOrderUptoCardSaid : Prop := Claim7.holds Tryz.pinned (.plain (OpenSpec.upto riverOrderSpec)) riverOrderUptoCard

/-- THE SECOND FORM's CARD OF 'tarnlaw19.RiverDeep'. -/
def riverDeepUptoCard : Claim7 := { stood := { row := riverDeepUptoRow, standIns := [], harness := (true, "39b57b1c613ac44ff5da4abf27e4a3daaed47fc61677fb72422dc74db74f6847"), looks := false }, kinds := [], alts := [], laidByText := true, laidKinds := [.wider], laidTests := true, laidLooks := .later }
def RiverDeepUptoCardSaid : Prop := Claim7.holds Tryz.pinned (.plain (OpenSpec.upto riverDeepSpec)) riverDeepUptoCard

/-- THE SECOND FORM's CARD OF 'tarnlaw19.RiverKeeps'. -/
def riverKeepsUptoCard : Claim7 := { stood := { row := riverKeepsUptoRow, standIns := [], harness := (true, "39b57b1c613ac44ff5da4abf27e4a3daaed47fc61677fb72422dc74db74f6847"), looks := false }, kinds := [], alts := [], laidByText := true, laidKinds := [.wider], laidTests := true, laidLooks := .later }
def RiverKeepsUptoCardSaid : Prop := Claim7.holds Tryz.pinned (.plain (OpenSpec.upto riverKeepsSpec)) riverKeepsUptoCard
end Rows
end Go.Proofs.YtkckcohemalhiaaGreatDoor
