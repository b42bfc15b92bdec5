/-
  NARROWER THAN 'FOR EVERY INPUT', by the rows' own cells (each row's printed sentence says how): SplitParts: laid · SplitShown: laid · SplitKeeps: laid.
  DERIVED. THE GIVEN ROWS OF THIS SEAT. 3 by the template 'for every input the law returns true; each argument reads behind the call as it read before'; 0 by the template 'total and deterministic' (their statements: YtjheiemgfibgpaaDoorTotals.lean).
  GIVEN WITH THE SEED: the statements are not yours to turn. If you find one false, say at which input.
  Laid BY PROGRAM, IN A SANDBOX (cutbox-rows.mjs): the forced cells as the released guide's own fill.sh prints them over the translation 5463a3901d491486… (all of the seat's roots in one cut). By AI agents, Wed Nov 11 2026. No macro, syntax, notation, axiom, sorry.
-/
import Derived.Test.YtjheiemgfibgpaaDoorChecked
import GoSem.Claim
import GoSem.ClaimJoined
import GoSem.ClaimMapViews
import Derived.JoinedTies
import Derived.KernelRfl
namespace Go.Proofs.YtjheiemgfibgpaaDoor
/- THE CELL 'sum', in the pinned program and in every row, IS THE sha256 OF THE DUMP (.gsa) THAT YtjheiemgfibgpaaDoorProg.lean LOADS. Nothing in Lean hashes anything: it is a label: what it is worth is what the hold of that sum in a sandbox is worth. -/
noncomputable def Tryd.pinned : Pinned := { name := "ytjheiemgfibgpaadoor", sum := "5463a3901d491486bd1b64cb02d9961e8c18c50bc2ac1ca2b33d3eb3c0f733ea", checked := Tryd.checked }
namespace Rows
def none {H : Type} : Left H := { results := [], args := [] }

/- WHAT THE LISTED PACKAGE-LEVEL VARIABLES READ AS WHEN THE CALL BEGINS. Each datum BY PROGRAM (the guide's laid-datum.mjs) off the statement by which the dump's own 'gosem.cut.vars' lays the variable. In a bare row this is a premise. The card (YtjheiemgfibgpaaDoorCards.lean) ties it to the program's text. -/
def laid_tarn_cube_frames {H : Type} : DataW H := .agg [.agg [.agg [.lit (.int .i64 1), .lit (.int .i64 0), .lit (.int .i64 0)], .agg [.lit (.int .i64 0), .lit (.int .i64 1), .lit (.int .i64 0)], .agg [.lit (.int .i64 0), .lit (.int .i64 0), .lit (.int .i64 1)]], .agg [.agg [.lit (.int .i64 0), .lit (.int .i64 1), .lit (.int .i64 0)], .agg [.lit (.int .i64 (-1)), .lit (.int .i64 0), .lit (.int .i64 0)], .agg [.lit (.int .i64 0), .lit (.int .i64 0), .lit (.int .i64 1)]], .agg [.agg [.lit (.int .i64 (-1)), .lit (.int .i64 0), .lit (.int .i64 0)], .agg [.lit (.int .i64 0), .lit (.int .i64 (-1)), .lit (.int .i64 0)], .agg [.lit (.int .i64 0), .lit (.int .i64 0), .lit (.int .i64 1)]], .agg [.agg [.lit (.int .i64 0), .lit (.int .i64 (-1)), .lit (.int .i64 0)], .agg [.lit (.int .i64 1), .lit (.int .i64 0), .lit (.int .i64 0)], .agg [.lit (.int .i64 0), .lit (.int .i64 0), .lit (.int .i64 1)]], .agg [.agg [.lit (.int .i64 0), .lit (.int .i64 0), .lit (.int .i64 1)], .agg [.lit (.int .i64 0), .lit (.int .i64 1), .lit (.int .i64 0)], .agg [.lit (.int .i64 (-1)), .lit (.int .i64 0), .lit (.int .i64 0)]], .agg [.agg [.lit (.int .i64 0), .lit (.int .i64 0), .lit (.int .i64 (-1))], .agg [.lit (.int .i64 0), .lit (.int .i64 1), .lit (.int .i64 0)], .agg [.lit (.int .i64 1), .lit (.int .i64 0), .lit (.int .i64 0)]]]

/-- 'tarnlaw22.SplitParts': WHATEVER THE INPUT: true; the input reads as it did. -/
def splitPartsSpec : ChangeSpec := { name := "splitParts", fn := fun _ => fun
  | [d1, d2] => { results := [.lit (.bool true)], args := [d1, d2] }
  | _ => none }
def splitPartsRow : OpenClaim := { program := "ytjheiemgfibgpaadoor", sum := "5463a3901d491486bd1b64cb02d9961e8c18c50bc2ac1ca2b33d3eb3c0f733ea", func := "tarn/tarnlaw22.SplitParts", spec := "splitParts", inPlace := ["math.Float64bits", "math.Float64frombits", "math.sqrt", "math.RoundToEven"], unfollowed := true, recurses := true, named := ["tarn/cube.frames"], plainKeys := false, apart := false, laid := [("tarn/cube.frames", laid_tarn_cube_frames)] }
def SplitPartsSaid : Prop := splitPartsRow.holds Tryd.pinned (OpenSpec.ofChange splitPartsSpec)

/-- ITS FALSE NEIGHBOUR: 'it returns false'. Refute it at one input. -/
def splitPartsWrong : ChangeSpec := { name := "splitParts", fn := fun _ => fun
  | [d1, d2] => { results := [.lit (.bool false)], args := [d1, d2] }
  | _ => none }
def SplitPartsWrongFalsely : Prop := splitPartsRow.holds Tryd.pinned (OpenSpec.ofChange splitPartsWrong)

/-- 'tarnlaw22.SplitShown': WHATEVER THE INPUT: true; the input reads as it did. -/
def splitShownSpec : ChangeSpec := { name := "splitShown", fn := fun _ => fun
  | [d1, d2, d3] => { results := [.lit (.bool true)], args := [d1, d2, d3] }
  | _ => none }
def splitShownRow : OpenClaim := { program := "ytjheiemgfibgpaadoor", sum := "5463a3901d491486bd1b64cb02d9961e8c18c50bc2ac1ca2b33d3eb3c0f733ea", func := "tarn/tarnlaw22.SplitShown", spec := "splitShown", inPlace := ["math.Float64bits", "math.Float64frombits", "math.sqrt", "math.RoundToEven"], unfollowed := true, recurses := true, named := ["tarn/cube.frames"], plainKeys := false, apart := false, laid := [("tarn/cube.frames", laid_tarn_cube_frames)] }
def SplitShownSaid : Prop := splitShownRow.holds Tryd.pinned (OpenSpec.ofChange splitShownSpec)

/-- ITS FALSE NEIGHBOUR: 'it returns false'. Refute it at one input. -/
def splitShownWrong : ChangeSpec := { name := "splitShown", fn := fun _ => fun
  | [d1, d2, d3] => { results := [.lit (.bool false)], args := [d1, d2, d3] }
  | _ => none }
def SplitShownWrongFalsely : Prop := splitShownRow.holds Tryd.pinned (OpenSpec.ofChange splitShownWrong)

/-- 'tarnlaw22.SplitKeeps': WHATEVER THE INPUT: true; the input reads as it did. -/
def splitKeepsSpec : ChangeSpec := { name := "splitKeeps", fn := fun _ => fun
  | [d1, d2, d3] => { results := [.lit (.bool true)], args := [d1, d2, d3] }
  | _ => none }
def splitKeepsRow : OpenClaim := { program := "ytjheiemgfibgpaadoor", sum := "5463a3901d491486bd1b64cb02d9961e8c18c50bc2ac1ca2b33d3eb3c0f733ea", func := "tarn/tarnlaw22.SplitKeeps", spec := "splitKeeps", inPlace := ["math.Float64bits", "math.Float64frombits", "math.sqrt", "math.RoundToEven"], unfollowed := true, recurses := true, named := ["tarn/cube.frames"], plainKeys := false, apart := false, laid := [("tarn/cube.frames", laid_tarn_cube_frames)] }
def SplitKeepsSaid : Prop := splitKeepsRow.holds Tryd.pinned (OpenSpec.ofChange splitKeepsSpec)

/-- ITS FALSE NEIGHBOUR: 'it returns false'. Refute it at one input. -/
def splitKeepsWrong : ChangeSpec := { name := "splitKeeps", fn := fun _ => fun
  | [d1, d2, d3] => { results := [.lit (.bool false)], args := [d1, d2, d3] }
  | _ => none }
def SplitKeepsWrongFalsely : Prop := splitKeepsRow.holds Tryd.pinned (OpenSpec.ofChange splitKeepsWrong)

/- THE SECOND FORM. 'bulk': how many values and letters a reading holds, each counted each time it is reached (what is shared counts as often as it is met; a slice's spare places count too). A statement '..UptoSaid' is the law's where the arguments, and the package variables that the reading takes, are together of bulk at most 1048576: NARROWER than '..Said'. Prove '..Said' where nothing that the law and all that it calls make is longer than what came in: it says more and counts as full. Else prove '..UptoSaid'. A law counts once. -/
mutual
def uptoBulk {H : Type} : DataW H → Nat
  | .lit (.string bytes) => bytes.length + 1
  | .lit _ => 1
  | .nil => 1
  | .ptr d => uptoBulk d + 1
  | .slice elems spare => uptoBulkAll elems + uptoBulkAll spare + 1
  | .agg parts => uptoBulkAll parts + 1
  | .iface _ d => uptoBulk d + 1
  | .map entries => uptoBulkEntries entries + 1
  | .held _ => 1
def uptoBulkAll {H : Type} : List (DataW H) → Nat
  | [] => 0
  | d :: r => uptoBulk d + uptoBulkAll r
def uptoBulkEntries {H : Type} : List (Lit × DataW H) → Nat
  | [] => 0
  | x :: r => uptoBulkEntry x + uptoBulkEntries r
def uptoBulkEntry {H : Type} : Lit × DataW H → Nat
  | (.string bytes, d) => bytes.length + uptoBulk d + 1
  | (_, d) => uptoBulk d + 1
 end
def uptoSmall : (H : Type) → List (DataW H) → Bool := fun _ ds => decide (uptoBulkAll ds ≤ 1048576)
def OpenSpec.upto (s : _root_.Go.ChangeSpec) : _root_.Go.OpenSpec := { _root_.Go.OpenSpec.ofChange s with cond := some uptoSmall }

/-- 'tarnlaw22.SplitParts', WHERE WHAT IT READS IS OF BULK AT MOST 1048576: true; the input reads as it did. -/
def splitPartsUptoRow : OpenClaim := { program := "ytjheiemgfibgpaadoor", sum := "5463a3901d491486bd1b64cb02d9961e8c18c50bc2ac1ca2b33d3eb3c0f733ea", func := "tarn/tarnlaw22.SplitParts", spec := "splitParts", inPlace := ["math.Float64bits", "math.Float64frombits", "math.sqrt", "math.RoundToEven"], unfollowed := true, recurses := true, named := ["tarn/cube.frames"], plainKeys := false, apart := false, laid := [("tarn/cube.frames", laid_tarn_cube_frames)], narrowed := true }
def SplitPartsUptoSaid : Prop := splitPartsUptoRow.holds Tryd.pinned (OpenSpec.upto splitPartsSpec)

/-- 'tarnlaw22.SplitShown', WHERE WHAT IT READS IS OF BULK AT MOST 1048576: true; the input reads as it did. -/
def splitShownUptoRow : OpenClaim := { program := "ytjheiemgfibgpaadoor", sum := "5463a3901d491486bd1b64cb02d9961e8c18c50bc2ac1ca2b33d3eb3c0f733ea", func := "tarn/tarnlaw22.SplitShown", spec := "splitShown", inPlace := ["math.Float64bits", "math.Float64frombits", "math.sqrt", "math.RoundToEven"], unfollowed := true, recurses := true, named := ["tarn/cube.frames"], plainKeys := false, apart := false, laid := [("tarn/cube.frames", laid_tarn_cube_frames)], narrowed := true }
def SplitShownUptoSaid : Prop := splitShownUptoRow.holds Tryd.pinned (OpenSpec.upto splitShownSpec)

/-- 'tarnlaw22.SplitKeeps', WHERE WHAT IT READS IS OF BULK AT MOST 1048576: true; the input reads as it did. -/
def splitKeepsUptoRow : OpenClaim := { program := "ytjheiemgfibgpaadoor", sum := "5463a3901d491486bd1b64cb02d9961e8c18c50bc2ac1ca2b33d3eb3c0f733ea", func := "tarn/tarnlaw22.SplitKeeps", spec := "splitKeeps", inPlace := ["math.Float64bits", "math.Float64frombits", "math.sqrt", "math.RoundToEven"], unfollowed := true, recurses := true, named := ["tarn/cube.frames"], plainKeys := false, apart := false, laid := [("tarn/cube.frames", laid_tarn_cube_frames)], narrowed := true }
def SplitKeepsUptoSaid : Prop := splitKeepsUptoRow.holds Tryd.pinned (OpenSpec.upto splitKeepsSpec)

end Rows
end Go.Proofs.YtjheiemgfibgpaaDoor
