/-
  NARROWER THAN 'FOR EVERY INPUT', by the rows' own cells (each row's printed sentence says how): ReconSigns: laid · ReconGate: laid · ReconFlat: laid · ReconTurned: laid.
  DERIVED. THE GIVEN ROWS OF THIS SEAT. 4 by the template 'for every input the law returns true; each argument reads behind the call as it read before'; 0 by the template 'total and deterministic' (their statements: YtjgbaenihkplpaaDoorTotals.lean).
  GIVEN WITH THE SEED: the statements are not yours to turn. If you find one false, say at which input.
  Laid BY PROGRAM, IN A SANDBOX (cutbox-rows.mjs): the forced cells as the released guide's own fill.sh prints them over the translation 6afd3a8f5054a23f… (all of the seat's roots in one cut). By AI agents, Wed Nov 11 2026. No macro, syntax, notation, axiom, sorry.
-/
import Derived.Test.YtjgbaenihkplpaaDoorChecked
import GoSem.Claim
import GoSem.ClaimJoined
import GoSem.ClaimMapViews
import Derived.JoinedTies
import Derived.KernelRfl
namespace Go.Proofs.YtjgbaenihkplpaaDoor
/- THE CELL 'sum', in the pinned program and in every row, IS THE sha256 OF THE DUMP (.gsa) THAT YtjgbaenihkplpaaDoorProg.lean LOADS. Nothing in Lean hashes anything: it is a label: what it is worth is what the hold of that sum in a sandbox is worth. -/
noncomputable def Tryd.pinned : Pinned := { name := "ytjgbaenihkplpaadoor", sum := "6afd3a8f5054a23fd1e66336418d22c8826ad2f2e7f9af252b384c4e044a709e", checked := Tryd.checked }
namespace Rows
def none {H : Type} : Left H := { results := [], args := [] }

/- WHAT THE LISTED PACKAGE-LEVEL VARIABLES READ AS WHEN THE CALL BEGINS. Each datum BY PROGRAM (the guide's laid-datum.mjs) off the statement by which the dump's own 'gosem.cut.vars' lays the variable. In a bare row this is a premise. The card (YtjgbaenihkplpaaDoorCards.lean) ties it to the program's text. -/
def laid_tarn_cube_frames {H : Type} : DataW H := .agg [.agg [.agg [.lit (.int .i64 1), .lit (.int .i64 0), .lit (.int .i64 0)], .agg [.lit (.int .i64 0), .lit (.int .i64 1), .lit (.int .i64 0)], .agg [.lit (.int .i64 0), .lit (.int .i64 0), .lit (.int .i64 1)]], .agg [.agg [.lit (.int .i64 0), .lit (.int .i64 1), .lit (.int .i64 0)], .agg [.lit (.int .i64 (-1)), .lit (.int .i64 0), .lit (.int .i64 0)], .agg [.lit (.int .i64 0), .lit (.int .i64 0), .lit (.int .i64 1)]], .agg [.agg [.lit (.int .i64 (-1)), .lit (.int .i64 0), .lit (.int .i64 0)], .agg [.lit (.int .i64 0), .lit (.int .i64 (-1)), .lit (.int .i64 0)], .agg [.lit (.int .i64 0), .lit (.int .i64 0), .lit (.int .i64 1)]], .agg [.agg [.lit (.int .i64 0), .lit (.int .i64 (-1)), .lit (.int .i64 0)], .agg [.lit (.int .i64 1), .lit (.int .i64 0), .lit (.int .i64 0)], .agg [.lit (.int .i64 0), .lit (.int .i64 0), .lit (.int .i64 1)]], .agg [.agg [.lit (.int .i64 0), .lit (.int .i64 0), .lit (.int .i64 1)], .agg [.lit (.int .i64 0), .lit (.int .i64 1), .lit (.int .i64 0)], .agg [.lit (.int .i64 (-1)), .lit (.int .i64 0), .lit (.int .i64 0)]], .agg [.agg [.lit (.int .i64 0), .lit (.int .i64 0), .lit (.int .i64 (-1))], .agg [.lit (.int .i64 0), .lit (.int .i64 1), .lit (.int .i64 0)], .agg [.lit (.int .i64 1), .lit (.int .i64 0), .lit (.int .i64 0)]]]

/-- 'tarnlaw12.ReconSigns': WHATEVER THE INPUT: true; the input reads as it did. -/
def reconSignsSpec : ChangeSpec := { name := "reconSigns", fn := fun _ => fun
  | [d1, d2, d3] => { results := [.lit (.bool true)], args := [d1, d2, d3] }
  | _ => none }
def reconSignsRow : OpenClaim := { program := "ytjgbaenihkplpaadoor", sum := "6afd3a8f5054a23fd1e66336418d22c8826ad2f2e7f9af252b384c4e044a709e", func := "tarn/tarnlaw12.ReconSigns", spec := "reconSigns", inPlace := ["math.Float64bits", "math.Float64frombits", "math.sqrt", "math.RoundToEven"], unfollowed := true, recurses := true, named := ["tarn/cube.frames"], plainKeys := false, apart := false, laid := [("tarn/cube.frames", laid_tarn_cube_frames)] }
def ReconSignsSaid : Prop := reconSignsRow.holds Tryd.pinned (OpenSpec.ofChange reconSignsSpec)

/-- ITS FALSE NEIGHBOUR: 'it returns false'. Refute it at one input. -/
def reconSignsWrong : ChangeSpec := { name := "reconSigns", fn := fun _ => fun
  | [d1, d2, d3] => { results := [.lit (.bool false)], args := [d1, d2, d3] }
  | _ => none }
def ReconSignsWrongFalsely : Prop := reconSignsRow.holds Tryd.pinned (OpenSpec.ofChange reconSignsWrong)

/-- 'tarnlaw12.ReconGate': WHATEVER THE INPUT: true; the input reads as it did. -/
def reconGateSpec : ChangeSpec := { name := "reconGate", fn := fun _ => fun
  | [d1, d2] => { results := [.lit (.bool true)], args := [d1, d2] }
  | _ => none }
def reconGateRow : OpenClaim := { program := "ytjgbaenihkplpaadoor", sum := "6afd3a8f5054a23fd1e66336418d22c8826ad2f2e7f9af252b384c4e044a709e", func := "tarn/tarnlaw12.ReconGate", spec := "reconGate", inPlace := ["math.Float64bits", "math.Float64frombits", "math.sqrt", "math.RoundToEven"], unfollowed := true, recurses := true, named := ["tarn/cube.frames"], plainKeys := false, apart := false, laid := [("tarn/cube.frames", laid_tarn_cube_frames)] }
def ReconGateSaid : Prop := reconGateRow.holds Tryd.pinned (OpenSpec.ofChange reconGateSpec)

/-- ITS FALSE NEIGHBOUR: 'it returns false'. Refute it at one input. -/
def reconGateWrong : ChangeSpec := { name := "reconGate", fn := fun _ => fun
  | [d1, d2] => { results := [.lit (.bool false)], args := [d1, d2] }
  | _ => none }
def ReconGateWrongFalsely : Prop := reconGateRow.holds Tryd.pinned (OpenSpec.ofChange reconGateWrong)

/-- 'tarnlaw12.ReconFlat': WHATEVER THE INPUT: true; the input reads as it did. -/
def reconFlatSpec : ChangeSpec := { name := "reconFlat", fn := fun _ => fun
  | [d1, d2] => { results := [.lit (.bool true)], args := [d1, d2] }
  | _ => none }
def reconFlatRow : OpenClaim := { program := "ytjgbaenihkplpaadoor", sum := "6afd3a8f5054a23fd1e66336418d22c8826ad2f2e7f9af252b384c4e044a709e", func := "tarn/tarnlaw12.ReconFlat", spec := "reconFlat", inPlace := ["math.Float64bits", "math.Float64frombits", "math.sqrt", "math.RoundToEven"], unfollowed := true, recurses := true, named := ["tarn/cube.frames"], plainKeys := false, apart := false, laid := [("tarn/cube.frames", laid_tarn_cube_frames)] }
def ReconFlatSaid : Prop := reconFlatRow.holds Tryd.pinned (OpenSpec.ofChange reconFlatSpec)

/-- ITS FALSE NEIGHBOUR: 'it returns false'. Refute it at one input. -/
def reconFlatWrong : ChangeSpec := { name := "reconFlat", fn := fun _ => fun
  | [d1, d2] => { results := [.lit (.bool false)], args := [d1, d2] }
  | _ => none }
def ReconFlatWrongFalsely : Prop := reconFlatRow.holds Tryd.pinned (OpenSpec.ofChange reconFlatWrong)

/-- 'tarnlaw12.ReconTurned': WHATEVER THE INPUT: true; the input reads as it did. -/
def reconTurnedSpec : ChangeSpec := { name := "reconTurned", fn := fun _ => fun
  | [d1, d2, d3] => { results := [.lit (.bool true)], args := [d1, d2, d3] }
  | _ => none }
def reconTurnedRow : OpenClaim := { program := "ytjgbaenihkplpaadoor", sum := "6afd3a8f5054a23fd1e66336418d22c8826ad2f2e7f9af252b384c4e044a709e", func := "tarn/tarnlaw12.ReconTurned", spec := "reconTurned", inPlace := ["math.Float64bits", "math.Float64frombits", "math.sqrt", "math.RoundToEven"], unfollowed := true, recurses := true, named := ["tarn/cube.frames"], plainKeys := false, apart := false, laid := [("tarn/cube.frames", laid_tarn_cube_frames)] }
def ReconTurnedSaid : Prop := reconTurnedRow.holds Tryd.pinned (OpenSpec.ofChange reconTurnedSpec)

/-- ITS FALSE NEIGHBOUR: 'it returns false'. Refute it at one input. -/
def reconTurnedWrong : ChangeSpec := { name := "reconTurned", fn := fun _ => fun
  | [d1, d2, d3] => { results := [.lit (.bool false)], args := [d1, d2, d3] }
  | _ => none }
def ReconTurnedWrongFalsely : Prop := reconTurnedRow.holds Tryd.pinned (OpenSpec.ofChange reconTurnedWrong)

/- THE SECOND FORM. 'bulk': how many values and letters a reading holds, each counted each time it is reached (what is shared counts as often as it is met; a slice's spare places count too). A statement '..UptoSaid' is the law's where the arguments, and the package variables that the reading takes, are together of bulk at most 1048576: NARROWER than '..Said'. Prove '..Said' where nothing that the law and all that it calls make is longer than what came in: it says more and counts as full. Else prove '..UptoSaid'. A law counts once. -/
mutual
def uptoBulk {H : Type} : DataW H → Nat
  | .lit (.string bytes) => bytes.length + 1
  | .lit _ => 1
  | .nil => 1
  | .ptr d => uptoBulk d + 1
  | .slice elems spare => uptoBulkAll elems + uptoBulkAll spare + 1
  | .agg parts => uptoBulkAll parts + 1
  | .iface _ d => uptoBulk d + 1
  | .map entries => uptoBulkEntries entries + 1
  | .held _ => 1
def uptoBulkAll {H : Type} : List (DataW H) → Nat
  | [] => 0
  | d :: r => uptoBulk d + uptoBulkAll r
def uptoBulkEntries {H : Type} : List (Lit × DataW H) → Nat
  | [] => 0
  | x :: r => uptoBulkEntry x + uptoBulkEntries r
def uptoBulkEntry {H : Type} : Lit × DataW H → Nat
  | (.string bytes, d) => bytes.length + uptoBulk d + 1
  | (_, d) => uptoBulk d + 1
 end
def uptoSmall : (H : Type) → List (DataW H) → Bool := fun _ ds => decide (uptoBulkAll ds ≤ 1048576)
def OpenSpec.upto (s : _root_.Go.ChangeSpec) : _root_.Go.OpenSpec := { _root_.Go.OpenSpec.ofChange s with cond := some uptoSmall }

/-- 'tarnlaw12.ReconSigns', WHERE WHAT IT READS IS OF BULK AT MOST 1048576: true; the input reads as it did. -/
def reconSignsUptoRow : OpenClaim := { program := "ytjgbaenihkplpaadoor", sum := "6afd3a8f5054a23fd1e66336418d22c8826ad2f2e7f9af252b384c4e044a709e", func := "tarn/tarnlaw12.ReconSigns", spec := "reconSigns", inPlace := ["math.Float64bits", "math.Float64frombits", "math.sqrt", "math.RoundToEven"], unfollowed := true, recurses := true, named := ["tarn/cube.frames"], plainKeys := false, apart := false, laid := [("tarn/cube.frames", laid_tarn_cube_frames)], narrowed := true }
def ReconSignsUptoSaid : Prop := reconSignsUptoRow.holds Tryd.pinned (OpenSpec.upto reconSignsSpec)

/-- 'tarnlaw12.ReconGate', WHERE WHAT IT READS IS OF BULK AT MOST 1048576: true; the input reads as it did. -/
def reconGateUptoRow : OpenClaim := { program := "ytjgbaenihkplpaadoor", sum := "6afd3a8f5054a23fd1e66336418d22c8826ad2f2e7f9af252b384c4e044a709e", func := "tarn/tarnlaw12.ReconGate", spec := "reconGate", inPlace := ["math.Float64bits", "math.Float64frombits", "math.sqrt", "math.RoundToEven"], unfollowed := true, recurses := true, named := ["tarn/cube.frames"], plainKeys := false, apart := false, laid := [("tarn/cube.frames", laid_tarn_cube_frames)], narrowed := true }
def ReconGateUptoSaid : Prop := reconGateUptoRow.holds Tryd.pinned (OpenSpec.upto reconGateSpec)

/-- 'tarnlaw12.ReconFlat', WHERE WHAT IT READS IS OF BULK AT MOST 1048576: true; the input reads as it did. -/
def reconFlatUptoRow : OpenClaim := { program := "ytjgbaenihkplpaadoor", sum := "6afd3a8f5054a23fd1e66336418d22c8826ad2f2e7f9af252b384c4e044a709e", func := "tarn/tarnlaw12.ReconFlat", spec := "reconFlat", inPlace := ["math.Float64bits", "math.Float64frombits", "math.sqrt", "math.RoundToEven"], unfollowed := true, recurses := true, named := ["tarn/cube.frames"], plainKeys := false, apart := false, laid := [("tarn/cube.frames", laid_tarn_cube_frames)], narrowed := true }
def ReconFlatUptoSaid : Prop := reconFlatUptoRow.holds Tryd.pinned (OpenSpec.upto reconFlatSpec)

/-- 'tarnlaw12.ReconTurned', WHERE WHAT IT READS IS OF BULK AT MOST 1048576: true; the input reads as it did. -/
def reconTurnedUptoRow : OpenClaim := { program := "ytjgbaenihkplpaadoor", sum := "6afd3a8f5054a23fd1e66336418d22c8826ad2f2e7f9af252b384c4e044a709e", func := "tarn/tarnlaw12.ReconTurned", spec := "reconTurned", inPlace := ["math.Float64bits", "math.Float64frombits", "math.sqrt", "math.RoundToEven"], unfollowed := true, recurses := true, named := ["tarn/cube.frames"], plainKeys := false, apart := false, laid := [("tarn/cube.frames", laid_tarn_cube_frames)], narrowed := true }
def ReconTurnedUptoSaid : Prop := reconTurnedUptoRow.holds Tryd.pinned (OpenSpec.upto reconTurnedSpec)

end Rows
end Go.Proofs.YtjgbaenihkplpaaDoor
