/-
  NARROWER THAN 'FOR EVERY INPUT', by the rows' own cells (each row's printed sentence says how): GeomBounds: laid · GeomNone: laid.
  DERIVED. THE GIVEN ROWS OF THIS SEAT. 2 by the template 'for every input the law returns true; each argument reads behind the call as it read before'; 0 by the template 'total and deterministic' (their statements: YtebnjbljabjgaaaDoorTotals.lean).
  GIVEN WITH THE SEED: the statements are not yours to turn. If you find one false, say at which input.
  Laid BY PROGRAM, IN A SANDBOX (cutbox-rows.mjs): the forced cells as the released guide's own fill.sh prints them over the translation 50f9563fccf6c841… (all of the seat's roots in one cut). By AI agents, Wed Nov 11 2026. No macro, syntax, notation, axiom, sorry.
-/
import Derived.Test.YtebnjbljabjgaaaDoorChecked
import GoSem.Claim
import GoSem.ClaimJoined
import GoSem.ClaimMapViews
import Derived.JoinedTies
import Derived.KernelRfl
namespace Go.Proofs.YtebnjbljabjgaaaDoor
/- THE CELL 'sum', in the pinned program and in every row, IS THE sha256 OF THE DUMP (.gsa) THAT YtebnjbljabjgaaaDoorProg.lean LOADS. Nothing in Lean hashes anything: it is a label: what it is worth is what the hold of that sum in a sandbox is worth. -/
noncomputable def Tryd.pinned : Pinned := { name := "ytebnjbljabjgaaadoor", sum := "50f9563fccf6c8412d459b1b31cfc6b37556d3a34de1437aef288fb0485879d0", checked := Tryd.checked }
namespace Rows
def none {H : Type} : Left H := { results := [], args := [] }

/- WHAT THE LISTED PACKAGE-LEVEL VARIABLES READ AS WHEN THE CALL BEGINS. Each datum BY PROGRAM (the guide's laid-datum.mjs) off the statement by which the dump's own 'gosem.cut.vars' lays the variable. In a bare row this is a premise. The card (YtebnjbljabjgaaaDoorCards.lean) ties it to the program's text. -/
def laid_tarn_cube_frames {H : Type} : DataW H := .agg [.agg [.agg [.lit (.int .i64 1), .lit (.int .i64 0), .lit (.int .i64 0)], .agg [.lit (.int .i64 0), .lit (.int .i64 1), .lit (.int .i64 0)], .agg [.lit (.int .i64 0), .lit (.int .i64 0), .lit (.int .i64 1)]], .agg [.agg [.lit (.int .i64 0), .lit (.int .i64 1), .lit (.int .i64 0)], .agg [.lit (.int .i64 (-1)), .lit (.int .i64 0), .lit (.int .i64 0)], .agg [.lit (.int .i64 0), .lit (.int .i64 0), .lit (.int .i64 1)]], .agg [.agg [.lit (.int .i64 (-1)), .lit (.int .i64 0), .lit (.int .i64 0)], .agg [.lit (.int .i64 0), .lit (.int .i64 (-1)), .lit (.int .i64 0)], .agg [.lit (.int .i64 0), .lit (.int .i64 0), .lit (.int .i64 1)]], .agg [.agg [.lit (.int .i64 0), .lit (.int .i64 (-1)), .lit (.int .i64 0)], .agg [.lit (.int .i64 1), .lit (.int .i64 0), .lit (.int .i64 0)], .agg [.lit (.int .i64 0), .lit (.int .i64 0), .lit (.int .i64 1)]], .agg [.agg [.lit (.int .i64 0), .lit (.int .i64 0), .lit (.int .i64 1)], .agg [.lit (.int .i64 0), .lit (.int .i64 1), .lit (.int .i64 0)], .agg [.lit (.int .i64 (-1)), .lit (.int .i64 0), .lit (.int .i64 0)]], .agg [.agg [.lit (.int .i64 0), .lit (.int .i64 0), .lit (.int .i64 (-1))], .agg [.lit (.int .i64 0), .lit (.int .i64 1), .lit (.int .i64 0)], .agg [.lit (.int .i64 1), .lit (.int .i64 0), .lit (.int .i64 0)]]]

/-- 'tarnlaw08.GeomBounds': WHATEVER THE INPUT: true; the input reads as it did. -/
def geomBoundsSpec : ChangeSpec := { name := "geomBounds", fn := fun _ => fun
  | [d1, d2, d3] => { results := [.lit (.bool true)], args := [d1, d2, d3] }
  | _ => none }
def geomBoundsRow : OpenClaim := { program := "ytebnjbljabjgaaadoor", sum := "50f9563fccf6c8412d459b1b31cfc6b37556d3a34de1437aef288fb0485879d0", func := "tarn/tarnlaw08.GeomBounds", spec := "geomBounds", inPlace := ["math.Float64bits", "math.Float64frombits", "math.sqrt", "math.RoundToEven"], unfollowed := true, recurses := true, named := ["tarn/cube.frames"], apart := false, laid := [("tarn/cube.frames", laid_tarn_cube_frames)] }
def GeomBoundsSaid : Prop := geomBoundsRow.holds Tryd.pinned (OpenSpec.ofChange geomBoundsSpec)

/-- ITS FALSE NEIGHBOUR: 'it returns false'. Refute it at one input. -/
def geomBoundsWrong : ChangeSpec := { name := "geomBounds", fn := fun _ => fun
  | [d1, d2, d3] => { results := [.lit (.bool false)], args := [d1, d2, d3] }
  | _ => none }
def GeomBoundsWrongFalsely : Prop := geomBoundsRow.holds Tryd.pinned (OpenSpec.ofChange geomBoundsWrong)

/-- 'tarnlaw08.GeomNone': WHATEVER THE INPUT: true; the input reads as it did. -/
def geomNoneSpec : ChangeSpec := { name := "geomNone", fn := fun _ => fun
  | [d] => { results := [.lit (.bool true)], args := [d] }
  | _ => none }
def geomNoneRow : OpenClaim := { program := "ytebnjbljabjgaaadoor", sum := "50f9563fccf6c8412d459b1b31cfc6b37556d3a34de1437aef288fb0485879d0", func := "tarn/tarnlaw08.GeomNone", spec := "geomNone", inPlace := ["math.Float64bits", "math.Float64frombits", "math.sqrt", "math.RoundToEven"], unfollowed := true, recurses := true, named := ["tarn/cube.frames"], apart := false, laid := [("tarn/cube.frames", laid_tarn_cube_frames)] }
def GeomNoneSaid : Prop := geomNoneRow.holds Tryd.pinned (OpenSpec.ofChange geomNoneSpec)

/-- ITS FALSE NEIGHBOUR: 'it returns false'. Refute it at one input. -/
def geomNoneWrong : ChangeSpec := { name := "geomNone", fn := fun _ => fun
  | [d] => { results := [.lit (.bool false)], args := [d] }
  | _ => none }
def GeomNoneWrongFalsely : Prop := geomNoneRow.holds Tryd.pinned (OpenSpec.ofChange geomNoneWrong)

/- THE SECOND FORM. 'bulk': how many values and letters a reading holds, each counted each time it is reached (what is shared counts as often as it is met; a slice's spare places count too). A statement '..UptoSaid' is the law's where the arguments, and the package variables that the reading takes, are together of bulk at most 1048576: NARROWER than '..Said'. Prove '..Said' where nothing that the law and all that it calls make is longer than what came in: it says more and counts as full. Else prove '..UptoSaid'. A law counts once. -/
mutual
def uptoBulk {H : Type} : DataW H → Nat
  | .lit (.string bytes) => bytes.length + 1
  | .lit _ => 1
  | .nil => 1
  | .ptr d => uptoBulk d + 1
  | .slice elems spare => uptoBulkAll elems + uptoBulkAll spare + 1
  | .agg parts => uptoBulkAll parts + 1
  | .iface _ d => uptoBulk d + 1
  | .map entries => uptoBulkEntries entries + 1
  | .held _ => 1
def uptoBulkAll {H : Type} : List (DataW H) → Nat
  | [] => 0
  | d :: r => uptoBulk d + uptoBulkAll r
def uptoBulkEntries {H : Type} : List (Lit × DataW H) → Nat
  | [] => 0
  | x :: r => uptoBulkEntry x + uptoBulkEntries r
def uptoBulkEntry {H : Type} : Lit × DataW H → Nat
  | (.string bytes, d) => bytes.length + uptoBulk d + 1
  | (_, d) => uptoBulk d + 1
 end
def uptoSmall : (H : Type) → List (DataW H) → Bool := fun _ ds => decide (uptoBulkAll ds ≤ 1048576)
def OpenSpec.upto (s : _root_.Go.ChangeSpec) : _root_.Go.OpenSpec := { _root_.Go.OpenSpec.ofChange s with cond := some uptoSmall }

/-- 'tarnlaw08.GeomBounds', WHERE WHAT IT READS IS OF BULK AT MOST 1048576: true; the input reads as it did. -/
def geomBoundsUptoRow : OpenClaim := { program := "ytebnjbljabjgaaadoor", sum := "50f9563fccf6c8412d459b1b31cfc6b37556d3a34de1437aef288fb0485879d0", func := "tarn/tarnlaw08.GeomBounds", spec := "geomBounds", inPlace := ["math.Float64bits", "math.Float64frombits", "math.sqrt", "math.RoundToEven"], unfollowed := true, recurses := true, named := ["tarn/cube.frames"], apart := false, laid := [("tarn/cube.frames", laid_tarn_cube_frames)], narrowed := true }
def GeomBoundsUptoSaid : Prop := geomBoundsUptoRow.holds Tryd.pinned (OpenSpec.upto geomBoundsSpec)

/-- 'tarnlaw08.GeomNone', WHERE WHAT IT READS IS OF BULK AT MOST 1048576: true; the input reads as it did. -/
def geomNoneUptoRow : OpenClaim := { program := "ytebnjbljabjgaaadoor", sum := "50f9563fccf6c8412d459b1b31cfc6b37556d3a34de1437aef288fb0485879d0", func := "tarn/tarnlaw08.GeomNone", spec := "geomNone", inPlace := ["math.Float64bits", "math.Float64frombits", "math.sqrt", "math.RoundToEven"], unfollowed := true, recurses := true, named := ["tarn/cube.frames"], apart := false, laid := [("tarn/cube.frames", laid_tarn_cube_frames)], narrowed := true }
def GeomNoneUptoSaid : Prop := geomNoneUptoRow.holds Tryd.pinned (OpenSpec.upto geomNoneSpec)

end Rows
end Go.Proofs.YtebnjbljabjgaaaDoor
