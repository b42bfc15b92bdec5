/-
  NARROWER THAN 'FOR EVERY INPUT', by the rows' own cells (each row's printed sentence says how): RiverKept: laid · RiverDownhill: laid · RiverOrder: laid · RiverDeep: laid · RiverKeeps: laid.
  DERIVED. THE GIVEN ROWS OF THIS SEAT. 5 by the template 'for every input the law returns true; each argument reads behind the call as it read before'; 0 by the template 'total and deterministic' (their statements: YtkckcohemalhiaaGreatDoorTotals.lean).
  GIVEN WITH THE SEED: the statements are not yours to turn. If you find one false, say at which input.
  Laid BY PROGRAM, IN A SANDBOX (cutbox-rows.mjs): the forced cells as the released guide's own fill.sh prints them over the translation dfd5cbf64182f511… (all of the seat's roots in one cut). By AI agents, Wed Nov 11 2026. No macro, syntax, notation, axiom, sorry.
-/
import Derived.Test.YtkckcohemalhiaaGreatDoorChecked
import GoSem.Claim
import GoSem.ClaimJoined
import GoSem.ClaimMapViews
import Derived.JoinedTies
import Derived.KernelRfl
namespace Go.Proofs.YtkckcohemalhiaaGreatDoor
/- THE CELL 'sum', in the pinned program and in every row, IS THE sha256 OF THE DUMP (.gsa) THAT YtkckcohemalhiaaGreatDoorProg.lean LOADS. Nothing in Lean hashes anything: it is a label: what it is worth is what the hold of that sum in a sandbox is worth. -/
noncomputable def Tryz.pinned : Pinned := { name := "ytkckcohemalhiaagreatdoor", sum := "dfd5cbf64182f511f0873c63f6858749b7e563b47a09e81c1431a6f7fe4bbe91", checked := Tryz.checked }
namespace Rows
def none {H : Type} : Left H := { results := [], args := [] }

/- WHAT THE LISTED PACKAGE-LEVEL VARIABLES READ AS WHEN THE CALL BEGINS. Each datum BY PROGRAM (the guide's laid-datum.mjs) off the statement by which the dump's own 'gosem.cut.vars' lays the variable. In a bare row this is a premise. The card (YtkckcohemalhiaaGreatDoorCards.lean) ties it to the program's text. -/
def laid_tarn_cube_frames {H : Type} : DataW H := .agg [.agg [.agg [.lit (.int .i64 1), .lit (.int .i64 0), .lit (.int .i64 0)], .agg [.lit (.int .i64 0), .lit (.int .i64 1), .lit (.int .i64 0)], .agg [.lit (.int .i64 0), .lit (.int .i64 0), .lit (.int .i64 1)]], .agg [.agg [.lit (.int .i64 0), .lit (.int .i64 1), .lit (.int .i64 0)], .agg [.lit (.int .i64 (-1)), .lit (.int .i64 0), .lit (.int .i64 0)], .agg [.lit (.int .i64 0), .lit (.int .i64 0), .lit (.int .i64 1)]], .agg [.agg [.lit (.int .i64 (-1)), .lit (.int .i64 0), .lit (.int .i64 0)], .agg [.lit (.int .i64 0), .lit (.int .i64 (-1)), .lit (.int .i64 0)], .agg [.lit (.int .i64 0), .lit (.int .i64 0), .lit (.int .i64 1)]], .agg [.agg [.lit (.int .i64 0), .lit (.int .i64 (-1)), .lit (.int .i64 0)], .agg [.lit (.int .i64 1), .lit (.int .i64 0), .lit (.int .i64 0)], .agg [.lit (.int .i64 0), .lit (.int .i64 0), .lit (.int .i64 1)]], .agg [.agg [.lit (.int .i64 0), .lit (.int .i64 0), .lit (.int .i64 1)], .agg [.lit (.int .i64 0), .lit (.int .i64 1), .lit (.int .i64 0)], .agg [.lit (.int .i64 (-1)), .lit (.int .i64 0), .lit (.int .i64 0)]], .agg [.agg [.lit (.int .i64 0), .lit (.int .i64 0), .lit (.int .i64 (-1))], .agg [.lit (.int .i64 0), .lit (.int .i64 1), .lit (.int .i64 0)], .agg [.lit (.int .i64 1), .lit (.int .i64 0), .lit (.int .i64 0)]]]

/-- 'tarnlaw19.RiverKept': WHATEVER THE INPUT: true; the input reads as it did. -/
def riverKeptSpec : ChangeSpec := { name := "riverKept", fn := fun _ => fun
  | [d1, d2] => { results := [.lit (.bool true)], args := [d1, d2] }
  | _ => none }
def riverKeptRow : OpenClaim := { program := "ytkckcohemalhiaagreatdoor", sum := "dfd5cbf64182f511f0873c63f6858749b7e563b47a09e81c1431a6f7fe4bbe91", func := "tarn/tarnlaw19.RiverKept", spec := "riverKept", inPlace := ["math.Float64bits", "math.Float64frombits", "math.sqrt", "math.RoundToEven"], unfollowed := true, recurses := true, named := ["tarn/cube.frames", "math/bits.divideError", "math/bits.overflowError"], plainKeys := false, apart := false, laid := [("tarn/cube.frames", laid_tarn_cube_frames)] }
def RiverKeptSaid : Prop := riverKeptRow.holds Tryz.pinned (OpenSpec.ofChange riverKeptSpec)

/-- ITS FALSE NEIGHBOUR: 'it returns false'. Refute it at one input. -/
def riverKeptWrong : ChangeSpec := { name := "riverKept", fn := fun _ => fun
  | [d1, d2] => { results := [.lit (.bool false)], args := [d1, d2] }
  | _ => none }
def RiverKeptWrongFalsely : Prop := riverKeptRow.holds Tryz.pinned (OpenSpec.ofChange riverKeptWrong)

/-- 'tarnlaw19.RiverDownhill': WHATEVER THE INPUT: true; the input reads as it did. -/
def riverDownhillSpec : ChangeSpec := { name := "riverDownhill", fn := fun _ => fun
  | [d1, d2, d3] => { results := [.lit (.bool true)], args := [d1, d2, d3] }
  | _ => none }
def riverDownhillRow : OpenClaim := { program := "ytkckcohemalhiaagreatdoor", sum := "dfd5cbf64182f511f0873c63f6858749b7e563b47a09e81c1431a6f7fe4bbe91", func := "tarn/tarnlaw19.RiverDownhill", spec := "riverDownhill", inPlace := ["math.Float64bits", "math.Float64frombits", "math.sqrt", "math.RoundToEven"], unfollowed := true, recurses := true, named := ["tarn/cube.frames", "math/bits.divideError", "math/bits.overflowError"], plainKeys := false, apart := false, laid := [("tarn/cube.frames", laid_tarn_cube_frames)] }
def RiverDownhillSaid : Prop := riverDownhillRow.holds Tryz.pinned (OpenSpec.ofChange riverDownhillSpec)

/-- ITS FALSE NEIGHBOUR: 'it returns false'. Refute it at one input. -/
def riverDownhillWrong : ChangeSpec := { name := "riverDownhill", fn := fun _ => fun
  | [d1, d2, d3] => { results := [.lit (.bool false)], args := [d1, d2, d3] }
  | _ => none }
def RiverDownhillWrongFalsely : Prop := riverDownhillRow.holds Tryz.pinned (OpenSpec.ofChange riverDownhillWrong)

/-- 'tarnlaw19.RiverOrder': WHATEVER THE INPUT: true; the input reads as it did. -/
def riverOrderSpec : ChangeSpec := { name := "riverOrder", fn := fun _ => fun
  | [d] => { results := [.lit (.bool true)], args := [d] }
  | _ => none }
def riverOrderRow : OpenClaim := { program := "ytkckcohemalhiaagreatdoor", sum := "dfd5cbf64182f511f0873c63f6858749b7e563b47a09e81c1431a6f7fe4bbe91", func := "tarn/tarnlaw19.RiverOrder", spec := "riverOrder", inPlace := ["math.Float64bits", "math.Float64frombits", "math.sqrt", "math.RoundToEven"], unfollowed := true, recurses := true, named := ["tarn/cube.frames", "math/bits.divideError", "math/bits.overflowError"], plainKeys := false, apart := false, laid := [("tarn/cube.frames", laid_tarn_cube_frames)] }
def RiverOrderSaid : Prop := riverOrderRow.holds Tryz.pinned (OpenSpec.ofChange riverOrderSpec)

/-- ITS FALSE NEIGHBOUR: 'it returns false'. Refute it at one input. -/
def riverOrderWrong : ChangeSpec := { name := "riverOrder", fn := fun _ => fun
  | [d] => { results := [.lit (.bool false)], args := [d] }
  | _ => none }
def RiverOrderWrongFalsely : Prop := riverOrderRow.holds Tryz.pinned (OpenSpec.ofChange riverOrderWrong)

/-- 'tarnlaw19.RiverDeep': WHATEVER THE INPUT: true; the input reads as it did. -/
def riverDeepSpec : ChangeSpec := { name := "riverDeep", fn := fun _ => fun
  | [d1, d2] => { results := [.lit (.bool true)], args := [d1, d2] }
  | _ => none }
def riverDeepRow : OpenClaim := { program := "ytkckcohemalhiaagreatdoor", sum := "dfd5cbf64182f511f0873c63f6858749b7e563b47a09e81c1431a6f7fe4bbe91", func := "tarn/tarnlaw19.RiverDeep", spec := "riverDeep", inPlace := ["math.Float64bits", "math.Float64frombits", "math.sqrt", "math.RoundToEven"], unfollowed := true, recurses := true, named := ["tarn/cube.frames", "math/bits.divideError", "math/bits.overflowError"], plainKeys := false, apart := false, laid := [("tarn/cube.frames", laid_tarn_cube_frames)] }
def RiverDeepSaid : Prop := riverDeepRow.holds Tryz.pinned (OpenSpec.ofChange riverDeepSpec)

/-- ITS FALSE NEIGHBOUR: 'it returns false'. Refute it at one input. -/
def riverDeepWrong : ChangeSpec := { name := "riverDeep", fn := fun _ => fun
  | [d1, d2] => { results := [.lit (.bool false)], args := [d1, d2] }
  | _ => none }
def RiverDeepWrongFalsely : Prop := riverDeepRow.holds Tryz.pinned (OpenSpec.ofChange riverDeepWrong)

/-- 'tarnlaw19.RiverKeeps': WHATEVER THE INPUT: true; the input reads as it did. -/
def riverKeepsSpec : ChangeSpec := { name := "riverKeeps", fn := fun _ => fun
  | [d1, d2] => { results := [.lit (.bool true)], args := [d1, d2] }
  | _ => none }
def riverKeepsRow : OpenClaim := { program := "ytkckcohemalhiaagreatdoor", sum := "dfd5cbf64182f511f0873c63f6858749b7e563b47a09e81c1431a6f7fe4bbe91", func := "tarn/tarnlaw19.RiverKeeps", spec := "riverKeeps", inPlace := ["math.Float64bits", "math.Float64frombits", "math.sqrt", "math.RoundToEven"], unfollowed := true, recurses := true, named := ["tarn/cube.frames", "math/bits.divideError", "math/bits.overflowError"], plainKeys := false, apart := false, laid := [("tarn/cube.frames", laid_tarn_cube_frames)] }
def RiverKeepsSaid : Prop := riverKeepsRow.holds Tryz.pinned (OpenSpec.ofChange riverKeepsSpec)

/-- ITS FALSE NEIGHBOUR: 'it returns false'. Refute it at one input. -/
def riverKeepsWrong : ChangeSpec := { name := "riverKeeps", fn := fun _ => fun
  | [d1, d2] => { results := [.lit (.bool false)], args := [d1, d2] }
  | _ => none }
def RiverKeepsWrongFalsely : Prop := riverKeepsRow.holds Tryz.pinned (OpenSpec.ofChange riverKeepsWrong)

/- THE SECOND FORM. 'bulk': how many values and letters a reading holds, each counted each time it is reached (what is shared counts as often as it is met; a slice's spare places count too). A statement '..UptoSaid' is the law's where the arguments, and the package variables that the reading takes, are together of bulk at most 1048576: NARROWER than '..Said'. Prove '..Said' where nothing that the law and all that it calls make is longer than what came in: it says more and counts as full. Else prove '..UptoSaid'. A law counts once. -/
mutual
def uptoBulk {H : Type} : DataW H → Nat
  | .lit (.string bytes) => bytes.length + 1
  | .lit _ => 1
  | .nil => 1
  | .ptr d => uptoBulk d + 1
  | .slice elems spare => uptoBulkAll elems + uptoBulkAll spare + 1
  | .agg parts => uptoBulkAll parts + 1
  | .iface _ d => uptoBulk d + 1
  | .map entries => uptoBulkEntries entries + 1
  | .held _ => 1
def uptoBulkAll {H : Type} : List (DataW H) → Nat
  | [] => 0
  | d :: r => uptoBulk d + uptoBulkAll r
def uptoBulkEntries {H : Type} : List (Lit × DataW H) → Nat
  | [] => 0
  | x :: r => uptoBulkEntry x + uptoBulkEntries r
def uptoBulkEntry {H : Type} : Lit × DataW H → Nat
  | (.string bytes, d) => bytes.length + uptoBulk d + 1
  | (_, d) => uptoBulk d + 1
 end
def uptoSmall : (H : Type) → List (DataW H) → Bool := fun _ ds => decide (uptoBulkAll ds ≤ 1048576)
def OpenSpec.upto (s : _root_.Go.ChangeSpec) : _root_.Go.OpenSpec := { _root_.Go.OpenSpec.ofChange s with cond := some uptoSmall }

/-- 'tarnlaw19.RiverKept', WHERE WHAT IT READS IS OF BULK AT MOST 1048576: true; the input reads as it did. -/
def riverKeptUptoRow : OpenClaim := { program := "ytkckcohemalhiaagreatdoor", sum := "dfd5cbf64182f511f0873c63f6858749b7e563b47a09e81c1431a6f7fe4bbe91", func := "tarn/tarnlaw19.RiverKept", spec := "riverKept", inPlace := ["math.Float64bits", "math.Float64frombits", "math.sqrt", "math.RoundToEven"], unfollowed := true, recurses := true, named := ["tarn/cube.frames", "math/bits.divideError", "math/bits.overflowError"], plainKeys := false, apart := false, laid := [("tarn/cube.frames", laid_tarn_cube_frames)], narrowed := true }
def RiverKeptUptoSaid : Prop := riverKeptUptoRow.holds Tryz.pinned (OpenSpec.upto riverKeptSpec)

/-- 'tarnlaw19.RiverDownhill', WHERE WHAT IT READS IS OF BULK AT MOST 1048576: true; the input reads as it did. -/
def riverDownhillUptoRow : OpenClaim := { program := "ytkckcohemalhiaagreatdoor", sum := "dfd5cbf64182f511f0873c63f6858749b7e563b47a09e81c1431a6f7fe4bbe91", func := "tarn/tarnlaw19.RiverDownhill", spec := "riverDownhill", inPlace := ["math.Float64bits", "math.Float64frombits", "math.sqrt", "math.RoundToEven"], unfollowed := true, recurses := true, named := ["tarn/cube.frames", "math/bits.divideError", "math/bits.overflowError"], plainKeys := false, apart := false, laid := [("tarn/cube.frames", laid_tarn_cube_frames)], narrowed := true }
def RiverDownhillUptoSaid : Prop := riverDownhillUptoRow.holds Tryz.pinned (OpenSpec.upto riverDownhillSpec)

/-- 'tarnlaw19.RiverOrder', WHERE WHAT IT READS IS OF BULK AT MOST 1048576: true; the input reads as it did. -/
def riverOrderUptoRow : OpenClaim := { program := "ytkckcohemalhiaagreatdoor", sum := "dfd5cbf64182f511f0873c63f6858749b7e563b47a09e81c1431a6f7fe4bbe91", func := "tarn/tarnlaw19.RiverOrder", spec := "riverOrder", inPlace := ["math.Float64bits", "math.Float64frombits", "math.sqrt", "math.RoundToEven"], unfollowed := true, recurses := true, named := ["tarn/cube.frames", "math/bits.divideError", "math/bits.overflowError"], plainKeys := false, apart := false, laid := [("tarn/cube.frames", laid_tarn_cube_frames)], narrowed := true }
def RiverOrderUptoSaid : Prop := riverOrderUptoRow.holds Tryz.pinned (OpenSpec.upto riverOrderSpec)

/-- 'tarnlaw19.RiverDeep', WHERE WHAT IT READS IS OF BULK AT MOST 1048576: true; the input reads as it did. -/
def riverDeepUptoRow : OpenClaim := { program := "ytkckcohemalhiaagreatdoor", sum := "dfd5cbf64182f511f0873c63f6858749b7e563b47a09e81c1431a6f7fe4bbe91", func := "tarn/tarnlaw19.RiverDeep", spec := "riverDeep", inPlace := ["math.Float64bits", "math.Float64frombits", "math.sqrt", "math.RoundToEven"], unfollowed := true, recurses := true, named := ["tarn/cube.frames", "math/bits.divideError", "math/bits.overflowError"], plainKeys := false, apart := false, laid := [("tarn/cube.frames", laid_tarn_cube_frames)], narrowed := true }
def RiverDeepUptoSaid : Prop := riverDeepUptoRow.holds Tryz.pinned (OpenSpec.upto riverDeepSpec)

/-- 'tarnlaw19.RiverKeeps', WHERE WHAT IT READS IS OF BULK AT MOST 1048576: true; the input reads as it did. -/
def riverKeepsUptoRow : OpenClaim := { program := "ytkckcohemalhiaagreatdoor", sum := "dfd5cbf64182f511f0873c63f6858749b7e563b47a09e81c1431a6f7fe4bbe91", func := "tarn/tarnlaw19.RiverKeeps", spec := "riverKeeps", inPlace := ["math.Float64bits", "math.Float64frombits", "math.sqrt", "math.RoundToEven"], unfollowed := true, recurses := true, named := ["tarn/cube.frames", "math/bits.divideError", "math/bits.overflowError"], plainKeys := false, apart := false, laid := [("tarn/cube.frames", laid_tarn_cube_frames)], narrowed := true }
def RiverKeepsUptoSaid : Prop := riverKeepsUptoRow.holds Tryz.pinned (OpenSpec.upto riverKeepsSpec)

end Rows
end Go.Proofs.YtkckcohemalhiaaGreatDoor
