/-
  NARROWER THAN 'FOR EVERY INPUT', by the rows' own cells (each row's printed sentence says how): ForceBounds: laid · ForceRest: laid · ForceMirror: laid · ForceLocal: laid · ForceFalls: laid · ForceKeeps: laid.
  DERIVED. THE GIVEN ROWS OF THIS SEAT. 6 by the template 'for every input the law returns true; each argument reads behind the call as it read before'; 0 by the template 'total and deterministic' (their statements: YtpfoohpncbkkfaaDoorTotals.lean).
  GIVEN WITH THE SEED: the statements are not yours to turn. If you find one false, say at which input.
  Laid BY PROGRAM, IN A SANDBOX (cutbox-rows.mjs): the forced cells as the released guide's own fill.sh prints them over the translation 7fd5e01c228237fc… (all of the seat's roots in one cut). By AI agents, Wed Nov 11 2026. No macro, syntax, notation, axiom, sorry.
-/
import Derived.Test.YtpfoohpncbkkfaaDoorChecked
import GoSem.Claim
import GoSem.ClaimJoined
import GoSem.ClaimMapViews
import Derived.JoinedTies
import Derived.KernelRfl
namespace Go.Proofs.YtpfoohpncbkkfaaDoor
/- THE CELL 'sum', in the pinned program and in every row, IS THE sha256 OF THE DUMP (.gsa) THAT YtpfoohpncbkkfaaDoorProg.lean LOADS. Nothing in Lean hashes anything: it is a label: what it is worth is what the hold of that sum in a sandbox is worth. -/
noncomputable def Tryd.pinned : Pinned := { name := "ytpfoohpncbkkfaadoor", sum := "7fd5e01c228237fc3367f4513fe903db74627eb3cdd8873a68bdf7095776f934", checked := Tryd.checked }
namespace Rows
def none {H : Type} : Left H := { results := [], args := [] }

/- WHAT THE LISTED PACKAGE-LEVEL VARIABLES READ AS WHEN THE CALL BEGINS. Each datum BY PROGRAM (the guide's laid-datum.mjs) off the statement by which the dump's own 'gosem.cut.vars' lays the variable. In a bare row this is a premise. The card (YtpfoohpncbkkfaaDoorCards.lean) ties it to the program's text. -/
def laid_tarn_cube_frames {H : Type} : DataW H := .agg [.agg [.agg [.lit (.int .i64 1), .lit (.int .i64 0), .lit (.int .i64 0)], .agg [.lit (.int .i64 0), .lit (.int .i64 1), .lit (.int .i64 0)], .agg [.lit (.int .i64 0), .lit (.int .i64 0), .lit (.int .i64 1)]], .agg [.agg [.lit (.int .i64 0), .lit (.int .i64 1), .lit (.int .i64 0)], .agg [.lit (.int .i64 (-1)), .lit (.int .i64 0), .lit (.int .i64 0)], .agg [.lit (.int .i64 0), .lit (.int .i64 0), .lit (.int .i64 1)]], .agg [.agg [.lit (.int .i64 (-1)), .lit (.int .i64 0), .lit (.int .i64 0)], .agg [.lit (.int .i64 0), .lit (.int .i64 (-1)), .lit (.int .i64 0)], .agg [.lit (.int .i64 0), .lit (.int .i64 0), .lit (.int .i64 1)]], .agg [.agg [.lit (.int .i64 0), .lit (.int .i64 (-1)), .lit (.int .i64 0)], .agg [.lit (.int .i64 1), .lit (.int .i64 0), .lit (.int .i64 0)], .agg [.lit (.int .i64 0), .lit (.int .i64 0), .lit (.int .i64 1)]], .agg [.agg [.lit (.int .i64 0), .lit (.int .i64 0), .lit (.int .i64 1)], .agg [.lit (.int .i64 0), .lit (.int .i64 1), .lit (.int .i64 0)], .agg [.lit (.int .i64 (-1)), .lit (.int .i64 0), .lit (.int .i64 0)]], .agg [.agg [.lit (.int .i64 0), .lit (.int .i64 0), .lit (.int .i64 (-1))], .agg [.lit (.int .i64 0), .lit (.int .i64 1), .lit (.int .i64 0)], .agg [.lit (.int .i64 1), .lit (.int .i64 0), .lit (.int .i64 0)]]]

/-- 'tarnlaw16.ForceBounds': WHATEVER THE INPUT: true; the input reads as it did. -/
def forceBoundsSpec : ChangeSpec := { name := "forceBounds", fn := fun _ => fun
  | [d1, d2, d3] => { results := [.lit (.bool true)], args := [d1, d2, d3] }
  | _ => none }
def forceBoundsRow : OpenClaim := { program := "ytpfoohpncbkkfaadoor", sum := "7fd5e01c228237fc3367f4513fe903db74627eb3cdd8873a68bdf7095776f934", func := "tarn/tarnlaw16.ForceBounds", spec := "forceBounds", inPlace := ["math.Float64bits", "math.Float64frombits", "math.sqrt", "math.RoundToEven"], unfollowed := true, recurses := true, named := ["tarn/cube.frames"], plainKeys := false, apart := false, laid := [("tarn/cube.frames", laid_tarn_cube_frames)] }
def ForceBoundsSaid : Prop := forceBoundsRow.holds Tryd.pinned (OpenSpec.ofChange forceBoundsSpec)

/-- ITS FALSE NEIGHBOUR: 'it returns false'. Refute it at one input. -/
def forceBoundsWrong : ChangeSpec := { name := "forceBounds", fn := fun _ => fun
  | [d1, d2, d3] => { results := [.lit (.bool false)], args := [d1, d2, d3] }
  | _ => none }
def ForceBoundsWrongFalsely : Prop := forceBoundsRow.holds Tryd.pinned (OpenSpec.ofChange forceBoundsWrong)

/-- 'tarnlaw16.ForceRest': WHATEVER THE INPUT: true; the input reads as it did. -/
def forceRestSpec : ChangeSpec := { name := "forceRest", fn := fun _ => fun
  | [d1, d2, d3] => { results := [.lit (.bool true)], args := [d1, d2, d3] }
  | _ => none }
def forceRestRow : OpenClaim := { program := "ytpfoohpncbkkfaadoor", sum := "7fd5e01c228237fc3367f4513fe903db74627eb3cdd8873a68bdf7095776f934", func := "tarn/tarnlaw16.ForceRest", spec := "forceRest", inPlace := ["math.Float64bits", "math.Float64frombits", "math.sqrt", "math.RoundToEven"], unfollowed := true, recurses := true, named := ["tarn/cube.frames"], plainKeys := false, apart := false, laid := [("tarn/cube.frames", laid_tarn_cube_frames)] }
def ForceRestSaid : Prop := forceRestRow.holds Tryd.pinned (OpenSpec.ofChange forceRestSpec)

/-- ITS FALSE NEIGHBOUR: 'it returns false'. Refute it at one input. -/
def forceRestWrong : ChangeSpec := { name := "forceRest", fn := fun _ => fun
  | [d1, d2, d3] => { results := [.lit (.bool false)], args := [d1, d2, d3] }
  | _ => none }
def ForceRestWrongFalsely : Prop := forceRestRow.holds Tryd.pinned (OpenSpec.ofChange forceRestWrong)

/-- 'tarnlaw16.ForceMirror': WHATEVER THE INPUT: true; the input reads as it did. -/
def forceMirrorSpec : ChangeSpec := { name := "forceMirror", fn := fun _ => fun
  | [d1, d2, d3, d4] => { results := [.lit (.bool true)], args := [d1, d2, d3, d4] }
  | _ => none }
def forceMirrorRow : OpenClaim := { program := "ytpfoohpncbkkfaadoor", sum := "7fd5e01c228237fc3367f4513fe903db74627eb3cdd8873a68bdf7095776f934", func := "tarn/tarnlaw16.ForceMirror", spec := "forceMirror", inPlace := ["math.Float64bits", "math.Float64frombits", "math.sqrt", "math.RoundToEven"], unfollowed := true, recurses := true, named := ["tarn/cube.frames"], plainKeys := false, apart := false, laid := [("tarn/cube.frames", laid_tarn_cube_frames)] }
def ForceMirrorSaid : Prop := forceMirrorRow.holds Tryd.pinned (OpenSpec.ofChange forceMirrorSpec)

/-- ITS FALSE NEIGHBOUR: 'it returns false'. Refute it at one input. -/
def forceMirrorWrong : ChangeSpec := { name := "forceMirror", fn := fun _ => fun
  | [d1, d2, d3, d4] => { results := [.lit (.bool false)], args := [d1, d2, d3, d4] }
  | _ => none }
def ForceMirrorWrongFalsely : Prop := forceMirrorRow.holds Tryd.pinned (OpenSpec.ofChange forceMirrorWrong)

/-- 'tarnlaw16.ForceLocal': WHATEVER THE INPUT: true; the input reads as it did. -/
def forceLocalSpec : ChangeSpec := { name := "forceLocal", fn := fun _ => fun
  | [d1, d2, d3, d4, d5] => { results := [.lit (.bool true)], args := [d1, d2, d3, d4, d5] }
  | _ => none }
def forceLocalRow : OpenClaim := { program := "ytpfoohpncbkkfaadoor", sum := "7fd5e01c228237fc3367f4513fe903db74627eb3cdd8873a68bdf7095776f934", func := "tarn/tarnlaw16.ForceLocal", spec := "forceLocal", inPlace := ["math.Float64bits", "math.Float64frombits", "math.sqrt", "math.RoundToEven"], unfollowed := true, recurses := true, named := ["tarn/cube.frames"], plainKeys := false, apart := false, laid := [("tarn/cube.frames", laid_tarn_cube_frames)] }
def ForceLocalSaid : Prop := forceLocalRow.holds Tryd.pinned (OpenSpec.ofChange forceLocalSpec)

/-- ITS FALSE NEIGHBOUR: 'it returns false'. Refute it at one input. -/
def forceLocalWrong : ChangeSpec := { name := "forceLocal", fn := fun _ => fun
  | [d1, d2, d3, d4, d5] => { results := [.lit (.bool false)], args := [d1, d2, d3, d4, d5] }
  | _ => none }
def ForceLocalWrongFalsely : Prop := forceLocalRow.holds Tryd.pinned (OpenSpec.ofChange forceLocalWrong)

/-- 'tarnlaw16.ForceFalls': WHATEVER THE INPUT: true; the input reads as it did. -/
def forceFallsSpec : ChangeSpec := { name := "forceFalls", fn := fun _ => fun
  | [d1, d2, d3, d4] => { results := [.lit (.bool true)], args := [d1, d2, d3, d4] }
  | _ => none }
def forceFallsRow : OpenClaim := { program := "ytpfoohpncbkkfaadoor", sum := "7fd5e01c228237fc3367f4513fe903db74627eb3cdd8873a68bdf7095776f934", func := "tarn/tarnlaw16.ForceFalls", spec := "forceFalls", inPlace := ["math.Float64bits", "math.Float64frombits", "math.sqrt", "math.RoundToEven"], unfollowed := true, recurses := true, named := ["tarn/cube.frames"], plainKeys := false, apart := false, laid := [("tarn/cube.frames", laid_tarn_cube_frames)] }
def ForceFallsSaid : Prop := forceFallsRow.holds Tryd.pinned (OpenSpec.ofChange forceFallsSpec)

/-- ITS FALSE NEIGHBOUR: 'it returns false'. Refute it at one input. -/
def forceFallsWrong : ChangeSpec := { name := "forceFalls", fn := fun _ => fun
  | [d1, d2, d3, d4] => { results := [.lit (.bool false)], args := [d1, d2, d3, d4] }
  | _ => none }
def ForceFallsWrongFalsely : Prop := forceFallsRow.holds Tryd.pinned (OpenSpec.ofChange forceFallsWrong)

/-- 'tarnlaw16.ForceKeeps': WHATEVER THE INPUT: true; the input reads as it did. -/
def forceKeepsSpec : ChangeSpec := { name := "forceKeeps", fn := fun _ => fun
  | [d1, d2, d3] => { results := [.lit (.bool true)], args := [d1, d2, d3] }
  | _ => none }
def forceKeepsRow : OpenClaim := { program := "ytpfoohpncbkkfaadoor", sum := "7fd5e01c228237fc3367f4513fe903db74627eb3cdd8873a68bdf7095776f934", func := "tarn/tarnlaw16.ForceKeeps", spec := "forceKeeps", inPlace := ["math.Float64bits", "math.Float64frombits", "math.sqrt", "math.RoundToEven"], unfollowed := true, recurses := true, named := ["tarn/cube.frames"], plainKeys := false, apart := false, laid := [("tarn/cube.frames", laid_tarn_cube_frames)] }
def ForceKeepsSaid : Prop := forceKeepsRow.holds Tryd.pinned (OpenSpec.ofChange forceKeepsSpec)

/-- ITS FALSE NEIGHBOUR: 'it returns false'. Refute it at one input. -/
def forceKeepsWrong : ChangeSpec := { name := "forceKeeps", fn := fun _ => fun
  | [d1, d2, d3] => { results := [.lit (.bool false)], args := [d1, d2, d3] }
  | _ => none }
def ForceKeepsWrongFalsely : Prop := forceKeepsRow.holds Tryd.pinned (OpenSpec.ofChange forceKeepsWrong)

/- THE SECOND FORM. 'bulk': how many values and letters a reading holds, each counted each time it is reached (what is shared counts as often as it is met; a slice's spare places count too). A statement '..UptoSaid' is the law's where the arguments, and the package variables that the reading takes, are together of bulk at most 1048576: NARROWER than '..Said'. Prove '..Said' where nothing that the law and all that it calls make is longer than what came in: it says more and counts as full. Else prove '..UptoSaid'. A law counts once. -/
mutual
def uptoBulk {H : Type} : DataW H → Nat
  | .lit (.string bytes) => bytes.length + 1
  | .lit _ => 1
  | .nil => 1
  | .ptr d => uptoBulk d + 1
  | .slice elems spare => uptoBulkAll elems + uptoBulkAll spare + 1
  | .agg parts => uptoBulkAll parts + 1
  | .iface _ d => uptoBulk d + 1
  | .map entries => uptoBulkEntries entries + 1
  | .held _ => 1
def uptoBulkAll {H : Type} : List (DataW H) → Nat
  | [] => 0
  | d :: r => uptoBulk d + uptoBulkAll r
def uptoBulkEntries {H : Type} : List (Lit × DataW H) → Nat
  | [] => 0
  | x :: r => uptoBulkEntry x + uptoBulkEntries r
def uptoBulkEntry {H : Type} : Lit × DataW H → Nat
  | (.string bytes, d) => bytes.length + uptoBulk d + 1
  | (_, d) => uptoBulk d + 1
 end
def uptoSmall : (H : Type) → List (DataW H) → Bool := fun _ ds => decide (uptoBulkAll ds ≤ 1048576)
def OpenSpec.upto (s : _root_.Go.ChangeSpec) : _root_.Go.OpenSpec := { _root_.Go.OpenSpec.ofChange s with cond := some uptoSmall }

/-- 'tarnlaw16.ForceBounds', WHERE WHAT IT READS IS OF BULK AT MOST 1048576: true; the input reads as it did. -/
def forceBoundsUptoRow : OpenClaim := { program := "ytpfoohpncbkkfaadoor", sum := "7fd5e01c228237fc3367f4513fe903db74627eb3cdd8873a68bdf7095776f934", func := "tarn/tarnlaw16.ForceBounds", spec := "forceBounds", inPlace := ["math.Float64bits", "math.Float64frombits", "math.sqrt", "math.RoundToEven"], unfollowed := true, recurses := true, named := ["tarn/cube.frames"], plainKeys := false, apart := false, laid := [("tarn/cube.frames", laid_tarn_cube_frames)], narrowed := true }
def ForceBoundsUptoSaid : Prop := forceBoundsUptoRow.holds Tryd.pinned (OpenSpec.upto forceBoundsSpec)

/-- 'tarnlaw16.ForceRest', WHERE WHAT IT READS IS OF BULK AT MOST 1048576: true; the input reads as it did. -/
def forceRestUptoRow : OpenClaim := { program := "ytpfoohpncbkkfaadoor", sum := "7fd5e01c228237fc3367f4513fe903db74627eb3cdd8873a68bdf7095776f934", func := "tarn/tarnlaw16.ForceRest", spec := "forceRest", inPlace := ["math.Float64bits", "math.Float64frombits", "math.sqrt", "math.RoundToEven"], unfollowed := true, recurses := true, named := ["tarn/cube.frames"], plainKeys := false, apart := false, laid := [("tarn/cube.frames", laid_tarn_cube_frames)], narrowed := true }
def ForceRestUptoSaid : Prop := forceRestUptoRow.holds Tryd.pinned (OpenSpec.upto forceRestSpec)

/-- 'tarnlaw16.ForceMirror', WHERE WHAT IT READS IS OF BULK AT MOST 1048576: true; the input reads as it did. -/
def forceMirrorUptoRow : OpenClaim := { program := "ytpfoohpncbkkfaadoor", sum := "7fd5e01c228237fc3367f4513fe903db74627eb3cdd8873a68bdf7095776f934", func := "tarn/tarnlaw16.ForceMirror", spec := "forceMirror", inPlace := ["math.Float64bits", "math.Float64frombits", "math.sqrt", "math.RoundToEven"], unfollowed := true, recurses := true, named := ["tarn/cube.frames"], plainKeys := false, apart := false, laid := [("tarn/cube.frames", laid_tarn_cube_frames)], narrowed := true }
def ForceMirrorUptoSaid : Prop := forceMirrorUptoRow.holds Tryd.pinned (OpenSpec.upto forceMirrorSpec)

/-- 'tarnlaw16.ForceLocal', WHERE WHAT IT READS IS OF BULK AT MOST 1048576: true; the input reads as it did. -/
def forceLocalUptoRow : OpenClaim := { program := "ytpfoohpncbkkfaadoor", sum := "7fd5e01c228237fc3367f4513fe903db74627eb3cdd8873a68bdf7095776f934", func := "tarn/tarnlaw16.ForceLocal", spec := "forceLocal", inPlace := ["math.Float64bits", "math.Float64frombits", "math.sqrt", "math.RoundToEven"], unfollowed := true, recurses := true, named := ["tarn/cube.frames"], plainKeys := false, apart := false, laid := [("tarn/cube.frames", laid_tarn_cube_frames)], narrowed := true }
def ForceLocalUptoSaid : Prop := forceLocalUptoRow.holds Tryd.pinned (OpenSpec.upto forceLocalSpec)

/-- 'tarnlaw16.ForceFalls', WHERE WHAT IT READS IS OF BULK AT MOST 1048576: true; the input reads as it did. -/
def forceFallsUptoRow : OpenClaim := { program := "ytpfoohpncbkkfaadoor", sum := "7fd5e01c228237fc3367f4513fe903db74627eb3cdd8873a68bdf7095776f934", func := "tarn/tarnlaw16.ForceFalls", spec := "forceFalls", inPlace := ["math.Float64bits", "math.Float64frombits", "math.sqrt", "math.RoundToEven"], unfollowed := true, recurses := true, named := ["tarn/cube.frames"], plainKeys := false, apart := false, laid := [("tarn/cube.frames", laid_tarn_cube_frames)], narrowed := true }
def ForceFallsUptoSaid : Prop := forceFallsUptoRow.holds Tryd.pinned (OpenSpec.upto forceFallsSpec)

/-- 'tarnlaw16.ForceKeeps', WHERE WHAT IT READS IS OF BULK AT MOST 1048576: true; the input reads as it did. -/
def forceKeepsUptoRow : OpenClaim := { program := "ytpfoohpncbkkfaadoor", sum := "7fd5e01c228237fc3367f4513fe903db74627eb3cdd8873a68bdf7095776f934", func := "tarn/tarnlaw16.ForceKeeps", spec := "forceKeeps", inPlace := ["math.Float64bits", "math.Float64frombits", "math.sqrt", "math.RoundToEven"], unfollowed := true, recurses := true, named := ["tarn/cube.frames"], plainKeys := false, apart := false, laid := [("tarn/cube.frames", laid_tarn_cube_frames)], narrowed := true }
def ForceKeepsUptoSaid : Prop := forceKeepsUptoRow.holds Tryd.pinned (OpenSpec.upto forceKeepsSpec)

end Rows
end Go.Proofs.YtpfoohpncbkkfaaDoor
