/-
  No cell of these rows narrows 'for every input' (looked for: loops, veiled, ifaces, maps, wideKeys, modest, calm, conditions, laid).
  DERIVED. THE GIVEN ROWS OF THIS SEAT. 5 by the template 'for every input the law returns true; each argument reads behind the call as it read before'; 0 by the template 'total and deterministic' (their statements: YtgfggfkmfhonbaaTotals.lean).
  GIVEN WITH THE SEED: the statements are not yours to turn. If you find one false, say at which input.
  Laid BY PROGRAM, IN A SANDBOX (cutbox-rows.mjs): the forced cells as the released guide's own fill.sh prints them over the translation 354d1492e7b834bf… (all of the seat's roots in one cut). By AI agents, Wed Nov 11 2026. No macro, syntax, notation, axiom, sorry.
-/
import Derived.Test.YtgfggfkmfhonbaaChecked
import GoSem.Claim
import GoSem.ClaimJoined
import GoSem.ClaimMapViews
import Derived.JoinedTies
import Derived.KernelRfl
namespace Go.Proofs.Ytgfggfkmfhonbaa
/- THE CELL 'sum', in the pinned program and in every row, IS THE sha256 OF THE DUMP (.gsa) THAT YtgfggfkmfhonbaaProg.lean LOADS. Nothing in Lean hashes anything: it is a label: what it is worth is what the hold of that sum in a sandbox is worth. -/
noncomputable def Try.pinned : Pinned := { name := "ytgfggfkmfhonbaa", sum := "354d1492e7b834bf4a4a617312d60d88a290aa9b5f3237c8575e4c14c7d9655d", checked := Try.checked }
namespace Rows
def none {H : Type} : Left H := { results := [], args := [] }

/-- 'tarnlaw07.VecScaled': WHATEVER THE INPUT: true; the input reads as it did. -/
def vecScaledSpec : ChangeSpec := { name := "vecScaled", fn := fun _ => fun
  | [d1, d2] => { results := [.lit (.bool true)], args := [d1, d2] }
  | _ => none }
def vecScaledRow : OpenClaim := { program := "ytgfggfkmfhonbaa", sum := "354d1492e7b834bf4a4a617312d60d88a290aa9b5f3237c8575e4c14c7d9655d", func := "tarn/tarnlaw07.VecScaled", spec := "vecScaled", inPlace := ["math.Float64bits", "math.Float64frombits", "math.sqrt"], apart := false }
def VecScaledSaid : Prop := vecScaledRow.holds Try.pinned (OpenSpec.ofChange vecScaledSpec)

/-- ITS FALSE NEIGHBOUR: 'it returns false'. Refute it at one input. -/
def vecScaledWrong : ChangeSpec := { name := "vecScaled", fn := fun _ => fun
  | [d1, d2] => { results := [.lit (.bool false)], args := [d1, d2] }
  | _ => none }
def VecScaledWrongFalsely : Prop := vecScaledRow.holds Try.pinned (OpenSpec.ofChange vecScaledWrong)

/-- 'tarnlaw07.VecLengths': WHATEVER THE INPUT: true; the input reads as it did. -/
def vecLengthsSpec : ChangeSpec := { name := "vecLengths", fn := fun _ => fun
  | [d] => { results := [.lit (.bool true)], args := [d] }
  | _ => none }
def vecLengthsRow : OpenClaim := { program := "ytgfggfkmfhonbaa", sum := "354d1492e7b834bf4a4a617312d60d88a290aa9b5f3237c8575e4c14c7d9655d", func := "tarn/tarnlaw07.VecLengths", spec := "vecLengths", inPlace := ["math.Float64bits", "math.Float64frombits", "math.sqrt"], apart := false }
def VecLengthsSaid : Prop := vecLengthsRow.holds Try.pinned (OpenSpec.ofChange vecLengthsSpec)

/-- ITS FALSE NEIGHBOUR: 'it returns false'. Refute it at one input. -/
def vecLengthsWrong : ChangeSpec := { name := "vecLengths", fn := fun _ => fun
  | [d] => { results := [.lit (.bool false)], args := [d] }
  | _ => none }
def VecLengthsWrongFalsely : Prop := vecLengthsRow.holds Try.pinned (OpenSpec.ofChange vecLengthsWrong)

/-- 'tarnlaw07.VecOpposite': WHATEVER THE INPUT: true; the input reads as it did. -/
def vecOppositeSpec : ChangeSpec := { name := "vecOpposite", fn := fun _ => fun
  | [d1, d2] => { results := [.lit (.bool true)], args := [d1, d2] }
  | _ => none }
def vecOppositeRow : OpenClaim := { program := "ytgfggfkmfhonbaa", sum := "354d1492e7b834bf4a4a617312d60d88a290aa9b5f3237c8575e4c14c7d9655d", func := "tarn/tarnlaw07.VecOpposite", spec := "vecOpposite", inPlace := ["math.Float64bits", "math.Float64frombits", "math.sqrt"], apart := false }
def VecOppositeSaid : Prop := vecOppositeRow.holds Try.pinned (OpenSpec.ofChange vecOppositeSpec)

/-- ITS FALSE NEIGHBOUR: 'it returns false'. Refute it at one input. -/
def vecOppositeWrong : ChangeSpec := { name := "vecOpposite", fn := fun _ => fun
  | [d1, d2] => { results := [.lit (.bool false)], args := [d1, d2] }
  | _ => none }
def VecOppositeWrongFalsely : Prop := vecOppositeRow.holds Try.pinned (OpenSpec.ofChange vecOppositeWrong)

/-- 'tarnlaw07.VecAxes': WHATEVER THE INPUT: true; the input reads as it did. -/
def vecAxesSpec : ChangeSpec := { name := "vecAxes", fn := fun _ => fun
  | [d1, d2] => { results := [.lit (.bool true)], args := [d1, d2] }
  | _ => none }
def vecAxesRow : OpenClaim := { program := "ytgfggfkmfhonbaa", sum := "354d1492e7b834bf4a4a617312d60d88a290aa9b5f3237c8575e4c14c7d9655d", func := "tarn/tarnlaw07.VecAxes", spec := "vecAxes", inPlace := ["math.Float64bits", "math.Float64frombits", "math.sqrt"], apart := false }
def VecAxesSaid : Prop := vecAxesRow.holds Try.pinned (OpenSpec.ofChange vecAxesSpec)

/-- ITS FALSE NEIGHBOUR: 'it returns false'. Refute it at one input. -/
def vecAxesWrong : ChangeSpec := { name := "vecAxes", fn := fun _ => fun
  | [d1, d2] => { results := [.lit (.bool false)], args := [d1, d2] }
  | _ => none }
def VecAxesWrongFalsely : Prop := vecAxesRow.holds Try.pinned (OpenSpec.ofChange vecAxesWrong)

/-- 'tarnlaw07.VecAll': WHATEVER THE INPUT: true; the input reads as it did. -/
def vecAllSpec : ChangeSpec := { name := "vecAll", fn := fun _ => fun
  | [d] => { results := [.lit (.bool true)], args := [d] }
  | _ => none }
def vecAllRow : OpenClaim := { program := "ytgfggfkmfhonbaa", sum := "354d1492e7b834bf4a4a617312d60d88a290aa9b5f3237c8575e4c14c7d9655d", func := "tarn/tarnlaw07.VecAll", spec := "vecAll", inPlace := ["math.Float64bits", "math.Float64frombits", "math.sqrt"], apart := false }
def VecAllSaid : Prop := vecAllRow.holds Try.pinned (OpenSpec.ofChange vecAllSpec)

/-- ITS FALSE NEIGHBOUR: 'it returns false'. Refute it at one input. -/
def vecAllWrong : ChangeSpec := { name := "vecAll", fn := fun _ => fun
  | [d] => { results := [.lit (.bool false)], args := [d] }
  | _ => none }
def VecAllWrongFalsely : Prop := vecAllRow.holds Try.pinned (OpenSpec.ofChange vecAllWrong)

/- THE SECOND FORM. 'bulk': how many values and letters a reading holds, each counted each time it is reached (what is shared counts as often as it is met; a slice's spare places count too). A statement '..UptoSaid' is the law's where the arguments, and the package variables that the reading takes, are together of bulk at most 1048576: NARROWER than '..Said'. Prove '..Said' where nothing that the law and all that it calls make is longer than what came in: it says more and counts as full. Else prove '..UptoSaid'. A law counts once. -/
mutual
def uptoBulk {H : Type} : DataW H → Nat
  | .lit (.string bytes) => bytes.length + 1
  | .lit _ => 1
  | .nil => 1
  | .ptr d => uptoBulk d + 1
  | .slice elems spare => uptoBulkAll elems + uptoBulkAll spare + 1
  | .agg parts => uptoBulkAll parts + 1
  | .iface _ d => uptoBulk d + 1
  | .map entries => uptoBulkEntries entries + 1
  | .held _ => 1
def uptoBulkAll {H : Type} : List (DataW H) → Nat
  | [] => 0
  | d :: r => uptoBulk d + uptoBulkAll r
def uptoBulkEntries {H : Type} : List (Lit × DataW H) → Nat
  | [] => 0
  | x :: r => uptoBulkEntry x + uptoBulkEntries r
def uptoBulkEntry {H : Type} : Lit × DataW H → Nat
  | (.string bytes, d) => bytes.length + uptoBulk d + 1
  | (_, d) => uptoBulk d + 1
 end
def uptoSmall : (H : Type) → List (DataW H) → Bool := fun _ ds => decide (uptoBulkAll ds ≤ 1048576)
def OpenSpec.upto (s : _root_.Go.ChangeSpec) : _root_.Go.OpenSpec := { _root_.Go.OpenSpec.ofChange s with cond := some uptoSmall }

/-- 'tarnlaw07.VecScaled', WHERE WHAT IT READS IS OF BULK AT MOST 1048576: true; the input reads as it did. -/
def vecScaledUptoRow : OpenClaim := { program := "ytgfggfkmfhonbaa", sum := "354d1492e7b834bf4a4a617312d60d88a290aa9b5f3237c8575e4c14c7d9655d", func := "tarn/tarnlaw07.VecScaled", spec := "vecScaled", inPlace := ["math.Float64bits", "math.Float64frombits", "math.sqrt"], apart := false, narrowed := true }
def VecScaledUptoSaid : Prop := vecScaledUptoRow.holds Try.pinned (OpenSpec.upto vecScaledSpec)

/-- 'tarnlaw07.VecLengths', WHERE WHAT IT READS IS OF BULK AT MOST 1048576: true; the input reads as it did. -/
def vecLengthsUptoRow : OpenClaim := { program := "ytgfggfkmfhonbaa", sum := "354d1492e7b834bf4a4a617312d60d88a290aa9b5f3237c8575e4c14c7d9655d", func := "tarn/tarnlaw07.VecLengths", spec := "vecLengths", inPlace := ["math.Float64bits", "math.Float64frombits", "math.sqrt"], apart := false, narrowed := true }
def VecLengthsUptoSaid : Prop := vecLengthsUptoRow.holds Try.pinned (OpenSpec.upto vecLengthsSpec)

/-- 'tarnlaw07.VecOpposite', WHERE WHAT IT READS IS OF BULK AT MOST 1048576: true; the input reads as it did. -/
def vecOppositeUptoRow : OpenClaim := { program := "ytgfggfkmfhonbaa", sum := "354d1492e7b834bf4a4a617312d60d88a290aa9b5f3237c8575e4c14c7d9655d", func := "tarn/tarnlaw07.VecOpposite", spec := "vecOpposite", inPlace := ["math.Float64bits", "math.Float64frombits", "math.sqrt"], apart := false, narrowed := true }
def VecOppositeUptoSaid : Prop := vecOppositeUptoRow.holds Try.pinned (OpenSpec.upto vecOppositeSpec)

/-- 'tarnlaw07.VecAxes', WHERE WHAT IT READS IS OF BULK AT MOST 1048576: true; the input reads as it did. -/
def vecAxesUptoRow : OpenClaim := { program := "ytgfggfkmfhonbaa", sum := "354d1492e7b834bf4a4a617312d60d88a290aa9b5f3237c8575e4c14c7d9655d", func := "tarn/tarnlaw07.VecAxes", spec := "vecAxes", inPlace := ["math.Float64bits", "math.Float64frombits", "math.sqrt"], apart := false, narrowed := true }
def VecAxesUptoSaid : Prop := vecAxesUptoRow.holds Try.pinned (OpenSpec.upto vecAxesSpec)

/-- 'tarnlaw07.VecAll', WHERE WHAT IT READS IS OF BULK AT MOST 1048576: true; the input reads as it did. -/
def vecAllUptoRow : OpenClaim := { program := "ytgfggfkmfhonbaa", sum := "354d1492e7b834bf4a4a617312d60d88a290aa9b5f3237c8575e4c14c7d9655d", func := "tarn/tarnlaw07.VecAll", spec := "vecAll", inPlace := ["math.Float64bits", "math.Float64frombits", "math.sqrt"], apart := false, narrowed := true }
def VecAllUptoSaid : Prop := vecAllUptoRow.holds Try.pinned (OpenSpec.upto vecAllSpec)

end Rows
end Go.Proofs.Ytgfggfkmfhonbaa
