/-
  No cell of these rows narrows 'for every input' (looked for: loops, veiled, ifaces, maps, wideKeys, modest, calm, conditions, laid).
  DERIVED. THE GIVEN ROWS OF THIS SEAT. 5 by the template 'for every input the law returns true; each argument reads behind the call as it read before'; 0 by the template 'total and deterministic' (their statements: YtdeammhdedcjlaaTotals.lean).
  GIVEN WITH THE SEED: the statements are not yours to turn. If you find one false, say at which input.
  Laid BY PROGRAM, IN A SANDBOX (cutbox-rows.mjs): the forced cells as the released guide's own fill.sh prints them over the translation fc6bf88c0ffbe492… (all of the seat's roots in one cut). By AI agents, Wed Nov 11 2026. No macro, syntax, notation, axiom, sorry.
-/
import Derived.Test.YtdeammhdedcjlaaChecked
import GoSem.Claim
import GoSem.ClaimJoined
import GoSem.ClaimMapViews
import Derived.JoinedTies
import Derived.KernelRfl
namespace Go.Proofs.Ytdeammhdedcjlaa
/- THE CELL 'sum', in the pinned program and in every row, IS THE sha256 OF THE DUMP (.gsa) THAT YtdeammhdedcjlaaProg.lean LOADS. Nothing in Lean hashes anything: it is a label: what it is worth is what the hold of that sum in a sandbox is worth. -/
noncomputable def Try.pinned : Pinned := { name := "ytdeammhdedcjlaa", sum := "fc6bf88c0ffbe49288a186c561d27e6a32052460f389cc0f40d2338ac5fb369e", checked := Try.checked }
namespace Rows
def none {H : Type} : Left H := { results := [], args := [] }

/-- 'tarnlaw24.TileBack': WHATEVER THE INPUT: true; the input reads as it did. -/
def tileBackSpec : ChangeSpec := { name := "tileBack", fn := fun _ => fun
  | [d1, d2] => { results := [.lit (.bool true)], args := [d1, d2] }
  | _ => none }
def tileBackRow : OpenClaim := { program := "ytdeammhdedcjlaa", sum := "fc6bf88c0ffbe49288a186c561d27e6a32052460f389cc0f40d2338ac5fb369e", func := "tarn/tarnlaw24.TileBack", spec := "tileBack", inPlace := ["math.Float32frombits", "math.Float32bits", "math.Float64bits", "math.Float64frombits", "math.sqrt", "math.RoundToEven"], unfollowed := true, recurses := true, apart := false }
def TileBackSaid : Prop := tileBackRow.holds Try.pinned (OpenSpec.ofChange tileBackSpec)

/-- ITS FALSE NEIGHBOUR: 'it returns false'. Refute it at one input. -/
def tileBackWrong : ChangeSpec := { name := "tileBack", fn := fun _ => fun
  | [d1, d2] => { results := [.lit (.bool false)], args := [d1, d2] }
  | _ => none }
def TileBackWrongFalsely : Prop := tileBackRow.holds Try.pinned (OpenSpec.ofChange tileBackWrong)

/-- 'tarnlaw24.TileCuts': WHATEVER THE INPUT: true; the input reads as it did. -/
def tileCutsSpec : ChangeSpec := { name := "tileCuts", fn := fun _ => fun
  | [d1, d2, d3] => { results := [.lit (.bool true)], args := [d1, d2, d3] }
  | _ => none }
def tileCutsRow : OpenClaim := { program := "ytdeammhdedcjlaa", sum := "fc6bf88c0ffbe49288a186c561d27e6a32052460f389cc0f40d2338ac5fb369e", func := "tarn/tarnlaw24.TileCuts", spec := "tileCuts", inPlace := ["math.Float32frombits", "math.Float32bits", "math.Float64bits", "math.Float64frombits", "math.sqrt", "math.RoundToEven"], unfollowed := true, recurses := true, apart := false }
def TileCutsSaid : Prop := tileCutsRow.holds Try.pinned (OpenSpec.ofChange tileCutsSpec)

/-- ITS FALSE NEIGHBOUR: 'it returns false'. Refute it at one input. -/
def tileCutsWrong : ChangeSpec := { name := "tileCuts", fn := fun _ => fun
  | [d1, d2, d3] => { results := [.lit (.bool false)], args := [d1, d2, d3] }
  | _ => none }
def TileCutsWrongFalsely : Prop := tileCutsRow.holds Try.pinned (OpenSpec.ofChange tileCutsWrong)

/-- 'tarnlaw24.TileDepths': WHATEVER THE INPUT: true; the input reads as it did. -/
def tileDepthsSpec : ChangeSpec := { name := "tileDepths", fn := fun _ => fun
  | [d1, d2] => { results := [.lit (.bool true)], args := [d1, d2] }
  | _ => none }
def tileDepthsRow : OpenClaim := { program := "ytdeammhdedcjlaa", sum := "fc6bf88c0ffbe49288a186c561d27e6a32052460f389cc0f40d2338ac5fb369e", func := "tarn/tarnlaw24.TileDepths", spec := "tileDepths", inPlace := ["math.Float32frombits", "math.Float32bits", "math.Float64bits", "math.Float64frombits", "math.sqrt", "math.RoundToEven"], unfollowed := true, recurses := true, apart := false }
def TileDepthsSaid : Prop := tileDepthsRow.holds Try.pinned (OpenSpec.ofChange tileDepthsSpec)

/-- ITS FALSE NEIGHBOUR: 'it returns false'. Refute it at one input. -/
def tileDepthsWrong : ChangeSpec := { name := "tileDepths", fn := fun _ => fun
  | [d1, d2] => { results := [.lit (.bool false)], args := [d1, d2] }
  | _ => none }
def TileDepthsWrongFalsely : Prop := tileDepthsRow.holds Try.pinned (OpenSpec.ofChange tileDepthsWrong)

/-- 'tarnlaw24.TileNear': WHATEVER THE INPUT: true; the input reads as it did. -/
def tileNearSpec : ChangeSpec := { name := "tileNear", fn := fun _ => fun
  | [d1, d2] => { results := [.lit (.bool true)], args := [d1, d2] }
  | _ => none }
def tileNearRow : OpenClaim := { program := "ytdeammhdedcjlaa", sum := "fc6bf88c0ffbe49288a186c561d27e6a32052460f389cc0f40d2338ac5fb369e", func := "tarn/tarnlaw24.TileNear", spec := "tileNear", inPlace := ["math.Float32frombits", "math.Float32bits", "math.Float64bits", "math.Float64frombits", "math.sqrt", "math.RoundToEven"], unfollowed := true, recurses := true, apart := false }
def TileNearSaid : Prop := tileNearRow.holds Try.pinned (OpenSpec.ofChange tileNearSpec)

/-- ITS FALSE NEIGHBOUR: 'it returns false'. Refute it at one input. -/
def tileNearWrong : ChangeSpec := { name := "tileNear", fn := fun _ => fun
  | [d1, d2] => { results := [.lit (.bool false)], args := [d1, d2] }
  | _ => none }
def TileNearWrongFalsely : Prop := tileNearRow.holds Try.pinned (OpenSpec.ofChange tileNearWrong)

/-- 'tarnlaw24.TileMemory': WHATEVER THE INPUT: true; the input reads as it did. -/
def tileMemorySpec : ChangeSpec := { name := "tileMemory", fn := fun _ => fun
  | [d1, d2, d3] => { results := [.lit (.bool true)], args := [d1, d2, d3] }
  | _ => none }
def tileMemoryRow : OpenClaim := { program := "ytdeammhdedcjlaa", sum := "fc6bf88c0ffbe49288a186c561d27e6a32052460f389cc0f40d2338ac5fb369e", func := "tarn/tarnlaw24.TileMemory", spec := "tileMemory", inPlace := ["math.Float32frombits", "math.Float32bits", "math.Float64bits", "math.Float64frombits", "math.sqrt", "math.RoundToEven"], unfollowed := true, recurses := true, apart := false }
def TileMemorySaid : Prop := tileMemoryRow.holds Try.pinned (OpenSpec.ofChange tileMemorySpec)

/-- ITS FALSE NEIGHBOUR: 'it returns false'. Refute it at one input. -/
def tileMemoryWrong : ChangeSpec := { name := "tileMemory", fn := fun _ => fun
  | [d1, d2, d3] => { results := [.lit (.bool false)], args := [d1, d2, d3] }
  | _ => none }
def TileMemoryWrongFalsely : Prop := tileMemoryRow.holds Try.pinned (OpenSpec.ofChange tileMemoryWrong)

/- THE SECOND FORM. 'bulk': how many values and letters a reading holds, each counted each time it is reached (what is shared counts as often as it is met; a slice's spare places count too). A statement '..UptoSaid' is the law's where the arguments, and the package variables that the reading takes, are together of bulk at most 1048576: NARROWER than '..Said'. Prove '..Said' where nothing that the law and all that it calls make is longer than what came in: it says more and counts as full. Else prove '..UptoSaid'. A law counts once. -/
mutual
def uptoBulk {H : Type} : DataW H → Nat
  | .lit (.string bytes) => bytes.length + 1
  | .lit _ => 1
  | .nil => 1
  | .ptr d => uptoBulk d + 1
  | .slice elems spare => uptoBulkAll elems + uptoBulkAll spare + 1
  | .agg parts => uptoBulkAll parts + 1
  | .iface _ d => uptoBulk d + 1
  | .map entries => uptoBulkEntries entries + 1
  | .held _ => 1
def uptoBulkAll {H : Type} : List (DataW H) → Nat
  | [] => 0
  | d :: r => uptoBulk d + uptoBulkAll r
def uptoBulkEntries {H : Type} : List (Lit × DataW H) → Nat
  | [] => 0
  | x :: r => uptoBulkEntry x + uptoBulkEntries r
def uptoBulkEntry {H : Type} : Lit × DataW H → Nat
  | (.string bytes, d) => bytes.length + uptoBulk d + 1
  | (_, d) => uptoBulk d + 1
 end
def uptoSmall : (H : Type) → List (DataW H) → Bool := fun _ ds => decide (uptoBulkAll ds ≤ 1048576)
def OpenSpec.upto (s : _root_.Go.ChangeSpec) : _root_.Go.OpenSpec := { _root_.Go.OpenSpec.ofChange s with cond := some uptoSmall }

/-- 'tarnlaw24.TileBack', WHERE WHAT IT READS IS OF BULK AT MOST 1048576: true; the input reads as it did. -/
def tileBackUptoRow : OpenClaim := { program := "ytdeammhdedcjlaa", sum := "fc6bf88c0ffbe49288a186c561d27e6a32052460f389cc0f40d2338ac5fb369e", func := "tarn/tarnlaw24.TileBack", spec := "tileBack", inPlace := ["math.Float32frombits", "math.Float32bits", "math.Float64bits", "math.Float64frombits", "math.sqrt", "math.RoundToEven"], unfollowed := true, recurses := true, apart := false, narrowed := true }
def TileBackUptoSaid : Prop := tileBackUptoRow.holds Try.pinned (OpenSpec.upto tileBackSpec)

/-- 'tarnlaw24.TileCuts', WHERE WHAT IT READS IS OF BULK AT MOST 1048576: true; the input reads as it did. -/
def tileCutsUptoRow : OpenClaim := { program := "ytdeammhdedcjlaa", sum := "fc6bf88c0ffbe49288a186c561d27e6a32052460f389cc0f40d2338ac5fb369e", func := "tarn/tarnlaw24.TileCuts", spec := "tileCuts", inPlace := ["math.Float32frombits", "math.Float32bits", "math.Float64bits", "math.Float64frombits", "math.sqrt", "math.RoundToEven"], unfollowed := true, recurses := true, apart := false, narrowed := true }
def TileCutsUptoSaid : Prop := tileCutsUptoRow.holds Try.pinned (OpenSpec.upto tileCutsSpec)

/-- 'tarnlaw24.TileDepths', WHERE WHAT IT READS IS OF BULK AT MOST 1048576: true; the input reads as it did. -/
def tileDepthsUptoRow : OpenClaim := { program := "ytdeammhdedcjlaa", sum := "fc6bf88c0ffbe49288a186c561d27e6a32052460f389cc0f40d2338ac5fb369e", func := "tarn/tarnlaw24.TileDepths", spec := "tileDepths", inPlace := ["math.Float32frombits", "math.Float32bits", "math.Float64bits", "math.Float64frombits", "math.sqrt", "math.RoundToEven"], unfollowed := true, recurses := true, apart := false, narrowed := true }
def TileDepthsUptoSaid : Prop := tileDepthsUptoRow.holds Try.pinned (OpenSpec.upto tileDepthsSpec)

/-- 'tarnlaw24.TileNear', WHERE WHAT IT READS IS OF BULK AT MOST 1048576: true; the input reads as it did. -/
def tileNearUptoRow : OpenClaim := { program := "ytdeammhdedcjlaa", sum := "fc6bf88c0ffbe49288a186c561d27e6a32052460f389cc0f40d2338ac5fb369e", func := "tarn/tarnlaw24.TileNear", spec := "tileNear", inPlace := ["math.Float32frombits", "math.Float32bits", "math.Float64bits", "math.Float64frombits", "math.sqrt", "math.RoundToEven"], unfollowed := true, recurses := true, apart := false, narrowed := true }
def TileNearUptoSaid : Prop := tileNearUptoRow.holds Try.pinned (OpenSpec.upto tileNearSpec)

/-- 'tarnlaw24.TileMemory', WHERE WHAT IT READS IS OF BULK AT MOST 1048576: true; the input reads as it did. -/
def tileMemoryUptoRow : OpenClaim := { program := "ytdeammhdedcjlaa", sum := "fc6bf88c0ffbe49288a186c561d27e6a32052460f389cc0f40d2338ac5fb369e", func := "tarn/tarnlaw24.TileMemory", spec := "tileMemory", inPlace := ["math.Float32frombits", "math.Float32bits", "math.Float64bits", "math.Float64frombits", "math.sqrt", "math.RoundToEven"], unfollowed := true, recurses := true, apart := false, narrowed := true }
def TileMemoryUptoSaid : Prop := tileMemoryUptoRow.holds Try.pinned (OpenSpec.upto tileMemorySpec)

end Rows
end Go.Proofs.Ytdeammhdedcjlaa
