/-
  Part against the document's answer, of a list of rows: the walk, of whatever program keeps to what is to be answered (layer 14).
-/
import Derived.Test.YthcgbjkbnbeobaaUi
import Derived.Test.YthcgbjkbnbeobaaUh
namespace Go.Proofs.Ythcgbjkbnbeobaa
open Go.RowKit Go.Deep
namespace Sh
/-- three numbers from there on -/
def ThreeAt (w : World) (b o : Nat) : Prop := ∃ (p0 p1 p2 : Int), (w.cell? ⟨b, o, none⟩ = some (.int .i64 p0) ∧ w.cell? ⟨b, o + 1, none⟩ = some (.int .i64 p1) ∧ w.cell? ⟨b, o + 2, none⟩ = some (.int .i64 p2)) ∧ W64 p0 ∧ W64 p1 ∧ W64 p2
end Sh
end Go.Proofs.Ythcgbjkbnbeobaa
