/-
  Parts: the walk over the reference.
-/
import Derived.Test.YthcgbjkbnbeobaaUc
namespace Go.Proofs.Ythcgbjkbnbeobaa
open Go.RowKit
end Go.Proofs.Ythcgbjkbnbeobaa
