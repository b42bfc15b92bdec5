/-
  Are two lists the same: the walk (layer 14).
-/
import Derived.Test.YthcgbjkbnbeobaaUe
namespace Go.Proofs.Ythcgbjkbnbeobaa
open Go.RowKit Go.Deep
namespace Sh
end Sh
end Go.Proofs.Ythcgbjkbnbeobaa
