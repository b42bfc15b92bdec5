/-
  Cuts: walks over the reference (layer 14).
-/
import Derived.Test.YthcgbjkbnbeobaaUg
namespace Go.Proofs.Ythcgbjkbnbeobaa
open Go.RowKit Go.Deep
namespace Sh
end Sh
end Go.Proofs.Ythcgbjkbnbeobaa
