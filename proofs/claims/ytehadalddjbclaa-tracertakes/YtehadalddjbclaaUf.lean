/-
  Are two lists the same: the walk (layer 14).
-/
import Derived.Test.YtehadalddjbclaaUe
namespace Go.Proofs.Ytehadalddjbclaa
open Go.RowKit Go.Deep
namespace Sh
end Sh
end Go.Proofs.Ytehadalddjbclaa
