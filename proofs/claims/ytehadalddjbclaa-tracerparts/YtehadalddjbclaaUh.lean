/-
  Cuts: walks over the reference (layer 14).
-/
import Derived.Test.YtehadalddjbclaaUg
namespace Go.Proofs.Ytehadalddjbclaa
open Go.RowKit Go.Deep
namespace Sh
end Sh
end Go.Proofs.Ytehadalddjbclaa
