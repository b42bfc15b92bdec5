/-
  The reference's order of floats and its sum of three: walks over the program.
-/
import Derived.Test.YtdgkmaamjdglmaaDoorSd
import Derived.Test.YtdgkmaamjdglmaaDoorTi
import Derived.Deep.RegionWith
namespace Go.Proofs.YtdgkmaamjdglmaaDoor
open Go.RowKit Tf
attribute [local go_sem] run_bits run_from raw_feq raw_fne raw_flt raw_fgt run_neg

end Go.Proofs.YtdgkmaamjdglmaaDoor
