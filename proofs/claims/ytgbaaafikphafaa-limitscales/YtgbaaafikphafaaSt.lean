/-
  The reference's order of floats and its sum of three: walks over the program.
-/
import Derived.Test.YtgbaaafikphafaaSd
import Derived.Test.YtgbaaafikphafaaTi
import Derived.Deep.RegionWith
namespace Go.Proofs.Ytgbaaafikphafaa
open Go.RowKit Tf
attribute [local go_sem] run_bits run_from raw_feq raw_fne raw_flt raw_fgt run_neg

end Go.Proofs.Ytgbaaafikphafaa
