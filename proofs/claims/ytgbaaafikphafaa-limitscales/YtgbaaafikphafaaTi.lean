/-
  What the reference's calls of layer 1 return: walks over the program.
-/
import Derived.Test.YtgbaaafikphafaaTh
namespace Go.Proofs.Ytgbaaafikphafaa
open Go.RowKit Tf
attribute [local go_sem] run_bits run_from raw_feq raw_fne raw_flt raw_fgt run_neg
end Go.Proofs.Ytgbaaafikphafaa
