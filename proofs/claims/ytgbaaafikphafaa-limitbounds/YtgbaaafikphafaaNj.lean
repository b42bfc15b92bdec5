/-
  The reference's differences, cross products, lengths, units and gaps of vectors: walks over the program.
-/
import Derived.Test.YtgbaaafikphafaaNf
namespace Go.Proofs.Ytgbaaafikphafaa
open Go.RowKit Tf
attribute [local go_sem] run_bits run_from raw_feq raw_fne raw_flt raw_fgt run_neg run_store_float
end Go.Proofs.Ytgbaaafikphafaa
