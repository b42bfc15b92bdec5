/-
  The small helpers of the statements on vectors: walks over the program.
-/
import Derived.Test.YtdgkmaamjdglmaaDoorNd
import Derived.Test.YtdgkmaamjdglmaaDoorMn
namespace Go.Proofs.YtdgkmaamjdglmaaDoor
open Go.RowKit Tf
attribute [local go_sem] run_bits run_from raw_feq raw_fne raw_flt raw_fgt run_neg run_store_float
end Go.Proofs.YtdgkmaamjdglmaaDoor
