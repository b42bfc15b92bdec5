/-
  What To32 of package conv returns at every float.
-/
import Derived.Test.YtpncpbpdbdlamaaWk
namespace Go.Proofs.Ytpncpbpdbdlamaa
open Go.RowKit Tf
theorem to32_all (x r : Nat) (w : World) (hx : x < 18446744073709551616) (hr : to32B x = r) :
    Calls Try.prog 19 #[.float .f64 x] w fun e w' => e = .returned (.int .u32 (r : Nat)) ∧ w' = w := to32_full x r w hx hr
end Go.Proofs.Ytpncpbpdbdlamaa
