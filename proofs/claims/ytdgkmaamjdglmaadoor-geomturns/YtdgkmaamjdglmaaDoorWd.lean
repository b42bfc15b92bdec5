/-
  That the statements' own test of life answers true; each contract once more at a named answer: walks over the program.
-/
import Derived.Test.YtdgkmaamjdglmaaDoorWc
namespace Go.Proofs.YtdgkmaamjdglmaaDoor
open Go.RowKit Tf
attribute [local go_sem] run_bits run_from raw_feq raw_fne raw_flt raw_fgt run_neg

theorem canon_at (x : Nat) (r : Nat) (w : World) (hx : x < 18446744073709551616) (hr : canonB x = r) :
    Calls Tryd.prog 49 #[.float .f64 x] w fun e w' => e = .returned (.float .f64 r) ∧ w' = w := by
  subst hr; exact canon_any x w hx
theorem ord_at (a b : Nat) (r : Int) (w : World) (ha : a < 18446744073709551616) (hb : b < 18446744073709551616) (hr : orderB a b = r) :
    Calls Tryd.prog 70 #[.float .f64 a, .float .f64 b] w fun e w' => e = .returned (.int .i64 r) ∧ w' = w := by
  subst hr; exact order_any a b w ha hb
end Go.Proofs.YtdgkmaamjdglmaaDoor
