/-
  That the statements' own test of life answers true; each contract once more at a named answer: walks over the program.
-/
import Derived.Test.YtgbaaafikphafaaWc
namespace Go.Proofs.Ytgbaaafikphafaa
open Go.RowKit Tf
attribute [local go_sem] run_bits run_from raw_feq raw_fne raw_flt raw_fgt run_neg

theorem canon_at (x : Nat) (r : Nat) (w : World) (hx : x < 18446744073709551616) (hr : canonB x = r) :
    Calls Try.prog 9 #[.float .f64 x] w fun e w' => e = .returned (.float .f64 r) ∧ w' = w := by
  subst hr; exact canon_any x w hx
theorem ord_at (a b : Nat) (r : Int) (w : World) (ha : a < 18446744073709551616) (hb : b < 18446744073709551616) (hr : orderB a b = r) :
    Calls Try.prog 18 #[.float .f64 a, .float .f64 b] w fun e w' => e = .returned (.int .i64 r) ∧ w' = w := by
  subst hr; exact order_any a b w ha hb
theorem max_at (a b : Nat) (r : Nat) (w : World) (ha : a < 18446744073709551616) (hb : b < 18446744073709551616) (hr : maxB a b = r) :
    Calls Try.prog 12 #[.float .f64 a, .float .f64 b] w fun e w' => e = .returned (.float .f64 r) ∧ w' = w := by
  subst hr; exact max_any a b w ha hb
end Go.Proofs.Ytgbaaafikphafaa
