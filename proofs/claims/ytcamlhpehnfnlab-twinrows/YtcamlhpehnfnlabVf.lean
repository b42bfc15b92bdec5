/-
  The statements' own tests of a float: walks over the program.
-/
import Derived.Test.YtcamlhpehnfnlabVe
import Derived.Test.YtcamlhpehnfnlabTq
namespace Go.Proofs.Ytcamlhpehnfnlab
open Go.RowKit Tf
attribute [local go_sem] run_bits run_from raw_feq raw_fne raw_flt raw_fgt run_neg

set_option maxHeartbeats 1000000 in
theorem lfinite_go (x : Nat) (b : Int) (v : Bool) (w : World) (R : Hid (∀ w, Calls Try.prog 18 #[.float .f64 x] w fun e w' => e = .returned (.int .u64 b) ∧ w' = w)) (h0 : 0 ≤ b) (h1 : b < 18446744073709551616)
    (hv : (b / 4503599627370496 % 2048 != 2047) = v) :
    Calls Try.prog 12 #[.float .f64 x] w fun e w' => e = .returned (.bool v) ∧ w' = w := by
  go_enter Try.func12, Try.ntmps12
  go_wp2_with fail
  refine (R.out _).mono ?_
  rintro e w' ⟨rfl, rfl⟩
  go_wp2
  go_ret
  exact ⟨rfl, rfl⟩
theorem lfinite_at (x : Nat) (v : Bool) (w : World) (hx : x < 18446744073709551616) (hv : fin x = v) :
    Calls Try.prog 12 #[.float .f64 x] w fun e w' => e = .returned (.bool v) ∧ w' = w := by
  refine lfinite_go x (x : Nat) v w (fun w => rawBits_any x w) (by omega) (by omega) ?_
  rw [← hv]
  unfold fin mg
  rw [Bool.eq_iff_iff]; simp; omega
end Go.Proofs.Ytcamlhpehnfnlab
