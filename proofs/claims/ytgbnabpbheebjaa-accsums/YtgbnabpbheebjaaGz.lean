/-
  Small helpers of the statements: walks over the program.
-/
import Derived.Test.YtgbnabpbheebjaaGy
import Derived.Deep.Draws
namespace Go.Proofs.Ytgbnabpbheebjaa
open Go.RowKit Tf
attribute [local go_sem] run_bits run_from raw_feq raw_fne raw_flt raw_fgt run_neg

theorem run_nan_add {P : Program} (w : World) (t : TypeId) (x y : Nat) (h : Ieee.double.add x y = none) :
    (binOp .add t (.float .f64 x) (.float .f64 y)).run P w = .ok (.float .f64 (nanOf w x y)) w.drew := by
  have h' : FloatKind.f64.format.add x y = none := h
  simp [binOp, Op.floatArith, h', nanOf, Question.forced]
theorem run_nan_mul {P : Program} (w : World) (t : TypeId) (x y : Nat) (h : Ieee.double.mul x y = none) :
    (binOp .mul t (.float .f64 x) (.float .f64 y)).run P w = .ok (.float .f64 (nanOf w x y)) w.drew := by
  have h' : FloatKind.f64.format.mul x y = none := h
  simp [binOp, Op.floatArith, h', nanOf, Question.forced]
set_option maxHeartbeats 400000 in
theorem rawBits_any (x : Nat) (w : World) :
    Calls Try.prog 25 #[.float .f64 x] w fun e w' => e = .returned (.int .u64 ((x : Nat) : Int)) ∧ w' = w := by
  go_enter Try.func25, Try.ntmps25
  go_wp2
  go_ret
  exact ⟨rfl, rfl⟩
set_option maxHeartbeats 400000 in
theorem rawFrom_any (x : Int) (w : World) :
    Calls Try.prog 26 #[.int .u64 x] w fun e w' => e = .returned (.float .f64 x.toNat) ∧ w' = w := by
  go_enter Try.func26, Try.ntmps26
  go_wp2
  go_ret
  exact ⟨rfl, rfl⟩
theorem same_self (a : Nat) (w : World) : Calls Try.prog 20 #[.float .f64 a, .float .f64 a] w fun e w' => e = .returned (.bool true) ∧ w' = w := by
  have := rawSame_any a a w
  unfold sameB at this
  simpa using this
theorem feq_own (t : Nat) (h : isN t = false) (ht : t < 18446744073709551616) : feq t t = true := by
  rw [feq_rk t t ht ht, h]; simp
end Go.Proofs.Ytgbnabpbheebjaa
