/-
  What Down, Ulp, Order, Max, Min and Between of package bits return, and the small helpers of the statements: walks over the program.
-/
import Derived.Test.YtgbaaafikphafaaWa
namespace Go.Proofs.Ytgbaaafikphafaa
open Go.RowKit Tf
attribute [local go_sem] run_bits run_from raw_feq raw_fne raw_flt raw_fgt

theorem xor_lt (x : Nat) (h : x < 2 ^ 63) : x ^^^ 2 ^ 63 = x + 2 ^ 63 := by
  apply Nat.eq_of_testBit_eq
  intro i
  rw [Nat.testBit_xor, Nat.testBit_two_pow, Nat.add_comm x]
  by_cases c : i = 63
  · subst c
    rw [Nat.testBit_two_pow_add_eq]
    have : x.testBit 63 = false := Nat.testBit_lt_two_pow h
    simp [this]
  · by_cases c2 : i < 63
    · rw [Nat.testBit_two_pow_add_gt c2]
      have : ¬ 63 = i := by omega
      simp [this]
    · have h1 : x.testBit i = false := Nat.testBit_lt_two_pow (Nat.lt_of_lt_of_le h (Nat.pow_le_pow_right (by omega) (by omega)))
      have h2 : (2 ^ 63 + x).testBit i = false := Nat.testBit_lt_two_pow (Nat.lt_of_lt_of_le (show 2 ^ 63 + x < 2 ^ 64 by omega) (Nat.pow_le_pow_right (by omega) (by omega)))
      have : ¬ 63 = i := by omega
      rw [h1, h2]; simp [this]
theorem negFloat_eq (x : Nat) (hx : x < 18446744073709551616) : Op.negFloat .f64 x = negB x := by
  unfold Op.negFloat negB
  rw [show FloatKind.f64.format.exponentBits + FloatKind.f64.format.fractionBits = 63 from rfl]
  cases h : ng x
  · have := lt_of_ng h
    rw [xor_lt x (by omega)]; simp only [Bool.false_eq_true, if_false]
  · have := ge_of_ng h
    have e := xor_lt (x - 9223372036854775808) (by omega)
    rw [show x - 9223372036854775808 + 2 ^ 63 = x by omega] at e
    have e2 : x ^^^ 2 ^ 63 = x - 9223372036854775808 := by
      rw (occs := .pos [1]) [← e]
      rw [Nat.xor_assoc, Nat.xor_self, Nat.xor_zero]
    rw [e2]; simp only [if_true]
theorem run_neg (b : Nat) : Op.unary .neg (.float .f64 b) = pure (.float .f64 (Op.negFloat .f64 b)) := rfl
attribute [local go_sem] run_neg

theorem isN_negB (x : Nat) (hx : x < 18446744073709551616) : isN (negB x) = isN x := by
  unfold isN negB
  cases h : ng x
  · have := lt_of_ng h
    have e : mg (x + 9223372036854775808) = mg x := by unfold mg; omega
    simp [e]
  · have := ge_of_ng h
    have e : mg (x - 9223372036854775808) = mg x := by unfold mg; omega
    simp [e]

theorem feq_self_succ (m : Nat) (h : m < 9218868437227405312) : feq (m + 1) m = false := by
  rw [feq_rk (m + 1) m (by omega) (by omega)]
  unfold rk
  rw [ng_of_lt (show m + 1 < 9223372036854775808 by omega), ng_of_lt (show m < 9223372036854775808 by omega), mg_of_lt (show m + 1 < 9223372036854775808 by omega), mg_of_lt (show m < 9223372036854775808 by omega)]
  have : decide (((m + 1 : Nat) : Int) = (m : Int)) = false := by simp; omega
  simp only [Bool.false_eq_true, if_false, this, Bool.and_false]
theorem sub_top : Ieee.double.sub 9218868437227405312 9218868437227405311 = some 9218868437227405312 :=
  sub_inf_fin _ _ (by decide) (by decide) (by decide)

end Go.Proofs.Ytgbaaafikphafaa
