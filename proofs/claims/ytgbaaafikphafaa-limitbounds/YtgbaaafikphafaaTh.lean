/-
  The small helpers of the statements on twin, and that their own test of life answers true: walks over the program.
-/
import Derived.Test.YtgbaaafikphafaaTe
namespace Go.Proofs.Ytgbaaafikphafaa
open Go.RowKit Tf
attribute [local go_sem] run_bits run_from raw_feq raw_fne raw_flt raw_fgt run_neg

theorem aw1 : addB 4591870180066957722 4596373779694328218 = 4599075939470750516 := by decide +kernel
theorem aw2 : sumE 4591870180066957722 4596373779694328218 = 13582856476149415936 := by decide +kernel
theorem aw3 : splitH 4728779608772575232 = 4728779608739020800 := by decide +kernel
theorem aw4 : splitL 4728779608772575232 = 4607182418800017408 := by decide +kernel
theorem aw5 : mulB 4591870180066957722 4613937818241073152 = 4599075939470750516 := by decide +kernel
theorem aw6 : prodE 4591870180066957722 4613937818241073152 = 13582856476149415936 := by decide +kernel
theorem rawSame_refl (x : Nat) (w : World) :
    Calls Try.prog 15 #[.float .f64 x, .float .f64 x] w fun e w' => e = .returned (.bool true) ∧ w' = w := by
  have h := rawSame_any x x w
  have hs : sameB x x = true := by unfold sameB; simp
  rwa [hs] at h
theorem canon_canon (x : Nat) (_hx : x < 18446744073709551616) : canonB (canonB x) = canonB x := by
  unfold canonB
  by_cases c : isN x = true
  · rw [if_pos c]; decide
  · rw [if_neg c]
    by_cases c2 : mg x = 0
    · rw [if_pos c2]; decide
    · rw [if_neg c2, if_neg c, if_neg c2]
theorem canon_rnf (v : Int) : canonB (rn false v) = rn false v := canon_rn false v
theorem canon_addB (a b : Nat) (ha : a < 18446744073709551616) (hb : b < 18446744073709551616) : canonB (addB a b) = addB a b := by
  rcases add_cases a b ha hb with ⟨h1, h2⟩ | h | ⟨s, h⟩
  · rw [addB_fin a b ha hb h1 h2, canon_rnf]
  · rw [addB_none h]; decide
  · rw [addB_some h, infW_canon, infW_canon]
theorem canon_zero : canonB 0 = 0 := by decide
theorem canon_sumE (a b : Nat) : canonB (sumE a b) = sumE a b := by
  unfold sumE; split
  · exact canon_rnf _
  · exact canon_zero
theorem canon_mulB (a b : Nat) (ha : a < 18446744073709551616) (hb : b < 18446744073709551616) : canonB (mulB a b) = mulB a b := by
  cases h : Ieee.double.mul a b with
  | none => rw [mulB_none h]; decide
  | some p => rw [mulB_some h, canon_canon p (mul_ok a b p ha hb h).1]
theorem canon_prodE (a b : Nat) : canonB (prodE a b) = prodE a b := by
  unfold prodE; split
  · exact canon_rnf _
  · exact canon_zero
theorem mulB_lt (a b : Nat) (ha : a < 18446744073709551616) (hb : b < 18446744073709551616) : mulB a b < 18446744073709551616 := by
  cases h : Ieee.double.mul a b with
  | none => rw [mulB_none h]; decide
  | some p => rw [mulB_some h]; exact canonB_lt (mul_ok a b p ha hb h).1
end Go.Proofs.Ytgbaaafikphafaa
