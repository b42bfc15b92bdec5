/-
  What package bits and its reference answer, as plain functions of the bits; the bit operations that they use (no program).
-/
import Derived.Test.YtgbaaafikphafaaFlD
import Derived.WalkKit
import Derived.WalkSpells
import Derived.WalkLawsBesides
namespace Go.Proofs.Ytgbaaafikphafaa
open Go.RowKit Tf

theorem andNot_sign (x : Nat) (hx : x < 18446744073709551616) : bits .andNot .u64 (x : Int) 9223372036854775808 = ((mg x : Nat) : Int) := by
  unfold mg
  have h0 : (0 : Int) ≤ x := by omega
  have h1 : (x : Int) < 18446744073709551616 := by omega
  rw [show ((x % 9223372036854775808 : Nat) : Int) = (x : Int) % 9223372036854775808 from by omega]
  generalize (x : Int) = z at *
  go_bits2
theorem and_sign (x : Nat) (hx : x < 18446744073709551616) : (bits .and .u64 (x : Int) 9223372036854775808 != 0) = ng x := by
  unfold ng
  have h0 : (0 : Int) ≤ x := by omega
  have h1 : (x : Int) < 18446744073709551616 := by omega
  have e : bits .and .u64 (x : Int) 9223372036854775808 = (x : Int) - (x : Int) % 9223372036854775808 := by
    generalize (x : Int) = z at *
    go_bits2
  rw [e]
  by_cases h : 9223372036854775808 ≤ x
  · simp only [h, decide_true, bne_iff_ne]; omega
  · simp only [h, decide_false, bne_eq_false_iff_eq]; omega
theorem or_sign (x : Nat) (hx : x < 9223372036854775808) : bits .or .u64 (x : Int) 9223372036854775808 = ((x + 9223372036854775808 : Nat) : Int) := by
  have h0 : (0 : Int) ≤ x := by omega
  have h1 : (x : Int) < 9223372036854775808 := by omega
  rw [show ((x + 9223372036854775808 : Nat) : Int) = (x : Int) + 9223372036854775808 from by omega]
  generalize (x : Int) = z at *
  go_bits2
theorem not_all (x : Nat) (hx : x < 18446744073709551616) : bits .xor .u64 IntKind.u64.max (x : Int) = ((18446744073709551615 - x : Nat) : Int) := by
  show IntKind.u64.wrap ((BitVec.ofInt 64 IntKind.u64.max ^^^ BitVec.ofInt 64 (x : Int)).toNat : Int) = _
  have h1 : BitVec.ofInt 64 IntKind.u64.max = BitVec.allOnes 64 := by decide
  rw [h1, BitVec.allOnes_xor, BitVec.toNat_not, ofInt_u64 x (by omega)]
  simp [IntKind.wrap, IntKind.bits, IntKind.signed]
  omega

/-! The answers, as functions of the bits. -/
def quiet : Nat := 9221120237041090561
def classB (x : Nat) : Int := if mg x = 0 then 0 else if mg x < 4503599627370496 then 1 else if mg x < 9218868437227405312 then 2 else if mg x = 9218868437227405312 then 3 else 4
def canonB (x : Nat) : Nat := if isN x then quiet else if mg x = 0 then 0 else x
def upB (x : Nat) : Nat := if isN x then quiet else if mg x = 0 then 1 else if x = 9218868437227405312 then x else if ng x then x - 1 else x + 1
def negB (x : Nat) : Nat := if ng x then x - 9223372036854775808 else x + 9223372036854775808
def downB (x : Nat) : Nat := if isN x then quiet else negB (upB (negB x))
def ulpB (x : Nat) : Nat := if isN x then quiet else if 9218868437227405311 ≤ mg x then 9218868437227405312 else rung 52 0 (gap 52 (mg x))
def placeB (x : Nat) : Nat := if ng x then 18446744073709551615 - x else x + 9223372036854775808
def orderB (a b : Nat) : Int := if placeB a < placeB b then -1 else if placeB b < placeB a then 1 else 0
def maxB (a b : Nat) : Nat := if isN a || isN b then quiet else if placeB a < placeB b then b else a
def minB (a b : Nat) : Nat := if isN a || isN b then quiet else if placeB b < placeB a then b else a
def betD (a b : Nat) : Int := rk b - rk a
def betOk (a b : Nat) : Bool := !isN a && !isN b && decide (-9223372036854775808 ≤ betD a b) && decide (betD a b < 9223372036854775808)
def betB (a b : Nat) : Int := if betOk a b then betD a b else 0
def fin (x : Nat) : Bool := decide (mg x < 9218868437227405312)

theorem quiet_lt : quiet < 18446744073709551616 := by decide
theorem negB_lt {x : Nat} (hx : x < 18446744073709551616) : negB x < 18446744073709551616 := by
  unfold negB
  cases h : ng x
  · have := lt_of_ng h; simp; omega
  · simp; omega
theorem upB_lt {x : Nat} (hx : x < 18446744073709551616) : upB x < 18446744073709551616 := by
  have hq := quiet_lt
  have hw := word_eq x hx
  have hm : isN x = false → mg x ≤ 9218868437227405312 := isN_false.1
  unfold upB
  cases hN : isN x
  · have := hm hN
    cases hg : ng x <;> rw [hg] at hw <;> simp at hw ⊢ <;> (repeat' split) <;> omega
  · simp; exact hq
theorem downB_lt {x : Nat} (hx : x < 18446744073709551616) : downB x < 18446744073709551616 := by
  have hq := quiet_lt
  have := negB_lt (upB_lt (negB_lt hx))
  unfold downB; split <;> omega
theorem canonB_lt {x : Nat} (hx : x < 18446744073709551616) : canonB x < 18446744073709551616 := by
  have hq := quiet_lt
  unfold canonB; repeat' split
  all_goals omega
theorem placeB_lt {x : Nat} (hx : x < 18446744073709551616) : placeB x < 18446744073709551616 := by
  unfold placeB
  cases h : ng x
  · have := lt_of_ng h; simp; omega
  · simp; omega

/-- the step from a magnitude to the next is a power of two, which a double has -/
theorem gap_mv (m : Nat) (h : m < 9218868437227405311) : ∃ r, 0 < r ∧ r < 9218868437227405312 ∧ gap 52 m = mv r := by
  unfold gap
  generalize hk : m / 2 ^ 52 - 1 = k
  have hk2 : k ≤ 2045 := by omega
  by_cases c : k < 52
  · refine ⟨2 ^ k, pow_pos k, ?_, ?_⟩
    · have : 2 ^ k < 2 ^ 52 := Nat.pow_lt_pow_right (by omega) c
      omega
    · unfold mv mag
      rw [if_pos (Nat.pow_lt_pow_right (by omega) c)]
  · refine ⟨(k - 51) * 2 ^ 52, by omega, by omega, ?_⟩
    unfold mv mag
    rw [if_neg (by omega), Nat.mul_mod_left, Nat.mul_div_cancel _ (pow_pos 52), Nat.add_zero, ← Nat.pow_add]
    congr 1; omega

theorem ulpB_fin {x : Nat} (h : mg x < 9218868437227405311) : ∃ r, 0 < r ∧ r < 9218868437227405312 ∧ gap 52 (mg x) = mv r ∧ ulpB x = r := by
  obtain ⟨r, h0, h1, e⟩ := gap_mv (mg x) h
  refine ⟨r, h0, h1, e, ?_⟩
  unfold ulpB
  have : isN x = false := isN_false.2 (by omega)
  rw [this, e, rung_mv, if_neg (by simp), if_neg (by omega)]
theorem ulpB_lt (x : Nat) : ulpB x < 18446744073709551616 := by
  by_cases h : mg x < 9218868437227405311
  · obtain ⟨r, _, _, _, e⟩ := ulpB_fin h; omega
  · have hq := quiet_lt
    unfold ulpB; repeat' split
    all_goals omega

/-- the step as the machine reckons it -/
theorem sub_succ (m : Nat) (h : m < 9218868437227405311) : Ieee.double.sub (m + 1) m = some (rung 52 0 (gap 52 m)) := by
  have e1 : mg (m + 1) = m + 1 := mg_of_lt (by omega)
  have e2 : mg m = m := mg_of_lt (by omega)
  rw [sub_d (m + 1) m (by omega) (by omega) (by omega) (by omega)]
  have hs : sv (m + 1) - sv m = ((gap 52 m : Nat) : Int) := by
    unfold sv
    rw [ng_of_lt (show m + 1 < 9223372036854775808 by omega), ng_of_lt (show m < 9223372036854775808 by omega), e1, e2]
    simp only [Bool.false_eq_true, if_false]
    unfold mv; rw [mag_succ]; omega
  obtain ⟨r, h0, h1, e⟩ := gap_mv m h
  rw [hs, e, rn_pos _ r h0 (by omega), rung_mv]

end Go.Proofs.Ytgbaaafikphafaa
