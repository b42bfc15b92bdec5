/-
  What doubling does, by plain numbers (no program).
-/
import Derived.Test.YtgbaaafikphafaaNa
import Derived.Test.YtgbaaafikphafaaPd
namespace Go.Proofs.Ytgbaaafikphafaa
open Tf Ieee

theorem mv_dbl {r : Nat} (h : 4503599627370496 ≤ r) : mv (r + 4503599627370496) = 2 * mv r := by
  unfold mv mag
  have e : (2 : Nat) ^ 52 = 4503599627370496 := by decide
  rw [if_neg (by omega), if_neg (by omega), e]
  have h1 : (r + 4503599627370496) % 4503599627370496 = r % 4503599627370496 := by omega
  have h2 : (r + 4503599627370496) / 4503599627370496 - 1 = (r / 4503599627370496 - 1) + 1 := by omega
  rw [h1, h2, Nat.pow_add, Nat.pow_one, ← Nat.mul_assoc, Nat.mul_comm]
theorem rung_dbl {d V : Nat} (h0 : V ≠ 0) (h : 52 + d ≤ V.log2) : rung 52 d (V * 2) = rung 52 d V + 4503599627370496 := by
  unfold rung
  have hl : (V * 2).log2 = V.log2 + 1 := by
    have := log2_mul_pow V 1 h0
    rwa [Nat.pow_one] at this
  have e : (2 : Nat) ^ 52 = 4503599627370496 := by decide
  rw [hl, show V.log2 + 1 - (52 + d) = (V.log2 - (52 + d)) + 1 by omega, show (V.log2 - (52 + d)) + 1 + d = (V.log2 - (52 + d) + d) + 1 by omega]
  rw [Nat.pow_succ 2 (V.log2 - (52 + d) + d), rne_scale _ _ 2 (by omega), e]
  omega
theorem rung_big {d V : Nat} (h : 52 + d ≤ V.log2) (h0 : V ≠ 0) : 4503599627370496 ≤ rung 52 d V := by
  have e : mag 52 4503599627370496 = 2 ^ 52 := by decide
  refine rung_ge (by omega) ?_
  rw [e, ← Nat.pow_add]
  exact Nat.le_trans (Nat.pow_le_pow_right (by omega) h) (Nat.log2_self_le h0)
/-- the double of a word -/
def db (x : Nat) : Nat := if mg x = 0 then x else x + 4503599627370496
theorem db_mg {x : Nat} (h : mg x = 0 ∨ mg x + 4503599627370496 < 9223372036854775808) : mg (db x) = if mg x = 0 then 0 else mg x + 4503599627370496 := by
  unfold db
  by_cases c : mg x = 0
  · rw [if_pos c, if_pos c, c]
  · rw [if_neg c, if_neg c]
    have h := h.resolve_left c
    unfold mg at *
    omega
theorem db_ng {x : Nat} (h : mg x = 0 ∨ mg x + 4503599627370496 < 9223372036854775808) (hx : x < 18446744073709551616) : ng (db x) = ng x := by
  unfold db
  by_cases c : mg x = 0
  · rw [if_pos c]
  · rw [if_neg c]
    have h := h.resolve_left c
    unfold mg at *
    unfold ng
    by_cases k : 9223372036854775808 ≤ x
    · rw [decide_eq_true k, decide_eq_true (by omega)]
    · rw [decide_eq_false k, decide_eq_false (by omega)]
theorem db_lt {x : Nat} (h : mg x = 0 ∨ mg x + 4503599627370496 < 9223372036854775808) (hx : x < 18446744073709551616) : db x < 18446744073709551616 := by
  unfold db
  by_cases c : mg x = 0
  · rw [if_pos c]; exact hx
  · rw [if_neg c]
    have h := h.resolve_left c
    unfold mg at *
    omega
/-- nought, or a number far from both ends -/
def Md (x : Nat) : Prop := mg x = 0 ∨ (4503599627370496 ≤ mg x ∧ mg x + 4503599627370496 < 9218868437227405312)
theorem Md.w {x : Nat} (h : Md x) : mg x = 0 ∨ mg x + 4503599627370496 < 9223372036854775808 := by rcases h with h | h; exact .inl h; exact .inr (by omega)
theorem Md.fin {x : Nat} (h : Md x) : mg x < 9218868437227405312 := by rcases h with h | h <;> omega
theorem Md.dfin {x : Nat} (h : Md x) : mg (db x) < 9218868437227405312 := by
  rw [db_mg h.w]
  rcases h with h | h
  · rw [if_pos h]; omega
  · rw [if_neg (by omega)]; omega
theorem db_sv {x : Nat} (h : Md x) (hx : x < 18446744073709551616) : sv (db x) = 2 * sv x := by
  unfold sv
  rw [db_ng h.w hx, db_mg h.w]
  rcases h with h | h
  · rw [if_pos h, h, mv_zero]; cases ng x <;> rfl
  · rw [if_neg (show ¬ mg x = 0 by omega), mv_dbl h.1]
    cases ng x <;> simp <;> omega
theorem db_neg {x : Nat} (h : Md x) (hx : x < 18446744073709551616) : db (negB x) = negB (db x) := by
  have e := db_ng h.w hx
  unfold db at *
  rw [negB_mg hx]
  by_cases c : mg x = 0
  · rw [if_pos c, if_pos c]
  · rw [if_neg c] at *
    rw [if_neg c]
    unfold negB
    rw [e]
    cases k : ng x
    · simp only [Bool.false_eq_true, if_false, Nat.add_assoc, Nat.add_comm 9223372036854775808]
    · have := ge_of_ng k
      simp only [if_true]; omega
theorem Md.neg {x : Nat} (h : Md x) (hx : x < 18446744073709551616) : Md (negB x) := by unfold Md; rw [negB_mg hx]; exact h
/-- a rounded number doubled -/
theorem rn_dbl (z : Bool) {v : Int} (h : v = 0 ∨ (4503599627370496 ≤ v.natAbs ∧ rung 52 0 v.natAbs + 4503599627370496 ≤ 9218868437227405312)) : rn z (2 * v) = db (rn z v) := by
  rcases h with rfl | ⟨h1, h2⟩
  · rw [Int.mul_zero, rn_zero]; cases z <;> decide
  · have hv : v ≠ 0 := by intro h; rw [h] at h1; simp at h1
    have h0 : v.natAbs ≠ 0 := by omega
    have hlog : 52 + 0 ≤ v.natAbs.log2 := by
      have e : (2 : Nat) ^ 52 = 4503599627370496 := by decide
      rcases Nat.lt_or_ge v.natAbs.log2 52 with k | k
      · have := Nat.lt_log2_self (n := v.natAbs)
        have h3 : 2 ^ (v.natAbs.log2 + 1) ≤ 2 ^ 52 := Nat.pow_le_pow_right (by omega) (by omega)
        omega
      · omega
    have hr := rung_dbl h0 hlog
    have hb := rung_big hlog h0
    have e2 : (2 * v).natAbs = v.natAbs * 2 := by omega
    have hm : mg (rn z v) = rung 52 0 v.natAbs := by rw [rn_mg]; omega
    unfold db
    rw [hm, if_neg (by omega)]
    unfold rn
    rw [if_neg hv, if_neg (show ¬ 2 * v = 0 by omega), e2, hr]
    generalize rung 52 0 v.natAbs = r at *
    rw [Nat.min_eq_left (by omega), Nat.min_eq_left (by omega)]
    by_cases c : v < 0
    · rw [decide_eq_true c, decide_eq_true (show 2 * v < 0 by omega)]; simp; omega
    · rw [decide_eq_false c, decide_eq_false (show ¬ 2 * v < 0 by omega)]; simp
end Go.Proofs.Ytgbaaafikphafaa
