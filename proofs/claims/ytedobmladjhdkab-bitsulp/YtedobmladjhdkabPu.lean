/-
  Doubling, and a quarter of a step, as the machine's operations give them (no program).
-/
import Derived.Test.YtedobmladjhdkabPn
namespace Go.Proofs.Ytedobmladjhdkab
open Tf

theorem mv_pow (k : Nat) (c : 52 ≤ k) : mv ((k - 51) * 2 ^ 52) = 2 ^ k := by
  unfold mv mag
  rw [if_neg (by omega), Nat.mul_mod_left, Nat.mul_div_cancel _ (pow_pos 52), Nat.add_zero, ← Nat.pow_add]
  congr 1; omega
theorem mv_two : mv 4611686018427387904 = 2 ^ (1074 + 1) := by
  have h := mv_pow (1074 + 1) (by omega)
  rw [show (1074 + 1 - 51) * 2 ^ 52 = 4611686018427387904 from by decide] at h
  exact h
theorem mv_quarter : mv 4598175219545276416 = 2 ^ 1072 := by
  unfold mv mag
  have e1 : 4598175219545276416 % 2 ^ 52 = 0 := by decide
  have e2 : 4598175219545276416 / 2 ^ 52 - 1 = 1020 := by decide
  rw [if_neg (by decide), e1, e2, Nat.add_zero]
  exact pow_split 52 1020 1072 rfl

theorem twice_scale (d v : Nat) : 2 ^ (d + 1) * v = 2 * v * 2 ^ d := by
  rw [Nat.pow_succ, Nat.mul_comm (2 ^ d) 2, Nat.mul_assoc, Nat.mul_assoc, Nat.mul_comm (2 ^ d)]

theorem rung_twice (d r v : Nat) (e : mv r = 2 * v) : rung 52 d (2 ^ (d + 1) * v) = r := by
  rw [twice_scale, ← e]; exact rung_mag 52 d r (by omega)

/-- twice a float, where a float has twice its units -/
theorem mul_two (x r : Nat) (hx : x < 18446744073709551616) (h : mg x < 9218868437227405312) (e : mv r = 2 * mv (mg x)) :
    Ieee.double.mul 4611686018427387904 x = some (if ng x then 9223372036854775808 + min r 9218868437227405312 else min r 9218868437227405312) := by
  rw [mul_d 4611686018427387904 x (by decide) hx (by decide) h]
  rw [ng_of_lt (show 4611686018427387904 < 9223372036854775808 by decide), mg_of_lt (show 4611686018427387904 < 9223372036854775808 by decide), mv_two]
  rw [rung_twice 1074 r _ e, Bool.false_xor]

/-- of a normal magnitude: one binade further is twice as much -/
theorem mv_binade (r : Nat) (h : 4503599627370496 ≤ r) : mv (r + 4503599627370496) = 2 * mv r := by
  unfold mv mag
  have e1 : (r + 4503599627370496) % 2 ^ 52 = r % 2 ^ 52 := by omega
  have e2 : (r + 4503599627370496) / 2 ^ 52 - 1 = (r / 2 ^ 52 - 1) + 1 := by omega
  rw [if_neg (by omega), if_neg (by omega), e1, e2, Nat.pow_succ 2 (r / 2 ^ 52 - 1), ← Nat.mul_assoc, Nat.mul_comm]
theorem gap_binade (r : Nat) (h : 4503599627370496 ≤ r) : gap 52 (r + 4503599627370496) = 2 * gap 52 r := by
  unfold gap
  have e2 : (r + 4503599627370496) / 2 ^ 52 - 1 = (r / 2 ^ 52 - 1) + 1 := by omega
  rw [e2, Nat.pow_succ, Nat.mul_comm]

/-- a quarter of a power of two, as the machine reckons it: at most a quarter of it -/
theorem quarter_le (d r k : Nat) (h : mv r = 2 ^ k) : 4 * mv (rung 52 (d + 2) (mv r * 2 ^ d)) ≤ mv r := by
  have hd := pow_pos d
  have hp : (2 : Nat) ^ (d + 2) = 4 * 2 ^ d := by rw [Nat.pow_add]; omega
  have e0 : mag 52 0 = 0 := mag_zero 52
  have e1 : mag 52 (0 + 1) = 1 := by decide
  by_cases c : k < 2
  · have hk : (2 : Nat) ^ k ≤ 2 := by
      have : k = 0 ∨ k = 1 := by omega
      rcases this with rfl | rfl <;> decide
    have h2 : mv r * 2 ^ d ≤ 2 * 2 ^ d := Nat.mul_le_mul_right _ (by omega)
    have : rung 52 (d + 2) (mv r * 2 ^ d) = 0 := by
      rw [rung_between 52 (d + 2) 0 _ (by omega) (by rw [e0]; omega) (by rw [e1, hp]; omega), e0, e1, hp, if_neg (by omega)]
    rw [this, mv_zero]; omega
  · obtain ⟨j, rfl⟩ : ∃ j, k = j + 2 := ⟨k - 2, by omega⟩
    have hlt : ∃ r', mv r' = 2 ^ j := by
      by_cases c : j < 52
      · refine ⟨2 ^ j, ?_⟩
        unfold mv mag
        rw [if_pos (Nat.pow_lt_pow_right (by omega) c)]
      · refine ⟨(j - 51) * 2 ^ 52, ?_⟩
        unfold mv mag
        rw [if_neg (by omega), Nat.mul_mod_left, Nat.mul_div_cancel _ (pow_pos 52), Nat.add_zero, ← Nat.pow_add]
        congr 1; omega
    obtain ⟨r', e'⟩ := hlt
    have e2 : mv r * 2 ^ d = mag 52 r' * 2 ^ (d + 2) := by
      show _ = mv r' * _
      rw [h, e', ← Nat.pow_add, ← Nat.pow_add]; congr 1; omega
    rw [e2, rung_mag 52 (d + 2) r' (by omega), h, e', Nat.pow_add]; omega
theorem mul_quarter (r k : Nat) (hr : mv r = 2 ^ k) (hlt : r < 9218868437227405312) : ∃ h, Ieee.double.mul r 4598175219545276416 = some h ∧ h < 9218868437227405312 ∧ 4 * mv h ≤ mv r := by
  have e := mul_d r 4598175219545276416 (by omega) (by decide) (by rw [mg_of_lt (by omega)]; exact hlt) (by decide)
  rw [ng_of_lt (show r < 9223372036854775808 by omega), ng_of_lt (show 4598175219545276416 < 9223372036854775808 by decide), mg_of_lt (show r < 9223372036854775808 by omega), mg_of_lt (show 4598175219545276416 < 9223372036854775808 by decide), mv_quarter] at e
  have hl : 4 * mv (rung 52 1074 (mv r * 2 ^ 1072)) ≤ mv r := quarter_le 1072 r k hr
  generalize rung 52 1074 (mv r * 2 ^ 1072) = q at *
  have hq : q ≤ r := mv_le.1 (by omega)
  have em : min q 9218868437227405312 = q := by omega
  rw [em] at e
  exact ⟨q, by simpa using e, by omega, hl⟩

theorem ulpB_mg {x y : Nat} (h : mg x = mg y) : ulpB x = ulpB y := by unfold ulpB isN; rw [h]

/-- a quarter of a step is not seen -/
theorem add_quarter (m : Nat) (hm : m < 18446744073709551616) (h : mg m < 9218868437227405311) (h0 : 0 ≤ rk m) :
    ∃ q s, Ieee.double.mul (ulpB m) 4598175219545276416 = some q ∧ Ieee.double.add m q = some s ∧ feq s m = true := by
  obtain ⟨u, u0, u1, e, eu⟩ := ulpB_fin (x := m) h
  obtain ⟨q, e2, hq, hl⟩ := mul_quarter u _ (show mv u = 2 ^ (mg m / 2 ^ 52 - 1) from e.symm) u1
  refine ⟨q, _, by rw [eu]; exact e2, add_d m q hm (by omega) (by omega) (by rw [mg_of_lt (by omega)]; exact hq), ?_⟩
  rw [feq_rk _ _ (rn_lt _ _) hm, isN_rn, rk_rn, isN_false.2 (by omega : mg m ≤ 9218868437227405312)]
  have sq : sv q = mv q := by unfold sv; rw [ng_of_lt (by omega), mg_of_lt (by omega)]; rfl
  have sm : sv m = mv (mg m) := by
    unfold sv
    cases hn : ng m
    · rfl
    · unfold rk at h0; rw [hn] at h0; simp only [if_true] at h0
      rw [show mg m = 0 by omega, mv_zero]; rfl
  have rm : rk m = mg m := by
    unfold rk at h0 ⊢
    split
    · rename_i hn; rw [if_pos hn] at h0; omega
    · rfl
  have e3 : R (sv m + sv q) = mg m := by
    rw [sq, sm]
    have e4 : (mv (mg m) : Int) + (mv q : Int) = ((mv (mg m) + mv q : Nat) : Int) := by omega
    have hg := mv_succ (mg m)
    have hg2 := gap_pos 52 (mg m)
    have hr : rung 52 0 (mv (mg m) + mv q) = mg m := by
      have b1 : mag 52 (mg m) = mv (mg m) := rfl
      have b2 : mag 52 (mg m + 1) = mv (mg m + 1) := rfl
      rw [rung_between 52 0 (mg m) _ (by omega) (by rw [b1, Nat.pow_zero]; omega) (by rw [b2, Nat.pow_zero]; omega), b1, b2, Nat.pow_zero, if_neg (by omega)]
    unfold R
    rw [e4, Int.natAbs_natCast, hr, if_neg (by omega)]
    omega
  rw [e3, rm]; simp

end Go.Proofs.Ytedobmladjhdkab
