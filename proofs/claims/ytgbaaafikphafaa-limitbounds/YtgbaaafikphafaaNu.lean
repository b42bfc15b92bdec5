/-
  Square roots, held against halfway points, by plain numbers (no program).
-/
import Derived.Test.YtgbaaafikphafaaNr
namespace Go.Proofs.Ytgbaaafikphafaa
open Tf Ieee
/-- the whole root twice, and one more where that isn't all -/
def stW (n : Nat) : Nat := 2 * isq n + (isq n * isq n != n).toNat
theorem st_lt {n y : Nat} (h : y * y < n) : 2 * y < stW n := by
  obtain ⟨a, b⟩ := isq_spec n
  unfold stW
  generalize isq n = q at *
  have h1 : y ≤ q := by
    rcases Nat.lt_or_ge q y with k | k
    · have := Nat.mul_le_mul (show q + 1 ≤ y by omega) (show q + 1 ≤ y by omega)
      omega
    · exact k
  by_cases c : y = q
  · subst c
    have : (y * y != n) = true := by simp; omega
    rw [this]; simp
  · have : (q * q != n).toNat ≤ 1 := by cases (q * q != n) <;> decide
    omega
theorem st_gt {n y : Nat} (h : n < y * y) : stW n < 2 * y := by
  obtain ⟨a, b⟩ := isq_spec n
  unfold stW
  generalize isq n = q at *
  have h1 : q < y := by
    rcases Nat.lt_or_ge q y with k | k
    · exact k
    · have := Nat.mul_le_mul k k
      omega
  have : (q * q != n).toNat ≤ 1 := by cases (q * q != n) <;> decide
  omega
theorem st_le {n y : Nat} (h : y * y ≤ n) : 2 * y ≤ stW n := by
  obtain ⟨a, b⟩ := isq_spec n
  unfold stW
  generalize isq n = q at *
  have h1 : y ≤ q := by
    rcases Nat.lt_or_ge q y with k | k
    · have := Nat.mul_le_mul (show q + 1 ≤ y by omega) (show q + 1 ≤ y by omega)
      omega
    · exact k
  omega
theorem mv_parts {r : Nat} (h : 4503599627370496 ≤ r) : mv r = (4503599627370496 + r % 4503599627370496) * 2 ^ (r / 4503599627370496 - 1) := by
  unfold mv mag
  have e : (2 : Nat) ^ 52 = 4503599627370496 := by decide
  rw [if_neg (by omega), e]
theorem mv_next (r : Nat) : mv (r + 1) = mv r + 2 ^ (r / 4503599627370496 - 1) := by
  have e : (2 : Nat) ^ 52 = 4503599627370496 := by decide
  have h := mag_succ 52 r
  unfold gap at h
  rw [e] at h
  exact h
/-- two numbers side by side that are great enough: their sum is a multiple of 2 ^ (d + 2) -/
theorem mid_mult {r d : Nat} (h : (d + 3) * 4503599627370496 ≤ r) : ∃ y, mv r + mv (r + 1) = y * 2 ^ (d + 2) := by
  rw [mv_next, mv_parts (by omega)]
  obtain ⟨j, hj⟩ : ∃ j, r / 4503599627370496 - 1 = d + 2 + j := by
    have : d + 3 ≤ r / 4503599627370496 := (Nat.le_div_iff_mul_le (by omega)).2 h
    exact ⟨r / 4503599627370496 - 1 - (d + 2), by omega⟩
  rw [hj]
  refine ⟨(2 * (4503599627370496 + r % 4503599627370496) + 1) * 2 ^ j, ?_⟩
  rw [Nat.pow_add 2 (d + 2) j]
  generalize 4503599627370496 + r % 4503599627370496 = a
  generalize 2 ^ (d + 2) = b
  generalize 2 ^ j = c
  rw [show a * (b * c) + (a * (b * c) + b * c) = (2 * a + 1) * (b * c) by rw [Nat.add_mul, Nat.mul_assoc 2, Nat.one_mul]; omega, Nat.mul_comm b c, Nat.mul_assoc]
theorem one_mult {r d : Nat} (h : (d + 3) * 4503599627370496 ≤ r) : ∃ y, 2 * mv r = y * 2 ^ (d + 2) := by
  rw [mv_parts (by omega)]
  obtain ⟨j, hj⟩ : ∃ j, r / 4503599627370496 - 1 = d + 2 + j := by
    have : d + 3 ≤ r / 4503599627370496 := (Nat.le_div_iff_mul_le (by omega)).2 h
    exact ⟨r / 4503599627370496 - 1 - (d + 2), by omega⟩
  rw [hj]
  refine ⟨2 * (4503599627370496 + r % 4503599627370496) * 2 ^ j, ?_⟩
  rw [Nat.pow_add 2 (d + 2) j]
  generalize 4503599627370496 + r % 4503599627370496 = a
  generalize 2 ^ (d + 2) = b
  generalize 2 ^ j = c
  rw [Nat.mul_comm b c, ← Nat.mul_assoc, ← Nat.mul_assoc]
theorem great_rung {r d W : Nat} (hW : 18014398509481984 ≤ W) (h : W * 2 ^ d < mv r) : (d + 3) * 4503599627370496 < r := by
  have e2 := mv_two_pow (d + 2) ((d + 3) * 4503599627370496) (by
    have e : (2 : Nat) ^ 52 = 4503599627370496 := by decide
    rw [e])
  have e3 : 2 ^ (52 + (d + 2)) = 18014398509481984 * 2 ^ d := by
    rw [show 52 + (d + 2) = 54 + d by omega, Nat.pow_add]
  have h1 : 18014398509481984 * 2 ^ d ≤ W * 2 ^ d := Nat.mul_le_mul_right _ hW
  have : mv ((d + 3) * 4503599627370496) < mv r := by omega
  exact mv_lt.1 this
theorem sq_scale (y d : Nat) : (y * 2 ^ (d + 2)) * (y * 2 ^ (d + 2)) = y * y * 2 ^ (2 * d + 4) := by
  rw [show 2 * d + 4 = (d + 2) + (d + 2) by omega, Nat.pow_add 2 (d + 2) (d + 2)]
  generalize 2 ^ (d + 2) = b
  rw [Nat.mul_mul_mul_comm]
theorem four_scale (n d : Nat) : 4 * (n * 2 ^ (2 * d + 2)) = n * 2 ^ (2 * d + 4) := by
  rw [show 2 * d + 4 = (2 * d + 2) + 2 by omega, Nat.pow_add 2 (2 * d + 2) 2]
  generalize 2 ^ (2 * d + 2) = b
  rw [show (2 : Nat) ^ 2 = 4 by decide, Nat.mul_comm b 4, Nat.mul_left_comm]
/-- above halfway: the root is at least the upper one -/
theorem rt_low {n d r : Nat} (hW : 18014398509481984 ≤ stW n) (h : (mv r + mv (r + 1)) * (mv r + mv (r + 1)) < 4 * (n * 2 ^ (2 * d + 2))) : r + 1 ≤ rung 52 0 (stW n * 2 ^ d) := by
  rcases Nat.lt_or_ge (stW n * 2 ^ d) (mv (r + 1)) with c | c
  · have hr := great_rung hW c
    obtain ⟨y, hy⟩ := mid_mult (r := r) (d := d) (by omega)
    rw [hy, sq_scale, four_scale] at h
    have h1 : y * y < n := Nat.lt_of_mul_lt_mul_right h
    have h2 := st_lt h1
    have h3 : mv r + mv (r + 1) < 2 * (stW n * 2 ^ d) := by
      rw [hy, show d + 2 = d + 1 + 1 by omega, Nat.pow_succ, Nat.pow_succ]
      have := (Nat.mul_lt_mul_right (Nat.two_pow_pos d)).2 h2
      generalize 2 ^ d = b at *
      generalize stW n = W at *
      have e1 : y * (b * 2 * 2) = 2 * (2 * y * b) := by rw [show b * 2 * 2 = b * 4 by omega, show 2 * (2 * y * b) = y * b * 4 by rw [Nat.mul_assoc 2 y b]; omega, Nat.mul_assoc]
      omega
    have hlow : mv r ≤ stW n * 2 ^ d := by
      have := mv_le (r := r) (r' := r + 1)
      omega
    have := rung_between 52 0 r (stW n * 2 ^ d) (by omega) (by rw [Nat.pow_zero, Nat.mul_one]; exact hlow) (by rw [Nat.pow_zero, Nat.mul_one]; exact c)
    rw [if_pos (.inl (by rw [Nat.pow_zero, Nat.mul_one]; exact h3))] at this
    omega
  · exact rung_ge (by omega) (by rw [Nat.pow_zero, Nat.mul_one]; exact c)
/-- below halfway: the root is at most the lower one -/
theorem rt_up {n d r : Nat} (hW : 18014398509481984 ≤ stW n) (h : 4 * (n * 2 ^ (2 * d + 2)) < (mv r + mv (r + 1)) * (mv r + mv (r + 1))) : rung 52 0 (stW n * 2 ^ d) ≤ r := by
  rcases Nat.lt_or_ge (stW n * 2 ^ d) (mv (r + 1)) with c | c
  · rcases Nat.lt_or_ge (mv r) (stW n * 2 ^ d) with c2 | c2
    · have hr := great_rung hW c
      obtain ⟨y, hy⟩ := mid_mult (r := r) (d := d) (by omega)
      rw [hy, sq_scale, four_scale] at h
      have h1 : n < y * y := Nat.lt_of_mul_lt_mul_right h
      have h2 := st_gt h1
      have h3 : 2 * (stW n * 2 ^ d) < mv r + mv (r + 1) := by
        rw [hy, show d + 2 = d + 1 + 1 by omega, Nat.pow_succ, Nat.pow_succ]
        have := (Nat.mul_lt_mul_right (Nat.two_pow_pos d)).2 h2
        generalize 2 ^ d = b at *
        generalize stW n = W at *
        have e1 : y * (b * 2 * 2) = 2 * (2 * y * b) := by rw [show b * 2 * 2 = b * 4 by omega, show 2 * (2 * y * b) = y * b * 4 by rw [Nat.mul_assoc 2 y b]; omega, Nat.mul_assoc]
        omega
      have := rung_between 52 0 r (stW n * 2 ^ d) (by omega) (by rw [Nat.pow_zero, Nat.mul_one]; exact Nat.le_of_lt c2) (by rw [Nat.pow_zero, Nat.mul_one]; exact c)
      rw [if_neg (by rw [Nat.pow_zero, Nat.mul_one]; show ¬ (mv r + mv (r + 1) < _ ∨ (mv r + mv (r + 1) = _ ∧ _)); omega)] at this
      omega
    · exact rung_le (by omega) (by rw [Nat.pow_zero, Nat.mul_one]; exact c2)
  · exfalso
    have hr : 2 * mv (r + 1) ≤ 2 * (stW n * 2 ^ d) := by omega
    have hn := (mv_le (r := r) (r' := r + 1)).2 (by omega)
    have c3 : mv r + mv (r + 1) ≤ 2 * mv (r + 1) := by omega
    -- the root is no less than the upper one, so halfway is below it
    by_cases g : (d + 3) * 4503599627370496 ≤ r
    · obtain ⟨y, hy⟩ := mid_mult (r := r) (d := d) g
      rw [hy, sq_scale, four_scale] at h
      have h1 : n < y * y := Nat.lt_of_mul_lt_mul_right h
      have h2 := st_gt h1
      have := (Nat.mul_lt_mul_right (Nat.two_pow_pos d)).2 h2
      rw [hy, show d + 2 = d + 1 + 1 by omega, Nat.pow_succ, Nat.pow_succ] at c3
      generalize 2 ^ d = b at *
      generalize stW n = W at *
      have e1 : y * (b * 2 * 2) = 2 * (2 * y * b) := by rw [show b * 2 * 2 = b * 4 by omega, show 2 * (2 * y * b) = y * b * 4 by rw [Nat.mul_assoc 2 y b]; omega, Nat.mul_assoc]
      omega
    · -- both are small: twice the upper one is at most 2 ^ (55 + d), and the root is at least that half
      have e2 := mv_two_pow (d + 2) ((d + 3) * 4503599627370496) (by
        have e : (2 : Nat) ^ 52 = 4503599627370496 := by decide
        rw [e])
      have hle : mv (r + 1) ≤ mv ((d + 3) * 4503599627370496) := mv_le.2 (by omega)
      have h5 : (mv r + mv (r + 1)) * (mv r + mv (r + 1)) ≤ (2 * 2 ^ (52 + (d + 2))) * (2 * 2 ^ (52 + (d + 2))) := Nat.mul_le_mul (by omega) (by omega)
      have h6 : (2 * 2 ^ (52 + (d + 2))) * (2 * 2 ^ (52 + (d + 2))) = 9007199254740992 * 9007199254740992 * 2 ^ (2 * d + 4) := by
        rw [show 2 * 2 ^ (52 + (d + 2)) = 9007199254740992 * 2 ^ (d + 2) by rw [Nat.pow_add 2 52 (d + 2), ← Nat.mul_assoc], sq_scale]
      rw [four_scale] at h
      have h7 : n < 9007199254740992 * 9007199254740992 := by
        refine Nat.lt_of_mul_lt_mul_right (a := 2 ^ (2 * d + 4)) ?_
        omega
      have := st_gt h7
      omega
/-- what the root of a number is -/
theorem sqrt_core {T : Nat} (hT : T < 18446744073709551616) (hn : ng T = false) (h1 : 4503599627370496 ≤ mg T) (h2 : mg T < 9218868437227405312) :
    ∃ n d, mv (mg T) * 2 ^ K = n * 2 ^ (2 * d + 2) ∧ 18014398509481984 ≤ stW n ∧ rtB T = rung 52 0 (stW n * 2 ^ d) ∧ 4503599627370496 ≤ rtB T ∧ rtB T ≤ 6976075822796898304 := by
  have e1 := sqrt_eq hT hn h1 h2
  have hp := mv_parts h1
  have hq : mg T % 4503599627370496 < 4503599627370496 := Nat.mod_lt _ (by omega)
  generalize hm : 4503599627370496 + mg T % 4503599627370496 = m at e1 hp
  have hl : m.log2 = 52 := by rw [← hm]; exact log_m _ hq
  have hk : mg T / 4503599627370496 - 1 ≤ 2045 := by omega
  generalize mg T / 4503599627370496 - 1 = k at e1 hp hk
  have hlp := d_lp
  generalize hi : double.leastPlace + (k : Int) = i at e1
  obtain ⟨m1, m2, m3, m4⟩ := rtM_val i hl
  generalize rtM m i = s at *
  obtain ⟨w1, w2⟩ := rtW_val (m := m) (s := s) (by omega) (by omega) ⟨m1, m2⟩
  have hst : rtW m s = stW (m <<< s) := rfl
  obtain ⟨d, hd⟩ : ∃ d : Nat, (i - (s : Int)) / 2 - 1 = double.leastPlace + (d : Int) := ⟨((i - (s : Int)) / 2 - 1 - double.leastPlace).toNat, by omega⟩
  have hdle : d ≤ 1531 := by omega
  have hks : k + K = s + (2 * d + 2) := by
    have : K = 1074 := rfl
    omega
  rw [nearest_up double false (rtW m s) d _ hd, d_word, d_inf] at e1
  generalize rtW m s = W at *
  have h0 : W * 2 ^ d ≠ 0 := Nat.mul_ne_zero (by omega) (by have := Nat.two_pow_pos d; omega)
  have hlog : 52 + 0 ≤ (W * 2 ^ d).log2 := by
    refine (Nat.le_log2 h0).2 ?_
    have e : (2 : Nat) ^ (52 + 0) = 4503599627370496 := by decide
    rw [e]
    have := Nat.two_pow_pos d
    exact Nat.le_trans (by omega) (Nat.le_mul_of_pos_right W this)
  have hb := rung_big hlog h0
  have hW57 : W ≤ 2 ^ 57 := by
    have e : (2 : Nat) ^ 57 = 144115188075855872 := by decide
    omega
  have hle := rung_E16 (le_E16 hW57 hdle)
  have hfb : double.fractionBits = 52 := rfl
  rw [hfb] at e1
  refine ⟨m <<< s, d, ?_, by omega, ?_⟩
  · rw [hp, Nat.shiftLeft_eq, Nat.mul_assoc, ← Nat.pow_add, hks, Nat.pow_add, ← Nat.mul_assoc]
  · rw [← hst]
    generalize rung 52 0 (W * 2 ^ d) = r at *
    simp only [Bool.false_eq_true, if_false] at e1
    rw [Nat.min_eq_left (by omega)] at e1
    have hmr : mg r = r := mg_of_lt (by omega)
    have c1 : canonB r = r := by unfold canonB; rw [if_neg (by rw [isN_true]; omega), if_neg (by omega)]
    rw [rtB_some e1, c1]
    exact ⟨rfl, hb, hle⟩
end Go.Proofs.Ytgbaaafikphafaa
