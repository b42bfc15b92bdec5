/-
  The nearest float of fewer bits lies between the middles, by plain numbers (no program).
-/
import Derived.Test.YtpncpbpdbdlamaaPo
namespace Go.Proofs.Ytpncpbpdbdlamaa
open Tf

/-- between whose middles a number lies that is rounded to r -/
theorem mids (p d V r : Nat) (hp : 1 ≤ p) (h : rung p d V = r) :
    (2 * V < (mag p r + mag p (r + 1)) * 2 ^ d ∨ (2 * V = (mag p r + mag p (r + 1)) * 2 ^ d ∧ r % 2 = 0)) ∧
    (0 < r → (mag p (r - 1) + mag p r) * 2 ^ d < 2 * V ∨ ((mag p (r - 1) + mag p r) * 2 ^ d = 2 * V ∧ r % 2 = 0)) := by
  obtain ⟨s, a, b⟩ := floor_ex p d V
  have hd := pow_pos d
  have e := rung_between p d s V hp a b
  rw [h] at e
  have st : ∀ t, mag p t * 2 ^ d < mag p (t + 1) * 2 ^ d := fun t => (Nat.mul_lt_mul_right hd).2 (mag_lt.2 (by omega))
  have ad : ∀ t, (mag p t + mag p (t + 1)) * 2 ^ d = mag p t * 2 ^ d + mag p (t + 1) * 2 ^ d := fun t => Nat.add_mul ..
  by_cases c : (mag p s + mag p (s + 1)) * 2 ^ d < 2 * V ∨ ((mag p s + mag p (s + 1)) * 2 ^ d = 2 * V ∧ s % 2 = 1)
  · rw [if_pos c] at e
    subst e
    refine ⟨?_, fun _ => ?_⟩
    · rw [ad]
      have := st (s + 1)
      left; omega
    · rw [show s + 1 - 1 = s by omega]
      rcases c with c | ⟨c, c2⟩
      · exact .inl c
      · exact .inr ⟨c, by omega⟩
  · rw [if_neg c] at e
    subst e
    refine ⟨?_, fun h0 => ?_⟩
    · generalize (mag p r + mag p (r + 1)) * 2 ^ d = M at *
      omega
    · obtain ⟨t, rfl⟩ : ∃ t, r = t + 1 := ⟨r - 1, by omega⟩
      rw [show t + 1 - 1 = t by omega, ad]
      have := st t
      left; omega

/-- a half of a magnitude of fewer bits, and the middle of two, are doubles -/
theorem half_mag (p c r : Nat) (hp : p ≤ 51) : ∃ R, mv R = mag p r * 2 ^ c := by
  obtain ⟨A, k, hA, e⟩ := mag_form p r
  have h1 : 2 ^ (p + 1) ≤ 2 ^ 52 := Nat.pow_le_pow_right (by omega) (by omega)
  obtain ⟨R, hR⟩ := rep 52 A (k + c) (by omega)
  exact ⟨R, by rw [e, Nat.mul_assoc, ← Nat.pow_add]; exact hR⟩
theorem mid_mag (p c r : Nat) (hp : p ≤ 50) : ∃ R, mv R = (mag p r + mag p (r + 1)) * 2 ^ c := by
  have hp0 := pow_pos p
  have h1 : 2 ^ (p + 2) ≤ 2 ^ 52 := Nat.pow_le_pow_right (by omega) (by omega)
  have h2 : 2 ^ (p + 2) = 4 * 2 ^ p := by rw [Nat.pow_succ, Nat.pow_succ]; omega
  rw [mag_succ]
  unfold gap
  have key : ∃ A, A ≤ 2 ^ 53 ∧ mag p r + (mag p r + 2 ^ (r / 2 ^ p - 1)) = A * 2 ^ (r / 2 ^ p - 1) := by
    unfold mag
    by_cases h : r < 2 ^ p
    · refine ⟨2 * r + 1, by omega, ?_⟩
      rw [if_pos h, Nat.div_eq_of_lt h]; simp; omega
    · refine ⟨2 * (2 ^ p + r % 2 ^ p) + 1, ?_, ?_⟩
      · have := Nat.mod_lt r hp0
        omega
      · rw [if_neg h]
        generalize 2 ^ p + r % 2 ^ p = B
        rw [Nat.add_mul, Nat.one_mul, Nat.mul_assoc]; omega
  obtain ⟨A, hA, e⟩ := key
  obtain ⟨R, hR⟩ := rep 52 A (r / 2 ^ p - 1 + c) (by omega)
  exact ⟨R, by rw [e, Nat.mul_assoc, ← Nat.pow_add]; exact hR⟩

/-- a half of a double, exact -/
theorem half_mul (b r : Nat) (s : Bool) (hb : b < 9218868437227405312) (hr : r ≤ 9218868437227405312) (e : 2 * mv r = mv b) :
    Ieee.double.mul 4602678819172646912 (if s then 9223372036854775808 + b else b) = some (if s then 9223372036854775808 + r else r) := by
  have w := word_parts s b (by omega)
  have hK : (1074 : Nat) = K := rfl
  rw [mul_d _ _ (by decide) w.2.2.2.2 (by decide) (by rw [w.1]; exact hb), w.1, w.2.1]
  have e1 : ng 4602678819172646912 = false := by decide
  have e2 : mg 4602678819172646912 = 4602678819172646912 := by decide
  rw [e1, e2, hK]
  have : mv 4602678819172646912 * mv b = mag 52 r * 2 ^ K := by
    show _ = mv r * _
    have := mv_half
    rw [← one_pow, ← this, ← e, ← Nat.mul_assoc, Nat.mul_comm _ 2, Nat.mul_comm (mv r)]
  rw [this, rung_mag 52 K r (by omega), Nat.min_eq_left hr, Bool.false_xor]
theorem add_pos (a b r : Nat) (ha : a < 9218868437227405312) (hb : b < 9218868437227405312) (hr : r ≤ 9218868437227405312) (e : mv r = mv a + mv b) :
    Ieee.double.add a b = some r := by
  have wa := word_parts false a (by omega)
  have wb := word_parts false b (by omega)
  rw [if_neg (by decide)] at wa wb
  rw [add_d a b wa.2.2.2.2 wb.2.2.2.2 (by rw [wa.1]; exact ha) (by rw [wb.1]; exact hb), wa.2.1, wb.2.1]
  have : sv a + sv b = (mv r : Int) := by
    unfold sv; rw [wa.2.1, wb.2.1, wa.1, wb.1, if_neg (by decide), if_neg (by decide), e]; simp
  rw [this]
  by_cases c : r = 0
  · subst c; rw [mv_zero]; rfl
  · rw [rn_pos _ r (by omega) hr]
theorem add_neg0 (a : Nat) (h0 : 0 < a) (ha : a < 9218868437227405312) : Ieee.double.add (9223372036854775808 + a) 0 = some (9223372036854775808 + a) := by
  have wa := word_parts true a (by omega)
  rw [if_pos rfl] at wa
  rw [add_d _ 0 wa.2.2.2.2 (by decide) (by rw [wa.1]; exact ha) (by decide), wa.2.1]
  have : sv (9223372036854775808 + a) + sv 0 = -(mv a : Int) := by
    have e0 : sv 0 = 0 := by decide
    unfold sv at e0 ⊢; rw [wa.2.1, wa.1, if_pos rfl]; rw [e0]; simp
  rw [this, rn_neg _ a h0 (by omega)]

theorem cmp_pos (a b : Nat) (ha : a ≤ 9218868437227405312) (hb : b ≤ 9218868437227405312) : fgt a b = decide (mv b < mv a) ∧ feq a b = decide (mv a = mv b) ∧ flt a b = decide (mv a < mv b) := by
  have wa := word_parts false a ha
  have wb := word_parts false b hb
  rw [if_neg (by decide)] at wa wb
  rw [fgt_rk a b wa.2.2.2.2 wb.2.2.2.2, feq_rk a b wa.2.2.2.2 wb.2.2.2.2, flt_rk a b wa.2.2.2.2 wb.2.2.2.2, wa.2.2.1, wb.2.2.1, wa.2.2.2.1, wb.2.2.2.1]
  simp only [Bool.not_false, Bool.and_self, Bool.true_and, Bool.false_eq_true, if_false]
  refine ⟨decide_eq_decide.2 ?_, decide_eq_decide.2 ?_, decide_eq_decide.2 ?_⟩
  · rw [mv_lt]; omega
  · rw [mv_inj]; omega
  · rw [mv_lt]; omega

/-- where the infinity begins -/
theorem inf32_iff (x : Nat) : t32 x = 2139095040 ↔ 5183643170835005440 ≤ mg x := by
  have a1 : rung 23 K2 (mv 5183643170835005440) = 2139095040 := by decide +kernel
  have a2 : rung 23 K2 (mv 5183643170835005439) = 2139095039 := by decide +kernel
  unfold t32
  constructor
  · intro h
    by_cases c : 5183643170835005440 ≤ mg x
    · exact c
    · exfalso
      have := rung_mono (p := 23) (d := K2) (by omega) (mv_le.2 (show mg x ≤ 5183643170835005439 by omega))
      generalize rung 23 K2 (mv (mg x)) = r at *
      omega
  · intro h
    have := rung_mono (p := 23) (d := K2) (by omega) (mv_le.2 h)
    generalize rung 23 K2 (mv (mg x)) = r at *
    omega
theorem inf16_iff (x : Nat) : t16 x = 31744 ↔ 4679237813814689792 ≤ mg x := by
  have a1 : rung 10 H2 (mv 4679237813814689792) = 31744 := by decide +kernel
  have a2 : rung 10 H2 (mv 4679237813814689791) = 31743 := by decide +kernel
  unfold t16
  constructor
  · intro h
    by_cases c : 4679237813814689792 ≤ mg x
    · exact c
    · exfalso
      have := rung_mono (p := 10) (d := H2) (by omega) (mv_le.2 (show mg x ≤ 4679237813814689791 by omega))
      generalize rung 10 H2 (mv (mg x)) = r at *
      omega
  · intro h
    have := rung_mono (p := 10) (d := H2) (by omega) (mv_le.2 h)
    generalize rung 10 H2 (mv (mg x)) = r at *
    omega
theorem zero32_16 (x : Nat) (h : t32 x = 0) : t16 x = 0 := by
  have a1 : rung 10 H2 (mag 23 1 * 2 ^ K2) = 0 := by decide +kernel
  have hv : mv (mg x) ≤ mag 23 1 * 2 ^ K2 := by
    by_cases c : mv (mg x) ≤ mag 23 1 * 2 ^ K2
    · exact c
    · exfalso
      have := rung_ge (p := 23) (d := K2) (r := 1) (V := mv (mg x)) (by omega) (by omega)
      unfold t32 at h
      generalize rung 23 K2 (mv (mg x)) = r at *
      omega
  have := rung_mono (p := 10) (d := H2) (by omega) hv
  unfold t16
  generalize rung 10 H2 (mv (mg x)) = r at *
  omega
theorem last32_16 (x : Nat) (h : 2139095039 ≤ t32 x) : t16 x = 31744 := by
  rw [inf16_iff]
  by_cases c : 4679237813814689792 ≤ mg x
  · exact c
  · exfalso
    have a1 : rung 23 K2 (mv 4679237813814689792) < 2139095039 := by decide +kernel
    have := rung_mono (p := 23) (d := K2) (by omega) (mv_le.2 (show mg x ≤ 4679237813814689792 by omega))
    unfold t32 at h
    generalize rung 23 K2 (mv (mg x)) = r at *
    omega
end Go.Proofs.Ytpncpbpdbdlamaa
