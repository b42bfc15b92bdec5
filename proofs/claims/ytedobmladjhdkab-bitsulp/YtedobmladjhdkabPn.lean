/-
  The half step, and the whole step, as the machine's operations give them (no program).
-/
import Derived.Test.YtedobmladjhdkabPm
namespace Go.Proofs.Ytedobmladjhdkab
open Tf

theorem pow_split (a b c : Nat) (h : a + b = c) : 2 ^ a * 2 ^ b = 2 ^ c := by rw [← Nat.pow_add, h]
theorem mv_half : mv 4602678819172646912 = 2 ^ 1073 := by
  unfold mv mag
  have e1 : 4602678819172646912 % 2 ^ 52 = 0 := by decide
  have e2 : 4602678819172646912 / 2 ^ 52 - 1 = 1021 := by decide
  rw [if_neg (by decide), e1, e2, Nat.add_zero]
  exact pow_split 52 1021 1073 rfl
theorem mul_half (r k : Nat) (hr : mv r = 2 ^ k) (hlt : r < 9218868437227405312) : ∃ h, Ieee.double.mul r 4602678819172646912 = some h ∧ h < 9218868437227405312 ∧ 2 * mv h ≤ mv r := by
  have e := mul_d r 4602678819172646912 (by omega) (by decide) (by rw [mg_of_lt (by omega)]; exact hlt) (by decide)
  rw [ng_of_lt (show r < 9223372036854775808 by omega), ng_of_lt (show 4602678819172646912 < 9223372036854775808 by decide), mg_of_lt (show r < 9223372036854775808 by omega), mg_of_lt (show 4602678819172646912 < 9223372036854775808 by decide), mv_half] at e
  have hl : 2 * mv (rung 52 1074 (mv r * 2 ^ 1073)) ≤ mv r := half_le 1073 r k hr
  generalize rung 52 1074 (mv r * 2 ^ 1073) = q at *
  have hq : q ≤ r := mv_le.1 (by omega)
  have em : min q 9218868437227405312 = q := by omega
  rw [em] at e
  exact ⟨q, by simpa using e, by omega, hl⟩

theorem fin_iff {x : Nat} : fin x = true ↔ mg x < 9218868437227405312 := by unfold fin; simp

/-- the middle of a float and the next one: one of the two -/
theorem mid_fact (x : Nat) (hx : x < 18446744073709551616) (h : mg x < 9218868437227405312) (hi : ¬ x = 9218868437227405311) :
    ∃ s h mid, Ieee.double.sub (upB x) x = some s ∧ Ieee.double.mul s 4602678819172646912 = some h ∧ Ieee.double.add x h = some mid ∧ mid < 18446744073709551616 ∧ isN mid = false ∧ rk x ≤ rk mid ∧ rk mid ≤ rk (upB x) := by
  have n : isN x = false := isN_false.2 (by omega)
  have hu := upB_lt hx
  have hne : ¬ x = 9218868437227405312 := by intro e; subst e; simp [mg] at h
  have ru := rk_up x hx n hne
  have mu : mg (upB x) < 9218868437227405312 := by
    have a := isN_false.1 ru.1
    have hw := word_eq x hx
    by_cases c : mg (upB x) = 9218868437227405312
    · exfalso
      have r2 := ru.2
      unfold rk at r2
      rw [c] at r2
      cases hn : ng x
      · rw [hn] at r2 hw
        simp only [Bool.false_eq_true, if_false] at r2 hw
        split at r2 <;> omega
      · rw [hn] at r2
        simp only [if_true] at r2
        split at r2 <;> omega
    · omega
  obtain ⟨r, h0, h1, e, k, hk⟩ := sv_up x hx h hi
  have es : Ieee.double.sub (upB x) x = some r := by
    rw [sub_d (upB x) x hu hx mu h, e, rn_pos _ r h0 (by omega)]
  obtain ⟨q, e2, hq, hl⟩ := mul_half r k hk h1
  have sq : sv q = mv q := by unfold sv; rw [ng_of_lt (by omega), mg_of_lt (by omega)]; rfl
  refine ⟨r, q, _, es, e2, add_d x q hx (by omega) h (by rw [mg_of_lt (by omega)]; exact hq), rn_lt _ _, isN_rn _ _, ?_, ?_⟩
  · rw [rk_rn, ← R_sv x (by omega)]
    exact R_mono (by omega)
  · rw [rk_rn, ← R_sv (upB x) (by omega)]
    exact R_mono (by omega)

theorem step_up (x : Nat) (hx : x < 18446744073709551616) (h : mg x < 9218868437227405312) (h0 : 0 ≤ rk x) : Ieee.double.add x (ulpB x) = some (upB x) := by
  have n : isN x = false := isN_false.2 (by omega)
  have hw := word_eq x hx
  have hz : ng x = true → mg x = 0 := by intro hn; unfold rk at h0; rw [hn] at h0; simp only [if_true] at h0; omega
  by_cases c : mg x = 9218868437227405311
  · have e : x = 9218868437227405311 := by
      cases hn : ng x
      · rw [hn] at hw; simp only [Bool.false_eq_true, if_false] at hw; omega
      · have := hz hn; omega
    subst e; decide
  · obtain ⟨u, u0, u1, e, eu⟩ := ulpB_fin (x := x) (by omega)
    have sx : sv x = mv (mg x) := by
      unfold sv
      cases hn : ng x
      · rfl
      · rw [hz hn, mv_zero]; rfl
    have su : sv u = mv u := by unfold sv; rw [ng_of_lt (by omega), mg_of_lt (by omega)]; rfl
    have e2 : upB x = mg x + 1 := by
      unfold upB; rw [n, if_neg (by decide)]
      by_cases z : mg x = 0
      · rw [if_pos z, z]
      · cases hn : ng x
        · rw [hn] at hw; simp only [Bool.false_eq_true, if_false] at hw
          rw [if_neg z, if_neg (by omega), if_neg (by decide)]; omega
        · exact absurd (hz hn) z
    rw [eu, add_d x u hx (by omega) h (by rw [mg_of_lt (by omega)]; exact u1), sx, su, e2]
    have e3 : (mv (mg x) : Int) + (mv u : Int) = (mv (mg x + 1) : Int) := by rw [mv_succ, e]; omega
    rw [e3, rn_pos _ _ (by omega) (by omega)]

theorem step_down (x : Nat) (hx : x < 18446744073709551616) (h : mg x < 9218868437227405312) (h0 : rk x < 0) : Ieee.double.sub x (ulpB x) = some (downB x) := by
  have n : isN x = false := isN_false.2 (by omega)
  have hw := word_eq x hx
  have hn : ng x = true := by
    cases hn : ng x
    · unfold rk at h0; rw [hn] at h0; simp only [Bool.false_eq_true, if_false] at h0; omega
    · rfl
  rw [hn] at hw
  simp only [if_true] at hw
  have hz : 0 < mg x := by unfold rk at h0; rw [hn] at h0; simp only [if_true] at h0; omega
  by_cases c : mg x = 9218868437227405311
  · have e : x = 18442240474082181119 := by omega
    subst e; decide
  · obtain ⟨u, u0, u1, e, eu⟩ := ulpB_fin (x := x) (by omega)
    have sx : sv x = -(mv (mg x) : Int) := by unfold sv; rw [hn]; rfl
    have su : sv u = mv u := by unfold sv; rw [ng_of_lt (by omega), mg_of_lt (by omega)]; rfl
    have e2 : downB x = 9223372036854775808 + (mg x + 1) := by
      have a1 : negB x = mg x := by unfold negB; rw [hn, if_pos rfl]; omega
      have a2 : upB (mg x) = mg x + 1 := by
        have hm := mg_of_lt (mg_lt x)
        unfold upB
        rw [isN_false.2 (by rw [hm]; omega), hm, if_neg (by decide), if_neg (by omega), if_neg (by omega), ng_of_lt (mg_lt x), if_neg (by decide)]
      unfold downB; rw [n, if_neg (by decide), a1, a2]
      unfold negB; rw [ng_of_lt (by omega), if_neg (by decide)]; omega
    rw [eu, sub_d x u hx (by omega) h (by rw [mg_of_lt (by omega)]; exact u1), sx, su, e2]
    have e3 : -(mv (mg x) : Int) - (mv u : Int) = -(mv (mg x + 1) : Int) := by rw [mv_succ, e]; omega
    rw [e3, rn_neg _ _ (by omega) (by omega)]

end Go.Proofs.Ytedobmladjhdkab
