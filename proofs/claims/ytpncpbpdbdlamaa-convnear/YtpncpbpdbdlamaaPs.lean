/-
  The middles as the statement reckons them, by plain numbers (no program).
-/
import Derived.Test.YtpncpbpdbdlamaaPr
namespace Go.Proofs.Ytpncpbpdbdlamaa
open Tf

theorem upper (p c V m r A B : Nat) (hp0 : 1 ≤ p) (hp : p ≤ 50) (hm : m ≤ 9218868437227405312) (hV : mv m = V) (hr : rung p (c + 1) V = r) (eA : mv A = mag p r * 2 ^ (c + 1)) (eB : mv B = mag p (r + 1) * 2 ^ (c + 1)) (lB : B < 9218868437227405312) :
    ∃ ha hb hi, Ieee.double.mul 4602678819172646912 A = some ha ∧ Ieee.double.mul 4602678819172646912 B = some hb ∧ Ieee.double.add ha hb = some hi ∧ (flt m hi = true ∨ (flt m hi = false ∧ feq m hi = true ∧ r % 2 = 0)) := by
  have h2 : 2 ^ (c + 1) = 2 * 2 ^ c := by rw [Nat.pow_succ]; omega
  obtain ⟨ha, ea⟩ := half_mag p c r (by omega)
  obtain ⟨hb, eb⟩ := half_mag p c (r + 1) (by omega)
  obtain ⟨hi, ei⟩ := mid_mag p c r hp
  have q1 : 2 * mv ha = mv A := by rw [ea, eA, h2, Nat.mul_left_comm]
  have q2 : 2 * mv hb = mv B := by rw [eb, eB, h2, Nat.mul_left_comm]
  have q3 : mv hi = mv ha + mv hb := by rw [ei, ea, eb, Nat.add_mul]
  have lA : mv A ≤ mv B := by rw [eA, eB]; exact Nat.mul_le_mul_right _ (mag_le.2 (by omega))
  have l0 := mv_le.1 lA
  have l1 : ha ≤ B := mv_le.1 (by omega)
  have l2 : hb ≤ B := mv_le.1 (by omega)
  have l3 : hi ≤ B := mv_le.1 (by omega)
  have m1 := half_mul A ha false (by omega) (by omega) q1
  have m2 := half_mul B hb false (by omega) (by omega) q2
  simp only [Bool.false_eq_true, if_false] at m1 m2
  have m3 := add_pos ha hb hi (by omega) (by omega) (by omega) q3
  refine ⟨ha, hb, hi, m1, m2, m3, ?_⟩
  have cm := cmp_pos m hi hm (by omega)
  have md := (mids p (c + 1) V r hp0 hr).1
  have e4 : (mag p r + mag p (r + 1)) * 2 ^ (c + 1) = 2 * mv hi := by rw [ei, h2, Nat.mul_left_comm]
  rw [e4] at md
  rw [cm.2.1, cm.2.2, hV]
  rcases md with h | ⟨h, k⟩
  · left; exact decide_eq_true (by omega)
  · right; exact ⟨decide_eq_false (by omega), decide_eq_true (by omega), k⟩
theorem lower (p c V m r A C : Nat) (hp0 : 1 ≤ p) (hp : p ≤ 50) (hm : m ≤ 9218868437227405312) (hV : mv m = V) (hr : rung p (c + 1) V = r) (r0 : 0 < r) (eA : mv A = mag p r * 2 ^ (c + 1)) (eC : mv C = mag p (r - 1) * 2 ^ (c + 1)) (lA : A < 9218868437227405312) :
    ∃ ha hc lo, Ieee.double.mul 4602678819172646912 A = some ha ∧ Ieee.double.mul 4602678819172646912 C = some hc ∧ Ieee.double.add hc ha = some lo ∧ (fgt m lo = true ∨ (fgt m lo = false ∧ feq m lo = true ∧ r % 2 = 0)) := by
  have h2 : 2 ^ (c + 1) = 2 * 2 ^ c := by rw [Nat.pow_succ]; omega
  obtain ⟨t, rfl⟩ : ∃ t, r = t + 1 := ⟨r - 1, by omega⟩
  rw [show t + 1 - 1 = t by omega] at eC
  obtain ⟨ha, ea⟩ := half_mag p c (t + 1) (by omega)
  obtain ⟨hc, ec⟩ := half_mag p c t (by omega)
  obtain ⟨lo, el⟩ := mid_mag p c t hp
  have q1 : 2 * mv ha = mv A := by rw [ea, eA, h2, Nat.mul_left_comm]
  have q2 : 2 * mv hc = mv C := by rw [ec, eC, h2, Nat.mul_left_comm]
  have q3 : mv lo = mv hc + mv ha := by rw [el, ea, ec, Nat.add_mul]
  have lC : mv C ≤ mv A := by rw [eA, eC]; exact Nat.mul_le_mul_right _ (mag_le.2 (by omega))
  have l0 := mv_le.1 lC
  have l1 : ha ≤ A := mv_le.1 (by omega)
  have l2 : hc ≤ A := mv_le.1 (by omega)
  have l3 : lo ≤ A := mv_le.1 (by omega)
  have m1 := half_mul A ha false (by omega) (by omega) q1
  have m2 := half_mul C hc false (by omega) (by omega) q2
  simp only [Bool.false_eq_true, if_false] at m1 m2
  have m3 := add_pos hc ha lo (by omega) (by omega) (by omega) q3
  refine ⟨ha, hc, lo, m1, m2, m3, ?_⟩
  have cm := cmp_pos m lo hm (by omega)
  have md := (mids p (c + 1) V (t + 1) hp0 hr).2 (by omega)
  rw [show t + 1 - 1 = t by omega] at md
  have e4 : (mag p t + mag p (t + 1)) * 2 ^ (c + 1) = 2 * mv lo := by rw [el, h2, Nat.mul_left_comm]
  rw [e4] at md
  rw [cm.2.1, cm.1, hV]
  rcases md with h | ⟨h, k⟩
  · left; exact decide_eq_true (by omega)
  · right; exact ⟨decide_eq_false (by omega), decide_eq_true (by omega), k⟩
theorem lower0 (p c m A : Nat) (hp : p ≤ 50) (hm : m ≤ 9218868437227405312) (eA : mv A = mag p 1 * 2 ^ (c + 1)) (lA : A < 9218868437227405312) :
    ∃ hc, Ieee.double.mul 4602678819172646912 0 = some 0 ∧ Ieee.double.mul 4602678819172646912 (9223372036854775808 + A) = some hc ∧ Ieee.double.add hc 0 = some hc ∧ fgt m hc = true := by
  have h2 : 2 ^ (c + 1) = 2 * 2 ^ c := by rw [Nat.pow_succ]; omega
  obtain ⟨ha, ea⟩ := half_mag p c 1 (by omega)
  have q1 : 2 * mv ha = mv A := by rw [ea, eA, h2, Nat.mul_left_comm]
  have l1 : ha ≤ A := mv_le.1 (by omega)
  have m1 := half_mul A ha true (by omega) (by omega) q1
  have m0 := half_mul 0 0 false (by omega) (by omega) (by rw [mv_zero])
  simp only [Bool.false_eq_true, if_false, if_true] at m1 m0
  have pos : 0 < ha := by
    refine mv_lt.1 ?_
    rw [mv_zero, ea]
    have : mag p 0 < mag p 1 := mag_lt.2 (by omega)
    rw [mag_zero] at this
    exact Nat.mul_pos this (pow_pos c)
  refine ⟨9223372036854775808 + ha, m0, m1, add_neg0 ha pos (by omega), ?_⟩
  have wm := word_parts false m hm
  have wh := word_parts true ha (by omega)
  rw [if_neg (by decide)] at wm
  rw [if_pos rfl] at wh
  rw [fgt_rk m _ wm.2.2.2.2 wh.2.2.2.2, wm.2.2.1, wh.2.2.1, wm.2.2.2.1, wh.2.2.2.1]
  simp only [Bool.not_false, Bool.and_self, Bool.true_and, Bool.false_eq_true, if_false, if_true]
  exact decide_eq_true (by omega)
end Go.Proofs.Ytpncpbpdbdlamaa
