/-
  Doubled floats and products above nothing, by plain numbers (no program): for slopes that are kept small.
-/
import Derived.Test.YtgbaaafikphafaaNx
import Derived.Test.YtgbaaafikphafaaNs
namespace Go.Proofs.Ytgbaaafikphafaa
open Tf Ieee
theorem mv_2 : mv 4611686018427387904 = 2 * 2 ^ K := by rw [← mv_ONE]; exact mv_dbl (r := 4607182418800017408) (by omega)
/-- a product of two floats that aren't below nothing -/
theorem ml_word {a b : Nat} (ha : a < 9218868437227405312) (hb : b < 9218868437227405312) : mlB a b = min (rung 52 1074 (mv a * mv b)) 9218868437227405312 := by
  have ma : mg a = a := mg_of_lt (by omega)
  have mb : mg b = b := mg_of_lt (by omega)
  rw [mul_w (by omega) (by omega) (by omega) (by omega), ng_of_lt (by omega), ng_of_lt (by omega), ma, mb]
  simp only [Bool.xor_self, Bool.false_eq_true, if_false]
theorem mv_sm {r : Nat} (h : r < 9007199254740992) : mv r = r := by
  by_cases c : r < 4503599627370496
  · have := mv_zero
    unfold mv mag
    rw [if_pos c]
  · rw [mv_parts (by omega), show r % 4503599627370496 = r - 4503599627370496 by omega, show r / 4503599627370496 - 1 = 0 by omega, Nat.pow_zero, Nat.mul_one]
    omega
/-- doubling: a whole number of units that is a float's, or too great -/
theorem dbl_ex (a : Nat) : ∃ r, mv r = 2 * mv a ∧ a ≤ r ∧ (a ≠ 0 → a < r) := by
  by_cases h : 4503599627370496 ≤ a
  · exact ⟨a + 4503599627370496, mv_dbl h, by omega, fun _ => by omega⟩
  · refine ⟨2 * a, ?_, by omega, fun _ => by omega⟩
    rw [mv_sm (r := 2 * a) (by omega), mv_sm (r := a) (by omega)]
theorem d2_word {a : Nat} (ha : a < 9218868437227405312) : mlB 4611686018427387904 a = min (rung 52 0 (2 * mv a)) 9218868437227405312 := by
  rw [ml_word (by omega) ha, mv_2, show 2 * 2 ^ K * mv a = (2 * mv a) * 2 ^ K by rw [Nat.mul_right_comm]]
  have h := rung_scale 52 0 K (2 * mv a)
  rw [Nat.zero_add] at h
  exact congrArg (min · 9218868437227405312) h
/-- 2 * a of a that isn't below nothing: exact, or the infinity -/
theorem d2_facts {a : Nat} (ha : a ≤ 9218868437227405312) : mlB 4611686018427387904 a ≤ 9218868437227405312 ∧ a ≤ mlB 4611686018427387904 a ∧ (mlB 4611686018427387904 a < 9218868437227405312 → mv (mlB 4611686018427387904 a) = 2 * mv a) := by
  by_cases h : a < 9218868437227405312
  · obtain ⟨r, h1, h2, -⟩ := dbl_ex a
    rw [d2_word h, ← h1, rung_mv]
    refine ⟨Nat.min_le_right _ _, by omega, fun k => ?_⟩
    rw [Nat.min_eq_left (by omega), h1]
  · obtain rfl : a = 9218868437227405312 := by omega
    have e : mlB 4611686018427387904 9218868437227405312 = 9218868437227405312 := by decide +kernel
    rw [e]
    exact ⟨Nat.le_refl _, Nat.le_refl _, fun k => by omega⟩
theorem d2_mono {a b : Nat} (h : a ≤ b) (hb : b ≤ 9218868437227405312) : mlB 4611686018427387904 a ≤ mlB 4611686018427387904 b := by
  by_cases k : b < 9218868437227405312
  · rw [d2_word (by omega), d2_word k]
    have := rung_mono (p := 52) (d := 0) (V := 2 * mv a) (V' := 2 * mv b) (by omega) (Nat.mul_le_mul_left 2 (mv_le.2 h))
    omega
  · obtain rfl : b = 9218868437227405312 := by omega
    have e : mlB 4611686018427387904 9218868437227405312 = 9218868437227405312 := by decide +kernel
    rw [e]
    exact (d2_facts (by omega)).1
/-- the product of both, doubled: whichever is doubled first -/
theorem leer_comm {a b : Nat} (ha : a < 9218868437227405312) (hb : b < 9218868437227405312) (da : mlB 4611686018427387904 a < 9218868437227405312) (db : mlB 4611686018427387904 b < 9218868437227405312) :
    mlB (mlB 4611686018427387904 a) b = mlB (mlB 4611686018427387904 b) a := by
  rw [ml_word da hb, ml_word db ha, (d2_facts (by omega)).2.2 da, (d2_facts (by omega)).2.2 db, show 2 * mv a * mv b = 2 * mv b * mv a by rw [Nat.mul_right_comm]]
/-- Superbee above nothing -/
def sbee (a b : Nat) : Nat := max (min (mlB 4611686018427387904 a) b) (min a (mlB 4611686018427387904 b))
theorem sbee_comm (a b : Nat) : sbee a b = sbee b a := by unfold sbee; omega
theorem sbee_facts {a b : Nat} (ha : a ≤ 9218868437227405312) (hb : b ≤ 9218868437227405312) : min a b ≤ sbee a b ∧ sbee a b ≤ max a b ∧ sbee a b ≤ mlB 4611686018427387904 (min a b) := by
  have fa := d2_facts ha
  have fb := d2_facts hb
  have mono : ∀ x y, x ≤ y → y ≤ 9218868437227405312 → mlB 4611686018427387904 x ≤ mlB 4611686018427387904 y := fun x y h k => d2_mono h k
  unfold sbee
  rcases Nat.le_total a b with h | h
  · rw [Nat.min_eq_left h]
    omega
  · rw [Nat.min_eq_right h]
    omega
end Go.Proofs.Ytgbaaafikphafaa
