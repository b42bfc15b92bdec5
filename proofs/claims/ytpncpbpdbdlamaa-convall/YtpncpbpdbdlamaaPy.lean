/-
  How the code makes a double of bits of 16 (plain numbers, no program).
-/
import Derived.Test.YtpncpbpdbdlamaaPx
namespace Go.Proofs.Ytpncpbpdbdlamaa
open Tf

/-- the least double of at least so many units; the steps as they are doubled -/
def Y16 (s k : Nat) : Nat := rung 52 0 (s * 2 ^ (k + H2))
theorem mv_Y16 (s k : Nat) (hs : s ≤ 2048) : mv (Y16 s k) = s * 2 ^ (k + H2) := by
  obtain ⟨R, e⟩ := rep 52 s (k + H2) (by omega)
  unfold Y16
  have : s * 2 ^ (k + H2) = mv R := e.symm
  rw [this, rung_mv]
theorem Y16_lt (s k : Nat) (hs : s ≤ 2047) (hk : k ≤ 29) : Y16 s k < 4679240012837945344 := by
  have hK := K_eq
  have hH := H2_eq
  rw [← mv_lt, mv_Y16 s k (by omega), mv_from_one 16 _ (by decide), one_pow, ← Nat.pow_add]
  have h1 : 2 ^ (k + H2) ≤ 2 ^ (29 + H2) := Nat.pow_le_pow_right (by omega) (by omega)
  have h2 : s * 2 ^ (k + H2) ≤ 2047 * 2 ^ (29 + H2) := Nat.mul_le_mul (by omega) h1
  have h3 : 16 + K = 11 + (29 + H2) := by omega
  have h4 := pow_pos (29 + H2)
  have h5 : 2 ^ (16 + K) = 2 ^ 11 * 2 ^ (29 + H2) := by rw [h3, Nat.pow_add]
  rw [h5]
  clear h5 h3
  generalize 2 ^ (29 + H2) = z at *
  clear hK hH
  omega
theorem mv_two1 : mv 4611686018427387904 = 2 * one := by
  have h := mv_from_one 1 4611686018427387904 (by decide)
  rw [Nat.pow_one] at h
  exact h
theorem Y16_step (s k : Nat) (hs : s ≤ 2047) (hk : k < 29) : Ieee.double.mul (Y16 s k) 4611686018427387904 = some (Y16 s (k + 1)) := by
  have l1 := Y16_lt s k hs (by omega)
  have l2 := Y16_lt s (k + 1) hs (by omega)
  have e1 := mv_Y16 s k (by omega)
  have e2 := mv_Y16 s (k + 1) (by omega)
  have em : mg (Y16 s k) = Y16 s k := mg_of_lt (by omega)
  have en : ng (Y16 s k) = false := ng_of_lt (by omega)
  have h := mul_exact (Y16 s k) 4611686018427387904 (Y16 s (k + 1)) (by omega) (by omega) (by decide) (by omega) (by
    rw [em, e1, e2, mv_two1, show k + 1 + H2 = k + H2 + 1 by omega, Nat.pow_succ 2 (k + H2)]
    generalize 2 ^ (k + H2) = z
    generalize one = o
    rw [← Nat.mul_assoc, ← Nat.mul_assoc])
  rw [en, if_neg (by decide)] at h
  exact h
theorem Y16_zero (s : Nat) (hs : s ≤ 2047) : Ieee.double.div (rn false ((s : Int) * one)) 4715268809856909312 = some (Y16 s 0) := by
  have hK := K_eq
  have hH := H2_eq
  obtain ⟨r, er, lr⟩ := rep_one s (by omega)
  have e0 : rn false ((s : Int) * one) = r := by
    have : (s : Int) * (one : Int) = (mv r : Int) := by rw [er]; simp
    rw [this]
    by_cases c : r = 0
    · subst c; rw [mv_zero]; exact rn_zero false
    · exact rn_pos false r (by omega) (by omega)
  rw [e0]
  have l := Y16_lt s 0 hs (by omega)
  have em : mg r = r := mg_of_lt (by omega)
  obtain ⟨E, hE⟩ : ∃ E : Nat, E = 1046 := ⟨_, rfl⟩
  have h := div_exact r E (Y16 s 0) (by omega) (by omega) (by omega) (by omega) (by
    have h6 : 0 + H2 + (52 + E) = K + K := by omega
    rw [mv_Y16 s 0 (by omega), em, er, one_pow, Nat.mul_assoc, Nat.mul_assoc, ← Nat.pow_add, ← Nat.pow_add, h6])
  have h7 : (E + 1) * 4503599627370496 = 4715268809856909312 := by omega
  rw [ng_of_lt (show r < 9223372036854775808 by omega), if_neg (by decide), h7] at h
  exact h
/-- bits of 16 below a normal one, and above -/
theorem D16_low (b : Nat) (h : b < 1024) : D16 b = Y16 b 0 := by
  unfold D16 Y16
  have : mag 10 b = b := by unfold mag; rw [if_pos (by omega)]
  rw [this, Nat.zero_add]
theorem D16_high (b : Nat) (h : 1024 ≤ b) : D16 b = Y16 (1024 + b % 1024) (b / 1024 - 1) := by
  unfold D16 Y16
  have e : (2 : Nat) ^ 10 = 1024 := by decide
  have : mag 10 b = (1024 + b % 1024) * 2 ^ (b / 1024 - 1) := by unfold mag; rw [if_neg (by omega), e]
  rw [this, Nat.mul_assoc, ← Nat.pow_add]
end Go.Proofs.Ytpncpbpdbdlamaa
