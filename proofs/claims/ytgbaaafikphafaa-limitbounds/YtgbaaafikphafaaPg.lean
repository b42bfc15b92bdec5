/-
  What the rounding of a product takes away is a float, if the product isn't too small, by plain numbers (no program).
-/
import Derived.Test.YtgbaaafikphafaaPt
namespace Go.Proofs.Ytgbaaafikphafaa
open Tf

theorem mv_form (r : Nat) : ∃ m k : Nat, m < 2 ^ 53 ∧ mv r = m * 2 ^ k := by
  unfold mv mag
  by_cases c : r < 2 ^ 52
  · exact ⟨r, 0, by omega, by rw [if_pos c]; omega⟩
  · refine ⟨2 ^ 52 + r % 2 ^ 52, r / 2 ^ 52 - 1, by omega, by rw [if_neg c]⟩
theorem pow_lt_iff {a b : Nat} : 2 ^ a < 2 ^ b ↔ a < b := by
  constructor
  · intro h
    by_cases c : a < b
    · exact c
    · have := Nat.pow_le_pow_right (n := 2) (by omega) (show b ≤ a by omega)
      omega
  · intro h; exact Nat.pow_lt_pow_right (by omega) h

theorem too_near (W P g M G : Nat) (hW : 0 < W) (hP : 0 < P) (hg : g ≤ (2 ^ 53 - 1) * (2 ^ 53 - 1)) (h1 : 2 ^ 105 * (W * 2 * P) ≤ M + G) (h2 : G ≤ 2 ^ 52 * (W * 2 * P)) (h3 : 2 * M + G ≤ 2 * (g * P)) : False := by
  have e : W * 2 * P = 2 * (W * P) := by rw [Nat.mul_comm W 2, Nat.mul_assoc]
  rw [e] at h1 h2
  have h4 : P ≤ W * P := Nat.le_mul_of_pos_left _ hW
  have h5 : g * P ≤ (2 ^ 53 - 1) * (2 ^ 53 - 1) * P := Nat.mul_le_mul_right _ hg
  generalize W * P = X at *
  generalize g * P = Z at *
  clear e hg hW
  omega

theorem no_step (M G : Nat) (h : 2 * ((M : Int) - ((M + G : Nat) : Int)).natAbs ≤ G) (h0 : 0 < G) : False := by omega

/-- THE ERROR OF A ROUNDED PRODUCT IS A DOUBLE, from 2 ^ -969 on (in units 2 ^ 105). -/
theorem prod_error (x y r : Nat) (hr : rung 52 K (mv x * mv y) = r) (h : 2 ^ 105 ≤ mv r) : ∃ t, mv t * one = (((mv x * mv y : Nat) : Int) - ((mv r * one : Nat) : Int)).natAbs := by
  obtain ⟨α, i, hα, eα⟩ := mv_form x
  obtain ⟨β, j, hβ, eβ⟩ := mv_form y
  obtain ⟨V, hV⟩ : ∃ V, mv x * mv y = V := ⟨_, rfl⟩
  rw [hV] at hr ⊢
  have eV : V = α * β * 2 ^ (i + j) := by
    rw [← hV, eα, eβ, Nat.pow_add]; simp only [Nat.mul_assoc, Nat.mul_left_comm]
  have hαβ : α * β ≤ (2 ^ 53 - 1) * (2 ^ 53 - 1) := Nat.mul_le_mul (by omega) (by omega)
  generalize α * β = g at *
  obtain ⟨kk, hkk⟩ : ∃ kk, i + j = kk := ⟨_, rfl⟩
  rw [hkk] at eV
  have hVlt : V < 2 ^ (106 + kk) := by
    rw [eV, Nat.pow_add]; exact (Nat.mul_lt_mul_right (pow_pos kk)).2 (by omega)
  obtain ⟨r0, a, b⟩ := floor_ex 52 K V
  have hb := rung_between 52 K r0 V (by omega) a b
  rw [hr, mag_succ] at hb
  rw [mag_succ] at b
  have hp := pow_pos K
  -- the rung below is a normal one
  have hr01 : r = r0 ∨ r = r0 + 1 := by rw [hb]; split <;> omega
  have hg0 : 2 ^ 104 ≤ mag 52 r0 := by
    by_cases c : 2 ^ 104 ≤ mag 52 r0
    · exact c
    · exfalso
      obtain ⟨t, ht⟩ := rep 52 1 104 (by omega)
      rw [Nat.one_mul] at ht
      have h1 : r0 + 1 ≤ t := mag_lt.1 (by rw [ht]; omega)
      have h2 : mag 52 (r0 + 1) ≤ mag 52 t := mag_le.2 h1
      have h3 : mv r ≤ mag 52 (r0 + 1) := by
        show mag 52 r ≤ _
        exact mag_le.2 (by omega)
      omega
  have hn : ¬ r0 < 2 ^ 52 := by
    intro c
    have : mag 52 r0 = r0 := by unfold mag; rw [if_pos c]
    omega
  obtain ⟨l, hl⟩ : ∃ l, r0 / 2 ^ 52 - 1 = l := ⟨_, rfl⟩
  have eg : gap 52 r0 = 2 ^ l := by unfold gap; rw [hl]
  have em : mag 52 r0 = (2 ^ 52 + r0 % 2 ^ 52) * 2 ^ l := by unfold mag; rw [if_neg hn, hl]
  rw [eg] at hb b
  -- how high the last bit of the rounded product stands
  have h1 : 2 ^ (52 + l + K) < 2 ^ (106 + kk) := by
    refine Nat.lt_of_le_of_lt ?_ hVlt
    refine Nat.le_trans ?_ a
    rw [em, Nat.pow_add, Nat.pow_add]
    exact Nat.mul_le_mul_right _ (Nat.mul_le_mul_right _ (by omega))
  have hlk : l + K ≤ 53 + kk := by have := pow_lt_iff.1 h1; omega
  -- the error in units of 2 ^ -2148
  obtain ⟨M, hM⟩ : ∃ M, mag 52 r0 * 2 ^ K = M := ⟨_, rfl⟩
  obtain ⟨G, hG⟩ : ∃ G, 2 ^ l * 2 ^ K = G := ⟨_, rfl⟩
  have hMr : mv r * one = M ∨ mv r * one = M + G := by
    rw [one_pow]
    rcases hr01 with e | e
    · left; rw [e]; exact hM
    · right
      rw [e]
      show mag 52 (r0 + 1) * 2 ^ K = _
      rw [mag_succ, eg, Nat.add_mul, hM, hG]
  rw [hM] at a
  rw [Nat.add_mul, hM, hG] at b
  have hbb : (mag 52 r0 + (mag 52 r0 + 2 ^ l)) * 2 ^ K = 2 * M + G := by
    rw [Nat.add_mul, Nat.add_mul, hM, hG]; omega
  rw [hbb] at hb
  have hErr : 2 * ((V : Int) - ((mv r * one : Nat) : Int)).natAbs ≤ G := by
    have hrv : (r = r0 + 1 → 2 * M + G ≤ 2 * V) ∧ (r = r0 → 2 * V ≤ 2 * M + G) := by
      refine ⟨fun e => ?_, fun e => ?_⟩
      · by_cases c : 2 * M + G < 2 * V ∨ (2 * M + G = 2 * V ∧ r0 % 2 = 1)
        · omega
        · rw [if_neg c] at hb; omega
      · by_cases c : 2 * M + G < 2 * V ∨ (2 * M + G = 2 * V ∧ r0 % 2 = 1)
        · rw [if_pos c] at hb; omega
        · omega
    rcases hr01 with e | e
    · have hm : mv r * one = M := by rw [e, one_pow]; exact hM
      rw [hm]
      have := hrv.2 e
      omega
    · have hm : mv r * one = M + G := by
        rw [e, one_pow]
        show mag 52 (r0 + 1) * 2 ^ K = _
        rw [mag_succ, eg, Nat.add_mul, hM, hG]
      rw [hm]
      have := hrv.1 e
      omega
  have eM : M = (2 ^ 52 + r0 % 2 ^ 52) * 2 ^ (l + K) := by rw [← hM, em, Nat.mul_assoc, ← Nat.pow_add]
  have eG : G = 2 ^ (l + K) := by rw [← hG, ← Nat.pow_add]
  by_cases c : kk ≤ l + K
  · -- all is a multiple of 2 ^ kk
    obtain ⟨q, hq⟩ : ∃ q, l + K = q + kk := ⟨l + K - kk, by omega⟩
    have hR : ∃ D, mv r * one = D * 2 ^ kk := by
      rcases hMr with e | e
      · exact ⟨(2 ^ 52 + r0 % 2 ^ 52) * 2 ^ q, by rw [e, eM, hq, Nat.pow_add, Nat.mul_assoc]⟩
      · exact ⟨(2 ^ 52 + r0 % 2 ^ 52 + 1) * 2 ^ q, by rw [e, eM, eG, hq, Nat.pow_add, Nat.mul_assoc, Nat.add_mul _ 1, Nat.one_mul]⟩
    obtain ⟨D, hD⟩ := hR
    have hE : ((V : Int) - ((mv r * one : Nat) : Int)) = ((g : Int) - (D : Int)) * ((2 ^ kk : Nat) : Int) := by
      rw [hD, eV, Int.natCast_mul, Int.natCast_mul, Int.sub_mul]
    have hε : ((g : Int) - (D : Int)).natAbs ≤ 2 ^ 52 := by
      have h2 : 2 * (((g : Int) - (D : Int)).natAbs * 2 ^ kk) ≤ 2 ^ (53 + kk) := by
        have e3 : ((V : Int) - ((mv r * one : Nat) : Int)).natAbs = ((g : Int) - (D : Int)).natAbs * 2 ^ kk := by rw [hE, Int.natAbs_mul, Int.natAbs_natCast]
        rw [← e3]
        refine Nat.le_trans hErr ?_
        rw [eG]
        exact Nat.pow_le_pow_right (by omega) hlk
      have e4 : 2 ^ (53 + kk) = 2 * (2 ^ 52 * 2 ^ kk) := by rw [Nat.pow_add, ← Nat.mul_assoc]
      rw [e4] at h2
      exact Nat.le_of_mul_le_mul_right (Nat.le_of_mul_le_mul_left h2 (by omega)) (pow_pos kk)
    -- the power is at least that of a unit
    have hkK : K ≤ kk := by
      by_cases c2 : K ≤ kk
      · exact c2
      · exfalso
        have hpk := pow_pos kk
        have hcase : 2 ^ 105 ≤ mag 52 r0 ∨ (mag 52 r0 < 2 ^ 105 ∧ r = r0 + 1) := by
          by_cases c3 : 2 ^ 105 ≤ mag 52 r0
          · exact .inl c3
          · right
            refine ⟨by omega, ?_⟩
            rcases hr01 with e | e
            · exfalso; rw [e] at h; exact c3 h
            · exact e
        obtain ⟨w, hw⟩ : ∃ w, K = w + kk + 1 := ⟨K - kk - 1, by omega⟩
        rcases hcase with c3 | ⟨c3, e⟩
        · have h5 : 2 ^ (105 + K) < 2 ^ (106 + kk) := by
            refine Nat.lt_of_le_of_lt ?_ hVlt
            refine Nat.le_trans ?_ a
            rw [← hM, Nat.pow_add]
            exact Nat.mul_le_mul_right _ c3
          have := pow_lt_iff.1 h5
          omega
        · -- the product was rounded up to 2 ^ 105 units: too near to it for two numbers of 53 bits
          have hl52 : l ≤ 52 := by
            by_cases c4 : l ≤ 52
            · exact c4
            · exfalso
              have h6 : 2 ^ 52 * 2 ^ 53 ≤ mag 52 r0 := by
                rw [em]
                exact Nat.mul_le_mul (by omega) (Nat.pow_le_pow_right (by omega) (by omega))
              omega
          have hup : 2 * M + G ≤ 2 * V := by
            by_cases c4 : 2 * M + G < 2 * V ∨ (2 * M + G = 2 * V ∧ r0 % 2 = 1)
            · omega
            · rw [if_neg c4] at hb; omega
          have hMG : 2 ^ 105 * 2 ^ K ≤ M + G := by
            have h7 : mv r * one = M + G := by
              rcases hMr with e2 | e2
              · exfalso
                rw [e, one_pow] at e2
                have h8 : mag 52 (r0 + 1) * 2 ^ K = M := e2
                rw [mag_succ, eg, Nat.add_mul, hM, hG] at h8
                have := pow_pos l
                have : 0 < G := by rw [eG]; exact pow_pos _
                omega
              · exact e2
            rw [← h7, one_pow]
            exact Nat.mul_le_mul_right _ h
          have hGle : G ≤ 2 ^ 52 * 2 ^ K := by
            rw [← hG]; exact Nat.mul_le_mul_right _ (Nat.pow_le_pow_right (by omega) hl52)
          -- in multiples of 2 ^ kk
          have e5 : 2 ^ K = 2 ^ w * 2 * 2 ^ kk := by rw [hw, show w + kk + 1 = w + 1 + kk by omega, Nat.pow_add, Nat.pow_succ]
          rw [e5] at hMG hGle
          rw [eV] at hup
          exact too_near (2 ^ w) (2 ^ kk) g M G (pow_pos w) hpk hαβ hMG hGle hup
    obtain ⟨t, ht⟩ := rep 52 ((g : Int) - (D : Int)).natAbs (kk - K) (by omega)
    refine ⟨t, ?_⟩
    rw [hE, Int.natAbs_mul, Int.natAbs_natCast, one_pow]
    show mag 52 t * 2 ^ K = _
    rw [ht, Nat.mul_assoc, ← Nat.pow_add, Nat.sub_add_cancel hkK]
  · -- the product is a multiple of the step: it is the rung itself
    obtain ⟨q, hq⟩ : ∃ q, kk = q + (l + K) := ⟨kk - (l + K), by omega⟩
    have hpl := pow_pos (l + K)
    have eV2 : V = g * 2 ^ q * 2 ^ (l + K) := by rw [eV, hq, Nat.pow_add, Nat.mul_assoc]
    rw [eV2, eM] at a
    rw [eV2, eM, eG] at b
    have a1 := Nat.le_of_mul_le_mul_right a hpl
    have b1 : g * 2 ^ q < 2 ^ 52 + r0 % 2 ^ 52 + 1 := by
      have : g * 2 ^ q * 2 ^ (l + K) < (2 ^ 52 + r0 % 2 ^ 52 + 1) * 2 ^ (l + K) := by rw [Nat.add_mul _ 1, Nat.one_mul]; exact b
      exact (Nat.mul_lt_mul_right hpl).1 this
    have e7 : g * 2 ^ q = 2 ^ 52 + r0 % 2 ^ 52 := Nat.le_antisymm (Nat.le_of_lt_succ b1) a1
    have e6 : V = M := by rw [eV2, eM, e7]
    have hG0 : 0 < G := by rw [eG]; exact hpl
    refine ⟨0, ?_⟩
    rw [mv_zero, Nat.zero_mul]
    rw [e6] at hErr ⊢
    rcases hMr with e | e
    · rw [e]; simp
    · exfalso
      rw [e] at hErr
      exact no_step M G hErr hG0
end Go.Proofs.Ytgbaaafikphafaa
