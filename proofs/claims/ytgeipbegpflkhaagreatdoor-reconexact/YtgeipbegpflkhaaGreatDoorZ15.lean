/-
  Some of the texts of this proof, one behind the other.
-/
import Derived.Test.YtgeipbegpflkhaaGreatDoorZ14
/-
  Order and opposites of conversions, by plain numbers (no program).
-/
namespace Go.Proofs.YtgeipbegpflkhaaGreatDoor
open Tf

theorem sv_le_iff (x y : Nat) : sv x ≤ sv y ↔ rk x ≤ rk y := by
  have := sv_lt_iff y x
  omega
theorem cq_down_mono {x y : Nat} (h : sv x ≤ sv y) : cq .down x ≤ cq .down y := by
  have a := (down_floor x).1
  have b := (down_floor y).2
  have e : cq .down x * one < (cq .down y + 1) * one := by rw [Int.add_mul, Int.one_mul]; omega
  have := Int.lt_of_mul_lt_mul_right e (Int.le_of_lt onep)
  omega
theorem cq_even_mono {x y : Nat} (h : sv x ≤ sv y) : cq .even x ≤ cq .even y := by
  by_cases c : cq .even x ≤ cq .even y
  · exact c
  · exfalso
    obtain ⟨a1, a2, a3⟩ := even_near x
    obtain ⟨b1, b2, b3⟩ := even_near y
    have o := onep
    have e : (cq .even y + 1) * one ≤ cq .even x * one := Int.mul_le_mul_of_nonneg_right (by omega) (by omega)
    rw [Int.add_mul, Int.one_mul] at e
    have p1 := a3 (.inr (by omega))
    have p2 := b3 (.inl (by omega))
    have e2 : cq .even x * one = (cq .even y + 1) * one := by rw [Int.add_mul, Int.one_mul]; omega
    have := Int.eq_of_mul_eq_mul_right (by omega) e2
    omega

/-- what has no rank below the least whole number of 64 bits, and none above the greatest -/
theorem cOk_rk (way : Ieee.Toward) (x : Nat) (hx : x < 18446744073709551616) (n : isN x = false) : cOk way x = (decide (-4890909195324358656 ≤ rk x) && decide (rk x < 4890909195324358656)) := by
  rw [cOk_wOk way x hx, wOk_rk x hx, n]; simp
theorem fgt_zero (x : Nat) (hx : x < 18446744073709551616) (n : isN x = false) : fgt x 0 = decide (0 < rk x) := by
  have e : rk 0 = 0 := by decide
  have n0 : isN 0 = false := by decide
  rw [fgt_rk x 0 hx (by decide), n, n0, e]; simp
theorem cI_eq (way : Ieee.Toward) (x : Nat) (h : cOk way x = true) : cI way x = cq way x := by unfold cI; rw [h, if_pos rfl]

theorem clampM_nonneg (most : Int) : 0 ≤ clampM most := by unfold clampM; split <;> omega
theorem clampB_num (x : Nat) (most : Int) (hx : x < 18446744073709551616) (n : isN x = false) :
    clampB x most = if rk x < -4890909195324358656 then -clampM most else if rk x < 4890909195324358656 then min (max (cq .even x) (-clampM most)) (clampM most) else clampM most := by
  have hm := clampM_nonneg most
  have hk := cOk_rk .even x hx n
  have hg := fgt_zero x hx n
  unfold clampB
  rw [n, if_neg (by decide)]
  by_cases c1 : rk x < -4890909195324358656
  · have o : cOk .even x = false := by rw [hk, decide_eq_false (by omega)]; rfl
    rw [if_pos c1, o, hg, if_neg (by decide), decide_eq_false (by omega), if_neg (by decide)]
  · rw [if_neg c1]
    by_cases c2 : rk x < 4890909195324358656
    · have o : cOk .even x = true := by rw [hk, decide_eq_true (by omega), decide_eq_true c2]; rfl
      rw [if_pos c2, o, if_pos rfl, cI_eq .even x o]
    · have o : cOk .even x = false := by rw [hk, decide_eq_false c2, Bool.and_false]
      rw [if_neg c2, o, hg, if_neg (by decide), decide_eq_true (by omega), if_pos rfl]
theorem clampB_mono (x y : Nat) (most : Int) (hx : x < 18446744073709551616) (hy : y < 18446744073709551616) (nx : isN x = false) (ny : isN y = false) (h : rk x ≤ rk y) : clampB x most ≤ clampB y most := by
  have hm := clampM_nonneg most
  have hc := cq_even_mono ((sv_le_iff x y).2 h)
  rw [clampB_num x most hx nx, clampB_num y most hy ny]
  repeat' split
  all_goals omega

/-- opposites -/
theorem cq_even_neg (x : Nat) (hx : x < 18446744073709551616) : cq .even (negB x) = -cq .even x := by
  unfold cq
  rw [mg_negB, ng_negB x hx, cutq_even, cutq_even]
  cases ng x <;> simp
theorem clampB_neg (x : Nat) (most : Int) (hx : x < 18446744073709551616) (n : isN x = false) (hmx : most ≤ 9223372036854775807) : clampB x most = -clampB (negB x) most := by
  have hm := clampM_nonneg most
  have hm2 : clampM most ≤ 9223372036854775807 := by unfold clampM; split <;> omega
  have hc := cq_even_neg x hx
  have hr := rk_negB x hx
  have o := onep
  rw [clampB_num x most hx n, clampB_num _ most (negB_lt hx) (by rw [isN_neg]; exact n), hc, hr]
  by_cases c : rk x = -4890909195324358656 ∨ rk x = 4890909195324358656
  · have key : ∀ z : Nat, z < 18446744073709551616 → rk z = -4890909195324358656 → cq .even z = -9223372036854775808 := by
      intro z hz hr
      have e := word_rk z 14114281232179134464 hz (by decide) (by rw [hr]; decide) (by rw [hr]; decide)
      subst e
      have w := wOk_itV .even 14114281232179134464 (by decide) (by decide)
      have hs := sv_itV .even 14114281232179134464 (by decide) (by decide)
      obtain ⟨q, hq⟩ := whole_great (mg 14114281232179134464) (by decide)
      have he : cq .even 14114281232179134464 * one = -9223372036854775808 * one := by
        rw [← sv_n63]
        have e1 := (itV_fin .even 14114281232179134464 (by decide) (by decide)).2.2
        unfold cq sv
        have hn : ng 14114281232179134464 = true := by decide
        rw [hn, if_pos rfl, if_pos rfl, hq, cutq_mul _ _ _ _ one_pos, Int.natCast_mul, Int.neg_mul]
      exact Int.eq_of_mul_eq_mul_right (by omega) he
    rcases c with c | c
    · have := key x hx c
      rw [c, this]
      simp only [Int.neg_neg]
      rw [if_neg (by decide), if_pos (by decide), if_neg (by decide), if_neg (by decide)]
      omega
    · have h2 := key (negB x) (negB_lt hx) (by rw [hr, c])
      rw [hc] at h2
      rw [c]
      rw [if_neg (by decide), if_neg (by decide), if_neg (by decide), if_pos (by decide)]
      omega
  · repeat' split
    all_goals omega

/-- a function of magnitudes that keeps order, with the sign -/
theorem sgn_mono (φ : Nat → Nat) (mono : ∀ a b, a ≤ b → φ a ≤ φ b) (z : φ 0 = 0) (x y : Nat) (h : rk x ≤ rk y) :
    (if ng x then -(φ (mg x) : Int) else (φ (mg x) : Int)) ≤ (if ng y then -(φ (mg y) : Int) else (φ (mg y) : Int)) := by
  unfold rk at h
  have m1 := mono (mg x) (mg y)
  have m2 := mono (mg y) (mg x)
  cases hx : ng x <;> cases hy : ng y <;> rw [hx, hy] at h <;> simp only [Bool.false_eq_true, if_false, if_true] at h ⊢
  · have := m1 (by omega); omega
  · have e1 : mg x = 0 := by omega
    have e2 : mg y = 0 := by omega
    rw [e1, e2, z]; simp
  · omega
  · have := m2 (by omega); omega

/-- over 32 bits and back -/
def E32 (r : Nat) : Nat := if r = 2139095040 then 9218868437227405312 else D32 r
def E16 (r : Nat) : Nat := if r = 31744 then 9218868437227405312 else D16 r
theorem E32_le (r : Nat) (h : r ≤ 2139095040) : E32 r ≤ 9218868437227405312 := by
  unfold E32
  by_cases c : r = 2139095040
  · rw [if_pos c]; exact Nat.le_refl _
  · rw [if_neg c]; have := D32_lt r (by omega); omega
theorem E16_le (r : Nat) (h : r ≤ 31744) : E16 r ≤ 9218868437227405312 := by
  unfold E16
  by_cases c : r = 31744
  · rw [if_pos c]; exact Nat.le_refl _
  · rw [if_neg c]; have := D16_lt r (by omega); omega
theorem t32_le (x : Nat) : t32 x ≤ 2139095040 := by unfold t32; omega
theorem t16_le (x : Nat) : t16 x ≤ 31744 := by unfold t16; omega
theorem t32_mg (x y : Nat) (h : mg x = mg y) : t32 x = t32 y := by unfold t32; rw [h]
theorem t16_mg (x y : Nat) (h : mg x = mg y) : t16 x = t16 y := by unfold t16; rw [h]
theorem over32 (x : Nat) (n : isN x = false) : from32B (to32B x) = if ng x then 9223372036854775808 + E32 (t32 x) else E32 (t32 x) := by
  have h := t32_le x
  unfold to32B
  rw [n, if_neg (by decide)]
  unfold from32B
  have hm : mg32 (if ng x = true then 2147483648 + t32 x else t32 x) = t32 x := by
    unfold mg32; cases ng x <;> simp <;> omega
  have hn : ng32 (if ng x = true then 2147483648 + t32 x else t32 x) = ng x := by
    unfold ng32; cases ng x
    · rw [if_neg (by decide)]; exact decide_eq_false (by omega)
    · rw [if_pos rfl]; exact decide_eq_true (by omega)
  rw [hm, hn, if_neg (by omega)]
  rfl
theorem over16 (x : Nat) (n : isN x = false) : from16B (to16B x) = if ng x then 9223372036854775808 + E16 (t16 x) else E16 (t16 x) := by
  have h := t16_le x
  unfold to16B
  rw [n, if_neg (by decide)]
  unfold from16B
  have hm : (if ng x = true then 32768 + t16 x else t16 x) % 32768 = t16 x := by
    cases ng x <;> simp <;> omega
  have hn : ng16 (if ng x = true then 32768 + t16 x else t16 x) = ng x := by
    unfold ng16; cases ng x
    · rw [if_neg (by decide)]; exact decide_eq_false (by omega)
    · rw [if_pos rfl]; exact decide_eq_true (by omega)
  rw [hm, hn, if_neg (by omega)]
  rfl
theorem word_parts (s : Bool) (m : Nat) (h : m ≤ 9218868437227405312) : mg (if s then 9223372036854775808 + m else m) = m ∧ ng (if s then 9223372036854775808 + m else m) = s ∧ isN (if s then 9223372036854775808 + m else m) = false ∧ rk (if s then 9223372036854775808 + m else m) = (if s then -(m : Int) else (m : Int)) ∧ (if s then 9223372036854775808 + m else m) < 18446744073709551616 := by
  have e1 : mg (if s then 9223372036854775808 + m else m) = m := by unfold mg; cases s <;> simp <;> omega
  have e2 : ng (if s then 9223372036854775808 + m else m) = s := by
    cases s
    · rw [if_neg (by decide)]; exact ng_of_lt (by omega)
    · rw [if_pos rfl]; exact ng_of_ge (by omega)
  refine ⟨e1, e2, isN_false.2 (by omega), ?_, ?_⟩
  · unfold rk; rw [e1, e2]
  · cases s <;> simp <;> omega
theorem E32_mono {a b : Nat} (h : a ≤ b) (hb : b ≤ 2139095040) : E32 a ≤ E32 b := by
  unfold E32
  by_cases c : a = 2139095040
  · have : b = 2139095040 := by omega
    rw [if_pos c, if_pos this]; exact Nat.le_refl _
  · rw [if_neg c]
    have l := D32_lt a (by omega)
    by_cases c2 : b = 2139095040
    · rw [if_pos c2]; omega
    · rw [if_neg c2, ← mv_le, mv_D32, mv_D32]
      exact Nat.mul_le_mul_right _ (mag_le.2 h)
theorem E16_mono {a b : Nat} (h : a ≤ b) (hb : b ≤ 31744) : E16 a ≤ E16 b := by
  unfold E16
  by_cases c : a = 31744
  · have : b = 31744 := by omega
    rw [if_pos c, if_pos this]; exact Nat.le_refl _
  · rw [if_neg c]
    have l := D16_lt a (by omega)
    by_cases c2 : b = 31744
    · rw [if_pos c2]; omega
    · rw [if_neg c2, ← mv_le, mv_D16, mv_D16]
      exact Nat.mul_le_mul_right _ (mag_le.2 h)
theorem over32_mono (x y : Nat) (nx : isN x = false) (ny : isN y = false) (h : rk x ≤ rk y) : rk (from32B (to32B x)) ≤ rk (from32B (to32B y)) := by
  rw [over32 x nx, over32 y ny, (word_parts _ _ (E32_le _ (t32_le x))).2.2.2.1, (word_parts _ _ (E32_le _ (t32_le y))).2.2.2.1]
  refine sgn_mono (fun m => E32 (min (rung 23 K2 (mv m)) 2139095040)) ?_ ?_ x y h
  · intro a b hab
    refine E32_mono ?_ (by omega)
    have := rung_mono (p := 23) (d := K2) (by omega) (mv_le.2 hab)
    omega
  · decide +kernel
theorem over16_mono (x y : Nat) (nx : isN x = false) (ny : isN y = false) (h : rk x ≤ rk y) : rk (from16B (to16B x)) ≤ rk (from16B (to16B y)) := by
  rw [over16 x nx, over16 y ny, (word_parts _ _ (E16_le _ (t16_le x))).2.2.2.1, (word_parts _ _ (E16_le _ (t16_le y))).2.2.2.1]
  refine sgn_mono (fun m => E16 (min (rung 10 H2 (mv m)) 31744)) ?_ ?_ x y h
  · intro a b hab
    refine E16_mono ?_ (by omega)
    have := rung_mono (p := 10) (d := H2) (by omega) (mv_le.2 hab)
    omega
  · decide +kernel

/-- over 32 bits to 16: at most one place off -/
theorem twice (x : Nat) (n : isN x = false) : t16 (from32B (to32B x)) ≤ t16 x + 1 ∧ t16 x ≤ t16 (from32B (to32B x)) + 1 := by
  have hw := word_parts (ng x) _ (E32_le _ (t32_le x))
  rw [over32 x n]
  rw [t16_mg _ (E32 (t32 x)) (by rw [hw.1, mg_of_lt (by have := E32_le _ (t32_le x); omega)])]
  by_cases ci : t32 x = 2139095040
  · have e1 : t16 (E32 (t32 x)) = 31744 := by
      unfold E32; rw [if_pos ci]; exact t16_inf _ (by decide)
    have e2 : t16 x = 31744 := by
      refine t16_inf x ?_
      by_cases c : 4679240012837945344 ≤ mg x
      · exact c
      · exfalso
        have h1 : mv (mg x) ≤ mv (D32 1199570944) := by
          rw [mv_le]
          have : (4679240012837945344 : Nat) = D32 1199570944 := by decide +kernel
          omega
        rw [mv_D32] at h1
        have := rung_le (p := 23) (d := K2) (by omega) h1
        unfold t32 at ci
        omega
    rw [e1, e2]; omega
  · have hr : t32 x = rung 23 K2 (mv (mg x)) ∧ rung 23 K2 (mv (mg x)) < 2139095040 := by
      have := t32_le x
      unfold t32 at ci this ⊢
      omega
    have e1 : E32 (t32 x) = D32 (rung 23 K2 (mv (mg x))) := by unfold E32; rw [if_neg ci, hr.1]
    have l1 := D32_lt _ hr.2
    unfold t16
    rw [e1, mg_of_lt (by omega), mv_D32]
    obtain ⟨r0, b1, b2⟩ := floor_ex 10 H2 (mv (mg x))
    have rp : ∀ r, ∃ s, mag 10 r * 2 ^ H2 = mag 23 s * 2 ^ K2 := by
      intro r
      obtain ⟨A, k, hA, e⟩ := mag_form 10 r
      obtain ⟨s, hs⟩ := rep 23 A (k + 125) (by omega)
      refine ⟨s, ?_⟩
      have hh : k + H2 = k + 125 + K2 := by have := H2_eq; have := K2_eq; omega
      rw [hs, e, Nat.mul_assoc, ← Nat.pow_add, hh, Nat.mul_assoc, ← Nat.pow_add]
    obtain ⟨s0, h0⟩ := rp r0
    obtain ⟨s1, h1⟩ := rp (r0 + 1)
    have c1 := rung_floor 10 H2 r0 _ (by omega) b1 b2
    have d1 : s0 ≤ rung 23 K2 (mv (mg x)) := rung_ge (by omega) (by rw [← h0]; exact b1)
    have d2 : rung 23 K2 (mv (mg x)) ≤ s1 := rung_le (by omega) (by rw [← h1]; exact Nat.le_of_lt b2)
    have f1 : mag 10 r0 * 2 ^ H2 ≤ mag 23 (rung 23 K2 (mv (mg x))) * 2 ^ K2 := by rw [h0]; exact Nat.mul_le_mul_right _ (mag_le.2 d1)
    have f2 : mag 23 (rung 23 K2 (mv (mg x))) * 2 ^ K2 ≤ mag 10 (r0 + 1) * 2 ^ H2 := by rw [h1]; exact Nat.mul_le_mul_right _ (mag_le.2 d2)
    have g1 := rung_ge (p := 10) (d := H2) (by omega) f1
    have g2 := rung_le (p := 10) (d := H2) (by omega) f2
    have fin : ∀ p q r0 : Nat, r0 ≤ p → p ≤ r0 + 1 → r0 ≤ q → q ≤ r0 + 1 → min q 31744 ≤ min p 31744 + 1 ∧ min p 31744 ≤ min q 31744 + 1 := by intros; omega
    exact fin _ _ r0 c1.1 c1.2 g1 g2
end Go.Proofs.YtgeipbegpflkhaaGreatDoor

/-
  Whole numbers as floats, and depths: by plain numbers (no program).
-/
namespace Go.Proofs.YtgeipbegpflkhaaGreatDoor
open Tf Ieee
/-- a whole number as a float -/
def fw (n : Int) : Nat := rn false (n * one)
theorem R_one : R one = 4607182418800017408 := (R_mv 4607182418800017408 (by decide)).1
theorem mv_2_63 : mv 4890909195324358656 = 9223372036854775808 * one := by
  have h := mv_from_one 63 4890909195324358656 (by decide)
  have e : (2 : Nat) ^ 63 = 9223372036854775808 := by decide
  rw [e] at h
  exact h
theorem R_max : R (9223372036854775808 * one) = 4890909195324358656 := by
  have h := (R_mv 4890909195324358656 (by decide)).1
  rw [mv_2_63, Int.natCast_mul] at h
  exact h
theorem rn_nn {v : Int} (h : 0 ≤ v) : rn false v = (R v).toNat := by
  unfold rn R
  generalize min (rung 52 0 v.natAbs) 9218868437227405312 = m
  by_cases z : v = 0
  · rw [if_pos z, if_neg (by decide), if_neg (by omega), Int.toNat_natCast]
  · rw [if_neg z, decide_eq_false (by omega), if_neg (by decide), if_neg (by omega), Int.toNat_natCast]
theorem fw_R {n : Int} (h : 0 ≤ n) : fw n = (R (n * one)).toNat := rn_nn (Int.mul_nonneg h (Int.le_of_lt onep))
theorem fw_in {n : Int} (h1 : 1 ≤ n) (h2 : n ≤ 9223372036854775807) : 4607182418800017408 ≤ fw n ∧ fw n ≤ 4890909195324358656 := by
  have a := R_mono (Int.mul_le_mul_of_nonneg_right h1 (Int.le_of_lt onep))
  have b := R_mono (Int.mul_le_mul_of_nonneg_right (show n ≤ 9223372036854775808 by omega) (Int.le_of_lt onep))
  rw [Int.one_mul, R_one] at a
  rw [R_max] at b
  rw [fw_R (by omega)]
  omega
theorem fw_mono {n m : Int} (h0 : 0 ≤ n) (h : n ≤ m) : fw n ≤ fw m := by
  have a := R_mono (Int.mul_le_mul_of_nonneg_right h (Int.le_of_lt onep))
  rw [fw_R h0, fw_R (by omega)]
  omega
theorem fw_Qn {n m : Int} (n1 : 1 ≤ n) (n2 : n ≤ 9223372036854775807) (m1 : 1 ≤ m) (m2 : m ≤ 9223372036854775807) : Qn (fw n) (fw m) := by
  have a := fw_in n1 n2
  have b := fw_in m1 m2
  unfold Qn
  omega
/-- the depth -/
def dpB (w a : Int) : Nat := if w < 1 ∨ a < 1 then 0 else dvB (fw w) (fw a)
theorem dp_zero {w a : Int} (h : w < 1 ∨ a < 1) : dpB w a = 0 := by unfold dpB; rw [if_pos h]
theorem dp_of {w a : Int} (h1 : 1 ≤ w) (h2 : 1 ≤ a) : dpB w a = dvB (fw w) (fw a) := by unfold dpB; rw [if_neg (by omega)]
theorem dp_in {w a : Int} (h1 : 1 ≤ w) (h2 : 1 ≤ a) (w2 : w ≤ 9223372036854775807) (a2 : a ≤ 9223372036854775807) : 4503599627370496 ≤ dpB w a ∧ dpB w a ≤ 9146810843189477376 := by
  rw [dp_of h1 h2]
  exact dq_in (fw_Qn h1 w2 h2 a2)
theorem dp_le {w a : Int} (w2 : w ≤ 9223372036854775807) (a2 : a ≤ 9223372036854775807) : dpB w a ≤ 9146810843189477376 := by
  by_cases h : w < 1 ∨ a < 1
  · rw [dp_zero h]; omega
  · exact (dp_in (by omega) (by omega) w2 a2).2
theorem dp_mono {w w' a : Int} (h : w ≤ w') (w2 : w' ≤ 9223372036854775807) (a2 : a ≤ 9223372036854775807) : dpB w a ≤ dpB w' a := by
  by_cases c : w < 1 ∨ a < 1
  · rw [dp_zero c]; omega
  · rw [dp_of (by omega) (by omega), dp_of (by omega) (by omega)]
    exact dv_mono (fw_Qn (by omega) (by omega) (by omega) a2) (fw_Qn (by omega) w2 (by omega) a2) (fw_mono (by omega) h)
theorem dp_anti {w a a' : Int} (h0 : 1 ≤ a) (h : a ≤ a') (w2 : w ≤ 9223372036854775807) (a2 : a' ≤ 9223372036854775807) : dpB w a' ≤ dpB w a := by
  by_cases c : w < 1
  · rw [dp_zero (.inl c), dp_zero (.inl c)]; omega
  · rw [dp_of (by omega) (by omega), dp_of (by omega) (by omega)]
    exact dv_anti (fw_Qn (by omega) w2 h0 (by omega)) (fw_Qn (by omega) w2 (by omega) a2) (fw_mono (by omega) h)
end Go.Proofs.YtgeipbegpflkhaaGreatDoor

/-
  Levels: by plain numbers (no program).
-/
namespace Go.Proofs.YtgeipbegpflkhaaGreatDoor
open Tf Ieee
theorem fle_of {x y : Nat} (hx : x < 18446744073709551616) (hy : y < 18446744073709551616) (nx : isN x = false) (ny : isN y = false) : (flt x y || feq x y) = decide (rk x ≤ rk y) := by
  rw [flt_rk x y hx hy, feq_rk x y hx hy, nx, ny]
  by_cases c : rk x < rk y
  · rw [decide_eq_true c, decide_eq_true (p := rk x ≤ rk y) (by omega)]; rfl
  · rw [decide_eq_false c]
    by_cases d : rk x = rk y
    · rw [decide_eq_true d, decide_eq_true (p := rk x ≤ rk y) (by omega)]; rfl
    · rw [decide_eq_false d, decide_eq_false (p := rk x ≤ rk y) (by omega)]; rfl
theorem fge_of {x y : Nat} (hx : x < 18446744073709551616) (hy : y < 18446744073709551616) (nx : isN x = false) (ny : isN y = false) : (fgt x y || feq x y) = decide (rk y ≤ rk x) := by
  rw [fgt_rk x y hx hy, feq_rk x y hx hy, nx, ny]
  by_cases c : rk y < rk x
  · rw [decide_eq_true c, decide_eq_true (p := rk y ≤ rk x) (by omega)]; rfl
  · rw [decide_eq_false c]
    by_cases d : rk x = rk y
    · rw [decide_eq_true d, decide_eq_true (p := rk y ≤ rk x) (by omega)]; rfl
    · rw [decide_eq_false d, decide_eq_false (p := rk y ≤ rk x) (by omega)]; rfl
theorem R_sv11 {x : Nat} (h : mg x ≤ 9218868437227405312) : R (sv x) = rk x := by
  have r := R_mv (mg x) h
  unfold sv rk
  cases ng x
  · simp only [Bool.false_eq_true, if_false]; exact r.1
  · simp only [if_true]; exact r.2
theorem canon_nz (x : Nat) : canonB x ≠ 9223372036854775808 := by
  unfold canonB
  split
  · decide
  · split
    · decide
    · rename_i h
      intro e
      rw [e] at h
      exact h (by decide)
theorem addB_nz (a b : Nat) : addB a b ≠ 9223372036854775808 := by
  cases h : double.add a b with
  | none => rw [addB_none h]; decide
  | some r => rw [addB_some h]; exact canon_nz r
theorem sv_nn {d : Nat} (h : d < 9223372036854775808) : sv d = (mv d : Nat) := by
  unfold sv
  rw [ng_of_lt h, mg_of_lt h]; rfl
/-- a sum with what isn't below nothing, of a number -/
theorem add_nn {b d : Nat} (hb : b < 18446744073709551616) (nb : isN b = false) (hd : d < 9218868437227405312) :
    isN (addB b d) = false ∧ rk (addB b d) = (if mg b < 9218868437227405312 then R (sv b + (mv d : Nat)) else rk b) := by
  have md : mg d = d := mg_of_lt (by omega)
  rcases three b with h | h | h
  · rw [addB_fin b d hb (by omega) h (by omega), sv_nn (d := d) (by omega), if_pos h]
    refine ⟨?_, rk_rn _ _⟩
    rw [isN_false, rn_mg]
    exact Nat.min_le_right _ _
  · rw [addB_some (add_if b d hb h (by omega)), if_neg (by omega)]
    have hw := word_eq b hb
    rw [h] at hw
    cases g : ng b
    · rw [g] at hw
      have hw : b = 9218868437227405312 := by simpa using hw
      subst hw; decide
    · rw [g] at hw
      have hw : b = 18442240474082181120 := by simpa using hw
      subst hw; decide
  · rw [h] at nb; exact absurd nb (by decide)
/-- the level -/
def lvl (b : Nat) (w a : Int) : Nat := addB b (dpB w a)
theorem lvl_lt {b : Nat} {w a : Int} (hb : b < 18446744073709551616) (w2 : w ≤ 9223372036854775807) (a2 : a ≤ 9223372036854775807) : lvl b w a < 18446744073709551616 := addB_lt b _ hb (by have := dp_le w2 a2; omega)
theorem lvl_nan {b : Nat} {w a : Int} (h : isN b = true) : lvl b w a = quiet := addB_none (add_nan b _ (.inl h))
theorem lvl_N {b : Nat} {w a : Int} (hb : b < 18446744073709551616) (nb : isN b = false) (w2 : w ≤ 9223372036854775807) (a2 : a ≤ 9223372036854775807) : isN (lvl b w a) = false := (add_nn hb nb (by have := dp_le w2 a2; omega)).1
theorem lvl_mono {b : Nat} {w w' a : Int} (hb : b < 18446744073709551616) (nb : isN b = false) (h : w ≤ w') (w2 : w' ≤ 9223372036854775807) (a2 : a ≤ 9223372036854775807) : rk (lvl b w a) ≤ rk (lvl b w' a) := by
  have l1 := dp_le (w := w) (a := a) (by omega) a2
  have l2 := dp_le (w := w') (a := a) w2 a2
  have m := dp_mono (a := a) h w2 a2
  unfold lvl
  rw [(add_nn hb nb (by omega)).2, (add_nn hb nb (by omega)).2]
  split
  · have := mv_le.2 m
    exact R_mono (by omega)
  · exact Int.le_refl _
theorem lvl_bed {b : Nat} {w a : Int} (hb : b < 18446744073709551616) (nb : isN b = false) (w2 : w ≤ 9223372036854775807) (a2 : a ≤ 9223372036854775807) : rk b ≤ rk (lvl b w a) := by
  have l1 := dp_le (w := w) (a := a) w2 a2
  unfold lvl
  rw [(add_nn hb nb (by omega)).2]
  split
  · rename_i h
    rw [← R_sv11 (x := b) (by omega)]
    exact R_mono (by omega)
  · exact Int.le_refl _
theorem lvl_dry {b : Nat} {w a : Int} (hb : b < 18446744073709551616) (nb : isN b = false) (h : w < 1 ∨ a < 1) : rk (lvl b w a) = rk b := by
  unfold lvl
  rw [dp_zero h, (add_nn hb nb (by omega)).2]
  split
  · rename_i h
    rw [mv_zero, Int.natCast_zero, Int.add_zero]
    exact R_sv11 (by omega)
  · rfl
end Go.Proofs.YtgeipbegpflkhaaGreatDoor

/-
  Leer's slope of doubled differences is doubled, by plain numbers (no program).
-/
namespace Go.Proofs.YtgeipbegpflkhaaGreatDoor
open Tf Ieee
theorem pr_hi2 : mv 6112028652303860605 * mv 6112028652303860605 ≤ mv 7631948660914076401 * 2 ^ K := by decide +kernel
theorem pr_rung2 {V : Nat} (h1 : mv 3110860544497550640 * mv 3110860544497550640 ≤ V) (h2 : V ≤ mv 6112028652303860605 * mv 6112028652303860605) :
    52 + 1074 ≤ V.log2 ∧ 1599789920352257571 ≤ rung 52 1074 V ∧ rung 52 1074 V ≤ 7631948660914076401 := by
  have hV : 2 ^ (52 + K) ≤ V := Nat.le_trans pr_lg h1
  have h0 : V ≠ 0 := by have := Nat.two_pow_pos (52 + K); omega
  refine ⟨?_, ?_, ?_⟩
  · have := (Nat.le_log2 h0).2 hV
    exact this
  · exact rung_ge' (d := K) (Nat.le_trans pr_lo h1)
  · exact rung_le' (d := K) (Nat.le_trans h2 pr_hi2)
theorem far2 {x y : Nat} (x1 : 3110860544497550640 ≤ x) (x2 : x ≤ 6112028652303860605) (y1 : 3110860544497550640 ≤ y) (y2 : y ≤ 6112028652303860605) :
    Far x y ∧ 1599789920352257571 ≤ mlB x y ∧ mlB x y ≤ 7631948660914076401 := by
  obtain ⟨a, b, c⟩ := pr_rung2 (Nat.mul_le_mul (mv_le.2 x1) (mv_le.2 y1)) (Nat.mul_le_mul (mv_le.2 x2) (mv_le.2 y2))
  refine ⟨.inr ?_, ?_⟩
  · rw [mg_of_lt (by omega), mg_of_lt (by omega)]
    exact ⟨a, by omega⟩
  · rw [ml_word (by omega) (by omega)]
    omega
theorem db_of {x : Nat} (x1 : 1 ≤ x) (x2 : x < 9223372036854775808) : db x = x + 4503599627370496 := by unfold db; rw [mg_of_lt x2, if_neg (by omega)]
theorem md_of {x : Nat} (x1 : 4503599627370496 ≤ x) (x2 : x + 4503599627370496 < 9218868437227405312) : Md x := by unfold Md; rw [mg_of_lt (by omega)]; omega
theorem md_db {x : Nat} (x1 : 4503599627370496 ≤ x) (x2 : x + 9007199254740992 < 9218868437227405312) : Md (db x) := by
  have e := db_of (x := x) (by omega) (by omega)
  exact md_of (by omega) (by omega)
theorem db_db {x : Nat} (x1 : 4503599627370496 ≤ x) (x2 : x + 9007199254740992 < 9218868437227405312) : db (db x) = x + 9007199254740992 := by
  have e := db_of (x := x) (by omega) (by omega)
  have e2 := db_of (x := db x) (by omega) (by omega)
  omega
/-- Leer above nothing, ahead of the look whether it is finite -/
def leer (a b : Nat) : Nat := dvB (mlB (mlB 4611686018427387904 a) b) (plB a b)
set_option maxRecDepth 100000 in
theorem leer_db {a b : Nat} (a1 : 3110860544497550640 ≤ a) (a2 : a ≤ 6103021453049119613) (b1 : 3110860544497550640 ≤ b) (b2 : b ≤ 6103021453049119613) :
    leer (db a) (db b) = db (leer a b) ∧ 4503599627370496 ≤ leer a b ∧ leer a b ≤ 9146810843189477376 := by
  have ea := db_of (x := a) (by omega) (by omega)
  have eb := db_of (x := b) (by omega) (by omega)
  have eaa := db_db (x := a) (by omega) (by omega)
  have ma := md_of (x := a) (by omega) (by omega)
  have mda : Md (db a) := md_db (by omega) (by omega)
  have mb := md_of (x := b) (by omega) (by omega)
  have mdda : Md (db (db a)) := md_db (by omega) (by omega)
  have la : db a < 18446744073709551616 := by omega
  have laa : db (db a) < 18446744073709551616 := by omega
  have t1 : mlB 4611686018427387904 a = db a := two_db (by omega) ma
  have t2 : mlB 4611686018427387904 (db a) = db (db a) := two_db la mda
  have f1 := far2 (x := db a) (y := b) (by omega) (by omega) b1 (by omega)
  have f2 := far2 (x := db (db a)) (y := b) (by omega) (by omega) b1 (by omega)
  have p1 : mlB (db (db a)) (db b) = db (db (mlB (db a) b)) := by
    rw [mlB_dbr laa (by omega) mdda mb f2.1, mlB_db la (by omega) mda mb f1.1]
  have ka : Ps 6103021453049119613 a := ⟨.inr (by rw [mg_of_lt (by omega)]; omega), by omega⟩
  have kb : Ps 6103021453049119613 b := ⟨.inr (by rw [mg_of_lt (by omega)]; omega), by omega⟩
  obtain ⟨s1, s2⟩ := plB_db ka kb (by omega) (by omega)
  have hs := plB_nn (a := a) (b := b) (by omega) (by omega)
  have hs2 : plB a b ≤ 6107525052676490109 := by
    rcases s2.1 with h | h
    · rw [s2.mg] at h; omega
    · rw [s2.mg] at h; omega
  unfold leer
  rw [t2, t1, p1, s1]
  generalize mlB (db a) b = p at *
  generalize plB a b = s at *
  have ep := db_of (x := p) (by omega) (by omega)
  have mdp : Md (db p) := md_db (by omega) (by omega)
  have ms : Md s := md_of (by omega) (by omega)
  rw [dvB_db (by omega) (by omega) mdp ms (by rw [mg_of_lt (by omega)]; omega)]
  exact dvB_dbn (by omega) (by omega) (by omega) (by omega) (by omega) (by omega)
theorem sbee_db {a b : Nat} (a1 : 4503599627370496 ≤ a) (a2 : a + 9007199254740992 < 9218868437227405312) (b1 : 4503599627370496 ≤ b) (b2 : b + 9007199254740992 < 9218868437227405312) : sbee (db a) (db b) = db (sbee a b) := by
  have ea := db_of (x := a) (by omega) (by omega)
  have eb := db_of (x := b) (by omega) (by omega)
  have t1 : mlB 4611686018427387904 a = db a := two_db (by omega) (md_of a1 (by omega))
  have t2 : mlB 4611686018427387904 b = db b := two_db (by omega) (md_of b1 (by omega))
  have t3 : mlB 4611686018427387904 (db a) = db (db a) := two_db (by omega) (md_db a1 (by omega))
  have t4 : mlB 4611686018427387904 (db b) = db (db b) := two_db (by omega) (md_db b1 (by omega))
  have eaa := db_db a1 (by omega)
  have ebb := db_db b1 (by omega)
  unfold sbee
  rw [t1, t2, t3, t4]
  have em : ∀ m, m = max (min (db a) b) (min a (db b)) → 1 ≤ m ∧ m < 9223372036854775808 := by intro m hm; omega
  have e5 := db_of (x := max (min (db a) b) (min a (db b))) (em _ rfl).1 (em _ rfl).2
  omega
end Go.Proofs.YtgeipbegpflkhaaGreatDoor

/-
  Quotients of floats that aren't below nothing, by plain numbers (no program).
-/
namespace Go.Proofs.YtgeipbegpflkhaaGreatDoor
open Tf Ieee
theorem near_le (W : Nat) (p : Int) : ∃ r, r ≤ 9218868437227405312 ∧ double.nearest false W p = r := by
  have hlp := d_lp
  by_cases h : double.leastPlace ≤ p
  · obtain ⟨d, hd⟩ : ∃ d : Nat, p = double.leastPlace + (d : Int) := ⟨(p - double.leastPlace).toNat, by omega⟩
    rw [nearest_up double false W d _ hd, d_word, d_inf]
    simp only [Bool.false_eq_true, if_false]
    exact ⟨_, Nat.min_le_right _ _, rfl⟩
  · obtain ⟨d, hd⟩ : ∃ d : Nat, p = double.leastPlace - (d : Int) := ⟨(double.leastPlace - p).toNat, by omega⟩
    rw [hd, nearest_rung double false W d, d_word, d_inf]
    simp only [Bool.false_eq_true, if_false]
    exact ⟨_, Nat.min_le_right _ _, rfl⟩
theorem canon_nn {r : Nat} (h : r ≤ 9218868437227405312) : canonB r = r := by
  have mr : mg r = r := mg_of_lt (by omega)
  unfold canonB
  rw [mr, if_neg (by unfold isN; rw [mr]; simp; omega)]
  split <;> omega
/-- a float that isn't below nothing, as it is read -/
theorem read_nn {x : Nat} (h : x ≤ 9218868437227405312) : double.read x = .infinity false ∨ ∃ m p, double.read x = .number false m p := by
  have mx : mg x = x := mg_of_lt (by omega)
  by_cases c : x = 9218868437227405312
  · subst c
    exact .inl (by decide +kernel)
  · right
    obtain ⟨m, a, h1, -⟩ := read_fin double x (by show mg x < 9218868437227405312; omega)
    have hs : sg double x = false := by
      rw [sg_d x (by omega)]
      exact ng_of_lt (by omega)
    rw [hs] at h1
    exact ⟨m, _, h1⟩
theorem dv_nn {x y : Nat} (hx : x ≤ 9218868437227405312) (hy : y ≤ 9218868437227405312) : dvB x y = quiet ∨ dvB x y ≤ 9218868437227405312 := by
  have key : double.div x y = none ∨ ∃ r, r ≤ 9218868437227405312 ∧ double.div x y = some r := by
    show ((double.read x).quotient 54 (double.read y)).map double.write = none ∨ ∃ r, r ≤ 9218868437227405312 ∧ ((double.read x).quotient 54 (double.read y)).map double.write = some r
    rcases read_nn hx with e1 | ⟨m, p, e1⟩ <;> rcases read_nn hy with e2 | ⟨n, q, e2⟩ <;> rw [e1, e2] <;> unfold Datum.quotient <;> dsimp only
    · exact .inl rfl
    · exact .inr ⟨9218868437227405312, Nat.le_refl _, by decide +kernel⟩
    · obtain ⟨r, r1, r2⟩ := near_le 0 0
      exact .inr ⟨r, r1, by show some (double.nearest false 0 0) = _; rw [r2]⟩
    · by_cases hn : n = 0
      · rw [if_pos hn]
        by_cases hm : m = 0
        · rw [if_pos hm]; exact .inl rfl
        · rw [if_neg hm]; exact .inr ⟨9218868437227405312, Nat.le_refl _, by decide +kernel⟩
      · rw [if_neg hn]
        obtain ⟨r, r1, r2⟩ := near_le (2 * (m <<< (54 + n.log2 - m.log2) / n) + (m <<< (54 + n.log2 - m.log2) % n != 0).toNat) (p - q - ((54 + n.log2 - m.log2 : Nat) : Int) - 1)
        exact .inr ⟨r, r1, by show some (double.nearest false _ _) = _; rw [← r2]⟩
  rcases key with h | ⟨r, r1, h⟩
  · exact .inl (dvB_none h)
  · rw [dvB_some h, canon_nn r1]
    exact .inr r1
theorem ml_nn {x y : Nat} (hx : x ≤ 9218868437227405312) (hy : y ≤ 9218868437227405312) (x0 : 0 < x) (y0 : 0 < y) : mlB x y ≤ 9218868437227405312 := by
  have mx : mg x = x := mg_of_lt (by omega)
  have my : mg y = y := mg_of_lt (by omega)
  have nx : ng x = false := ng_of_lt (by omega)
  have ny : ng y = false := ng_of_lt (by omega)
  have hi : infW (false ^^ false) = 9218868437227405312 := by decide
  by_cases cx : x = 9218868437227405312
  · by_cases cy : y = 9218868437227405312
    · have e := mul_ii x y (by omega) (by omega) (by omega) (by omega)
      rw [mlB_some e, nx, ny, hi]
      exact Nat.le_refl _
    · have e := mul_if x y (by omega) (by omega) (by omega) (by omega)
      rw [if_neg (by omega)] at e
      rw [mlB_some e, nx, ny, hi]
      exact Nat.le_refl _
  · by_cases cy : y = 9218868437227405312
    · have e := mul_fi x y (by omega) (by omega) (by omega) (by omega)
      rw [if_neg (by omega)] at e
      rw [mlB_some e, nx, ny, hi]
      exact Nat.le_refl _
    · rw [ml_word (by omega) (by omega)]
      exact Nat.min_le_right _ _
/-- Leer above nothing: a NaN, or not below nothing -/
theorem leer_nn {a b : Nat} (ha : a ≤ 9218868437227405312) (hb : b ≤ 9218868437227405312) (a0 : 0 < a) (b0 : 0 < b) : leer a b = quiet ∨ leer a b ≤ 9218868437227405312 := by
  have d := d2_facts ha
  exact dv_nn (ml_nn d.1 hb (by omega) b0) (plB_nn ha hb).1
end Go.Proofs.YtgeipbegpflkhaaGreatDoor

/-
  What is filled in: by plain numbers (no program).
-/
namespace Go.Proofs.YtgeipbegpflkhaaGreatDoor
open Tf Ieee
theorem R_pos {v : Int} (h : 0 < v) : 1 ≤ R v := by
  have := R_mono (show (1 : Int) ≤ v by omega)
  rwa [show R 1 = 1 by decide +kernel] at this
theorem R_top (v : Int) : R v ≤ 9218868437227405312 := by
  unfold R
  have := Nat.min_le_right (rung 52 0 v.natAbs) 9218868437227405312
  split <;> omega
/-- how high the level lies above the bed -/
theorem hi_val {l b : Nat} (hl : l < 18446744073709551616) (hb : b < 18446744073709551616) (nl : isN l = false) (nb : isN b = false) (h : rk b < rk l) :
    sbB l b = if mg l < 9218868437227405312 ∧ mg b < 9218868437227405312 then (R (sv l - sv b)).toNat else 9218868437227405312 := by
  have wl := word_eq l hl
  have wb := word_eq b hb
  have hml := isN_false.1 nl
  have hmb := isN_false.1 nb
  unfold sbB
  have hn := negB_lt' hb
  have mn := negB_mg hb
  by_cases c : mg l < 9218868437227405312
  · by_cases d : mg b < 9218868437227405312
    · rw [if_pos ⟨c, d⟩, addB_fin l (negB b) hl hn c (by omega), negB_sv hb, rn_nn]
      · rfl
      · have := (sv_lt_iff b l).2 h
        omega
    · rw [if_neg (by omega), addB_some (add_fi l (negB b) hn c (by omega)), negB_ng hb]
      cases g : ng b
      · exfalso
        have e : rk b = 9218868437227405312 := by unfold rk; rw [g, show mg b = 9218868437227405312 by omega]; rfl
        have := rk_bound l nl
        omega
      · decide
  · rw [if_neg (by omega)]
    have e : mg l = 9218868437227405312 := by omega
    have gl : ng l = false := by
      cases g : ng l
      · rfl
      · exfalso
        have e3 : rk l = -9218868437227405312 := by unfold rk; rw [g, e]; rfl
        have := rk_bound b nb
        omega
    by_cases d : mg b < 9218868437227405312
    · rw [addB_some (add_if l (negB b) hl e (by omega)), gl]; decide
    · have e2 : mg b = 9218868437227405312 := by omega
      have gb : ng b = true := by
        cases g : ng b
        · exfalso
          have e3 : rk b = 9218868437227405312 := by unfold rk; rw [g, e2]; rfl
          have := rk_bound l nl
          omega
        · rfl
      rw [addB_some (r := infW false) (by rw [add_ii l (negB b) hl hn e (by omega), negB_ng hb, gl, gb]; rfl)]
      decide
theorem hi_in {l b : Nat} (hl : l < 18446744073709551616) (hb : b < 18446744073709551616) (nl : isN l = false) (nb : isN b = false) (h : rk b < rk l) : 0 < sbB l b ∧ sbB l b ≤ 9218868437227405312 := by
  rw [hi_val hl hb nl nb h]
  split
  · have := (sv_lt_iff b l).2 h
    have := R_pos (v := sv l - sv b) (by omega)
    have := R_top (sv l - sv b)
    omega
  · omega
theorem hi_up {l l' b : Nat} (hl : l < 18446744073709551616) (hl' : l' < 18446744073709551616) (hb : b < 18446744073709551616) (nl : isN l = false) (nl' : isN l' = false) (nb : isN b = false) (h : rk b < rk l) (k : rk l ≤ rk l') : sbB l b ≤ sbB l' b := by
  have i := (hi_in hl hb nl nb h).2
  rw [hi_val hl' hb nl' nb (by omega)]
  split
  · rename_i c
    rw [hi_val hl hb nl nb h]
    have f : mg l < 9218868437227405312 := by
      have hm := isN_false.1 nl
      rcases Nat.lt_or_ge (mg l) 9218868437227405312 with q | q
      · exact q
      · exfalso
        have e : mg l = 9218868437227405312 := by omega
        unfold rk at h k
        rw [e] at h k
        split at k <;> split at h <;> (try split at k) <;> (try split at h) <;> omega
    rw [if_pos ⟨f, c.2⟩]
    have a := (sv_le_iff l l').2 k
    have := R_mono (show sv l - sv b ≤ sv l' - sv b by omega)
    omega
  · exact i
theorem hi_dn {l b b' : Nat} (hl : l < 18446744073709551616) (hb : b < 18446744073709551616) (hb' : b' < 18446744073709551616) (nl : isN l = false) (nb : isN b = false) (nb' : isN b' = false) (h : rk b' < rk l) (k : rk b ≤ rk b') : sbB l b' ≤ sbB l b := by
  have i := (hi_in hl hb' nl nb' h).2
  rw [hi_val hl hb nl nb (by omega)]
  split
  · rename_i c
    rw [hi_val hl hb' nl nb' h]
    have f : mg b' < 9218868437227405312 := by
      have hm := isN_false.1 nb'
      rcases Nat.lt_or_ge (mg b') 9218868437227405312 with q | q
      · exact q
      · exfalso
        have e : mg b' = 9218868437227405312 := by omega
        unfold rk at h k
        rw [e] at h k
        split at k <;> split at h <;> (try split at k) <;> (try split at h) <;> omega
    rw [if_pos ⟨c.1, f⟩]
    have a := (sv_le_iff b b').2 k
    have := R_mono (show sv l - sv b' ≤ sv l - sv b by omega)
    omega
  · exact i
theorem ml_mono {x x' f : Nat} (hx : x ≤ x') (hx' : x' ≤ 9218868437227405312) (x0 : 0 < x) (f0 : 0 < f) (f1 : f < 9218868437227405312) : mlB x f ≤ mlB x' f := by
  have u := ml_nn (x := x) (y := f) (by omega) (by omega) x0 f0
  by_cases c : x' = 9218868437227405312
  · subst c
    have e : mlB 9218868437227405312 f = 9218868437227405312 := by
      have mf : mg f = f := mg_of_lt (by omega)
      rw [mlB_some (r := infW false) (by
        have h := mul_if 9218868437227405312 f (by decide) (by omega) (by decide) (by rw [mf]; exact f1)
        rw [h, mf, if_neg (by omega), ng_of_lt (x := f) (by omega)]
        rfl)]
      decide
    rw [e]; exact u
  · rw [ml_word (by omega) f1, ml_word (by omega) f1]
    have := rung_mono (p := 52) (d := 1074) (by omega) (Nat.mul_le_mul_right (mv f) (mv_le.2 hx))
    omega
theorem clamp_zero : clampB 0 4503599627370496 = 0 := by decide +kernel
theorem clamp_in11 {x : Nat} (h : x ≤ 9218868437227405312) : 0 ≤ clampB x 4503599627370496 ∧ clampB x 4503599627370496 ≤ 4503599627370496 := by
  have n : isN x = false := isN_false.2 (by rw [mg_of_lt (by omega)]; exact h)
  refine ⟨?_, ?_⟩
  · have := clampB_mono 0 x 4503599627370496 (by decide) (by omega) (by decide) n (by rw [rk_pos x (by omega), show rk 0 = 0 by decide]; omega)
    rwa [clamp_zero] at this
  · rw [clampB_num x _ (by omega) n, show clampM 4503599627370496 = 4503599627370496 by decide]
    split
    · omega
    · split <;> omega
theorem clamp_mono {x y : Nat} (h : x ≤ y) (hy : y ≤ 9218868437227405312) : clampB x 4503599627370496 ≤ clampB y 4503599627370496 :=
  clampB_mono x y _ (by omega) (by omega) (isN_false.2 (by rw [mg_of_lt (by omega)]; omega)) (isN_false.2 (by rw [mg_of_lt (by omega)]; omega)) (by rw [rk_pos x (by omega), rk_pos y (by omega)]; omega)
/-- what is filled in -/
def fil (b : Nat) (a : Int) (l : Nat) : Int := if fgt l b = true ∧ 1 ≤ a then clampB (mlB (sbB l b) (fw a)) 4503599627370496 else 0
theorem fil_yes {b : Nat} {a : Int} {l : Nat} (h : fgt l b = true) (ha : 1 ≤ a) : fil b a l = clampB (mlB (sbB l b) (fw a)) 4503599627370496 := by unfold fil; rw [if_pos ⟨h, ha⟩]
theorem fil_no {b : Nat} {a : Int} {l : Nat} (h : fgt l b = false ∨ a < 1) : fil b a l = 0 := by
  unfold fil
  rw [if_neg]
  rintro ⟨h1, h2⟩
  rcases h with h | h
  · rw [h] at h1; exact absurd h1 (by decide)
  · omega
theorem fgt_iff {l b : Nat} (hl : l < 18446744073709551616) (hb : b < 18446744073709551616) : fgt l b = true ↔ isN l = false ∧ isN b = false ∧ rk b < rk l := by
  rw [fgt_rk l b hl hb]
  cases isN l <;> cases isN b <;> simp
theorem fil_prod {b : Nat} {a : Int} {l : Nat} (hl : l < 18446744073709551616) (hb : b < 18446744073709551616) (h : fgt l b = true) (ha : 1 ≤ a) (a2 : a ≤ 9223372036854775807) : mlB (sbB l b) (fw a) ≤ 9218868437227405312 := by
  obtain ⟨nl, nb, k⟩ := (fgt_iff hl hb).1 h
  have i := hi_in hl hb nl nb k
  have f := fw_in ha a2
  exact ml_nn i.2 (by omega) i.1 (by omega)
theorem fil_in {b : Nat} {a : Int} {l : Nat} (hl : l < 18446744073709551616) (hb : b < 18446744073709551616) (a2 : a ≤ 9223372036854775807) : 0 ≤ fil b a l ∧ fil b a l ≤ 4503599627370496 := by
  by_cases h : fgt l b = true ∧ 1 ≤ a
  · rw [fil_yes h.1 h.2]
    exact clamp_in11 (fil_prod hl hb h.1 h.2 a2)
  · unfold fil
    rw [if_neg h]
    omega
theorem fil_up {b : Nat} {a : Int} {l l' : Nat} (hl : l < 18446744073709551616) (hl' : l' < 18446744073709551616) (hb : b < 18446744073709551616) (a2 : a ≤ 9223372036854775807) (h : isN l' = false) (k : isN l = false → rk l ≤ rk l') : fil b a l ≤ fil b a l' := by
  by_cases c : fgt l b = true ∧ 1 ≤ a
  · obtain ⟨nl, nb, q⟩ := (fgt_iff hl hb).1 c.1
    have k := k nl
    have c' : fgt l' b = true := (fgt_iff hl' hb).2 ⟨h, nb, by omega⟩
    rw [fil_yes c.1 c.2, fil_yes c' c.2]
    have f := fw_in c.2 a2
    have i := hi_in hl hb nl nb q
    have i' := hi_in hl' hb h nb (by omega)
    exact clamp_mono (ml_mono (hi_up hl hl' hb nl h nb q k) i'.2 i.1 (by omega) (by omega)) (fil_prod hl' hb c' c.2 a2)
  · have e : fil b a l = 0 := by unfold fil; rw [if_neg c]
    rw [e]
    exact (fil_in hl' hb a2).1
theorem fil_dn {b b' : Nat} {a : Int} {l : Nat} (hl : l < 18446744073709551616) (hb : b < 18446744073709551616) (hb' : b' < 18446744073709551616) (a2 : a ≤ 9223372036854775807) (h : isN b = false) (k : isN b' = false → rk b ≤ rk b') : fil b' a l ≤ fil b a l := by
  by_cases c : fgt l b' = true ∧ 1 ≤ a
  · obtain ⟨nl, nb, q⟩ := (fgt_iff hl hb').1 c.1
    have k := k nb
    have c' : fgt l b = true := (fgt_iff hl hb).2 ⟨nl, h, by omega⟩
    rw [fil_yes c.1 c.2, fil_yes c' c.2]
    have f := fw_in c.2 a2
    have i := hi_in hl hb' nl nb q
    have i' := hi_in hl hb nl h (by omega)
    exact clamp_mono (ml_mono (hi_dn hl hb hb' nl h nb q k) i'.2 i.1 (by omega) (by omega)) (fil_prod hl hb c' c.2 a2)
  · have e : fil b' a l = 0 := by unfold fil; rw [if_neg c]
    rw [e]
    exact (fil_in hl hb a2).1
end Go.Proofs.YtgeipbegpflkhaaGreatDoor

/-
  Slopes of two differences, by plain numbers (no program).
-/
namespace Go.Proofs.YtgeipbegpflkhaaGreatDoor
open Tf Ieee
/-- above nothing; below nothing -/
def ps (a : Nat) : Bool := decide (0 < a ∧ a ≤ 9218868437227405312)
def ns (a : Nat) : Bool := decide (9223372036854775808 < a ∧ a ≤ 18442240474082181120)
theorem ps_iff {a : Nat} : ps a = true ↔ 0 < a ∧ a ≤ 9218868437227405312 := by unfold ps; rw [decide_eq_true_iff]
theorem ns_iff {a : Nat} : ns a = true ↔ 9223372036854775808 < a ∧ a ≤ 18442240474082181120 := by unfold ns; rw [decide_eq_true_iff]
theorem ps_no {a : Nat} : ps a = false ↔ a = 0 ∨ 9218868437227405312 < a := by unfold ps; rw [decide_eq_false_iff_not]; omega
theorem ns_no {a : Nat} : ns a = false ↔ a ≤ 9223372036854775808 ∨ 18442240474082181120 < a := by unfold ns; rw [decide_eq_false_iff_not]; omega
theorem rk_zero : rk 0 = 0 := by decide
theorem fgt_ps {a : Nat} (ha : a < 18446744073709551616) : fgt a 0 = ps a := by
  rw [fgt_rk a 0 ha (by decide), rk_zero, show isN 0 = false by decide]
  unfold ps isN rk ng mg
  by_cases c : 9223372036854775808 ≤ a
  · rw [decide_eq_true c, if_pos rfl, decide_eq_false (p := 0 < a ∧ _) (by omega), decide_eq_false (p := (0 : Int) < _) (by omega), Bool.and_false]
  · rw [decide_eq_false c, if_neg (by decide), Nat.mod_eq_of_lt (by omega)]
    by_cases d : 9218868437227405312 < a
    · rw [decide_eq_true d, decide_eq_false (p := 0 < a ∧ _) (by omega)]; rfl
    · rw [decide_eq_false d]
      by_cases e : 0 < a
      · rw [decide_eq_true (p := 0 < a ∧ _) (by omega), decide_eq_true (p := (0 : Int) < _) (by omega)]; rfl
      · rw [decide_eq_false (p := 0 < a ∧ _) (by omega), decide_eq_false (p := (0 : Int) < _) (by omega)]; rfl
theorem flt_ns {a : Nat} (ha : a < 18446744073709551616) : flt a 0 = ns a := by
  rw [flt_rk a 0 ha (by decide), rk_zero, show isN 0 = false by decide]
  unfold ns isN rk ng mg
  by_cases c : 9223372036854775808 ≤ a
  · rw [decide_eq_true c, if_pos rfl]
    have e : a % 9223372036854775808 = a - 9223372036854775808 := by omega
    rw [e]
    by_cases d : 9218868437227405312 < a - 9223372036854775808
    · rw [decide_eq_true d, decide_eq_false (p := 9223372036854775808 < a ∧ _) (by omega)]; rfl
    · rw [decide_eq_false d]
      by_cases e : 9223372036854775808 < a
      · rw [decide_eq_true (p := 9223372036854775808 < a ∧ _) (by omega), decide_eq_true (p := -_ < (0 : Int)) (by omega)]; rfl
      · rw [decide_eq_false (p := 9223372036854775808 < a ∧ _) (by omega), decide_eq_false (p := -_ < (0 : Int)) (by omega)]; rfl
  · rw [decide_eq_false c, if_neg (by decide), decide_eq_false (p := 9223372036854775808 < a ∧ _) (by omega), decide_eq_false (p := _ < (0 : Int)) (by omega), Bool.and_false]
theorem nn_N {a : Nat} (h : a ≤ 9218868437227405312) : isN a = false := isN_false.2 (by rw [mg_of_lt (by omega)]; exact h)
theorem flt_nn {a b : Nat} (ha : a ≤ 9218868437227405312) (hb : b ≤ 9218868437227405312) : flt a b = decide (a < b) := by
  rw [flt_rk a b (by omega) (by omega), rk_pos a (by omega), rk_pos b (by omega), nn_N ha, nn_N hb]
  by_cases c : a < b
  · rw [decide_eq_true c, decide_eq_true (by omega)]; rfl
  · rw [decide_eq_false c, decide_eq_false (by omega)]; rfl
theorem fgt_nn {a b : Nat} (ha : a ≤ 9218868437227405312) (hb : b ≤ 9218868437227405312) : fgt a b = decide (b < a) := by
  rw [fgt_rk a b (by omega) (by omega), rk_pos a (by omega), rk_pos b (by omega), nn_N ha, nn_N hb]
  by_cases c : b < a
  · rw [decide_eq_true c, decide_eq_true (by omega)]; rfl
  · rw [decide_eq_false c, decide_eq_false (by omega)]; rfl
theorem feq_nn {a b : Nat} (ha : a ≤ 9218868437227405312) (hb : b ≤ 9218868437227405312) : feq a b = decide (a = b) := by
  rw [feq_rk a b (by omega) (by omega), rk_pos a (by omega), rk_pos b (by omega), nn_N ha, nn_N hb]
  by_cases c : a = b
  · rw [decide_eq_true c, decide_eq_true (by omega)]; rfl
  · rw [decide_eq_false c, decide_eq_false (by omega)]; rfl
/-- Leer above nothing -/
def lr (a b : Nat) : Nat := if leer a b < 9218868437227405312 then leer a b else 0
/-- the slope of two that are above nothing -/
def lm (k : Int) (a b : Nat) : Nat := if k = 1 then min a b else if k = 2 then sbee a b else if k = 3 then lr a b else 0
/-- the opposite; of nothing: nothing -/
def op (x : Nat) : Nat := if x = 0 then 0 else x + 9223372036854775808
/-- the slope -/
def slp (k : Int) (a b : Nat) : Nat := if (ps a && ps b) = true then lm k a b else if (ns a && ns b) = true then op (lm k (a - 9223372036854775808) (b - 9223372036854775808)) else 0
theorem lr_le (a b : Nat) : lr a b < 9218868437227405312 := by unfold lr; split <;> omega
theorem lm_le (k : Int) {a b : Nat} (ha : a ≤ 9218868437227405312) (hb : b ≤ 9218868437227405312) : lm k a b ≤ 9218868437227405312 := by
  have s := sbee_facts ha hb
  have l := lr_le a b
  unfold lm
  split
  · omega
  · split
    · omega
    · split <;> omega
theorem op_lt {x : Nat} (h : x ≤ 9218868437227405312) : op x ≤ 18442240474082181120 := by unfold op; split <;> omega
theorem slp_lt (k : Int) (a b : Nat) : slp k a b < 18446744073709551616 := by
  unfold slp
  split
  · rename_i h
    rw [Bool.and_eq_true, ps_iff, ps_iff] at h
    have := lm_le k h.1.2 h.2.2
    omega
  · split
    · rename_i h
      rw [Bool.and_eq_true, ns_iff, ns_iff] at h
      have := op_lt (lm_le k (a := a - 9223372036854775808) (b := b - 9223372036854775808) (by omega) (by omega))
      omega
    · omega
theorem canon_op {x : Nat} (h : x ≤ 9218868437227405312) : canonB (negB x) = op x := by
  unfold negB op canonB
  rw [ng_of_lt (by omega)]
  simp only [Bool.false_eq_true, if_false]
  by_cases c : x = 0
  · subst c; decide
  · have m : mg (x + 9223372036854775808) = x := by unfold mg; omega
    unfold isN
    rw [m, if_neg c, if_neg (by simp; omega)]
theorem neg_ns {a : Nat} (h : 9223372036854775808 < a) : negB a = a - 9223372036854775808 := by
  unfold negB
  rw [if_pos]
  unfold ng; exact decide_eq_true (by omega)
/-- products and sums of what is above nothing have an answer -/
theorem mul_pp {x y : Nat} (hx : x ≤ 9218868437227405312) (hy : y ≤ 9218868437227405312) (x0 : 0 < x) (y0 : 0 < y) : Ieee.double.mul x y = some (mlB x y) := by
  have h := ml_nn hx hy x0 y0
  cases e : Ieee.double.mul x y with
  | none => rw [mlB_none e] at h; unfold quiet at h; omega
  | some r => rw [mlB_some e]
theorem add_pp {x y : Nat} (hx : x ≤ 9218868437227405312) (hy : y ≤ 9218868437227405312) : Ieee.double.add x y = some (plB x y) := by
  have h := (plB_nn hx hy).1
  cases e : Ieee.double.add x y with
  | none => rw [plB_none e] at h; unfold quiet at h; omega
  | some r => rw [plB_some e]
/-- the lesser and the greater of two -/
theorem order_pp {a b : Nat} (ha : a ≤ 9218868437227405312) (hb : b ≤ 9218868437227405312) : Ieee.double.order a b = some (if a < b then .lt else if b < a then .gt else .eq) := by
  have h1 := flt_nn ha hb
  have h2 := fgt_nn ha hb
  have h3 := feq_nn ha hb
  unfold flt at h1
  unfold fgt at h2
  unfold feq at h3
  by_cases c : a < b
  · rw [if_pos c]; rw [decide_eq_true c] at h1; simpa using h1
  · rw [if_neg c]
    by_cases d : b < a
    · rw [if_pos d]; rw [decide_eq_true d] at h2; simpa using h2
    · rw [if_neg d]; rw [decide_eq_true (by omega)] at h3; simpa using h3
/-- whether it is finite, whatever the word -/
theorem lr_le_of {r : Nat} {a b : Nat} (h : IsC r (leer a b)) (hn : leer a b = quiet ∨ leer a b ≤ 9218868437227405312) :
    (flt r 9218868437227405311 || feq r 9218868437227405311) = decide (leer a b < 9218868437227405312) ∧ (leer a b < 9218868437227405312 → canonB r = leer a b) := by
  obtain ⟨h1, h2⟩ := h
  refine ⟨?_, fun _ => h2⟩
  rcases hn with e | e
  · rw [e] at h2 ⊢
    have nr : isN r = true := by
      cases k : isN r
      · unfold canonB at h2
        rw [k] at h2
        have := isN_false.1 k
        simp only [Bool.false_eq_true, if_false] at h2
        split at h2
        · exact absurd h2 (by decide)
        · rw [h2] at k; exact absurd k (by decide)
      · rfl
    rw [flt_rk r _ h1 (by decide), feq_rk r _ h1 (by decide), nr]
    rfl
  · have nr : isN r = false := by
      cases k : isN r
      · rfl
      · unfold canonB at h2
        rw [k, if_pos rfl] at h2
        rw [← h2] at e
        unfold quiet at e
        omega
    have rr : rk r = leer a b := by
      unfold canonB at h2
      rw [nr, if_neg (by decide)] at h2
      split at h2
      · rename_i m
        rw [← h2]
        unfold rk
        rw [m]; split <;> rfl
      · rw [h2]; exact rk_pos _ (by omega)
    rw [flt_rk r _ h1 (by decide), feq_rk r _ h1 (by decide), nr, rr, show isN 9218868437227405311 = false by decide, rk_pos 9218868437227405311 (by decide)]
    by_cases c : leer a b < 9218868437227405312
    · rw [decide_eq_true c]
      by_cases d : leer a b = 9218868437227405311
      · rw [d]; decide
      · rw [decide_eq_true (p := (_ : Int) < _) (by omega)]; rfl
    · rw [decide_eq_false c, decide_eq_false (p := (_ : Int) < _) (by omega), decide_eq_false (p := (_ : Int) = _) (by omega)]; rfl
end Go.Proofs.YtgeipbegpflkhaaGreatDoor

/-
  Opposite and exchanged differences, by plain numbers (no program).
-/
namespace Go.Proofs.YtgeipbegpflkhaaGreatDoor
open Tf Ieee
theorem neg_ps {a : Nat} (h : a < 9223372036854775808) : negB a = a + 9223372036854775808 := by
  unfold negB
  rw [ng_of_lt h, if_neg (by decide)]
theorem two_neg {p : Nat} (hp : p ≤ 9218868437227405312) : mlB 4611686018427387904 (p + 9223372036854775808) = mlB 4611686018427387904 p + 9223372036854775808 := by
  by_cases c : p = 9218868437227405312
  · subst c; decide +kernel
  · have mp : mg p = p := mg_of_lt (by omega)
    have mq : mg (p + 9223372036854775808) = p := by unfold mg; omega
    have nq : ng (p + 9223372036854775808) = true := ng_of_ge (by omega)
    rw [mul_w (by decide) (by omega) (by decide) (by omega), mul_w (by decide) (by omega) (by decide) (by omega), mp, mq, nq, ng_of_lt (x := p) (by omega), show ng 4611686018427387904 = false by decide]
    simp only [Bool.false_xor, if_true, Bool.false_eq_true, if_false]
    exact Nat.add_comm _ _
theorem fin_two_p {a : Nat} (h : ps a = true) : fin (mlB 4611686018427387904 a) = decide (mlB 4611686018427387904 a < 9218868437227405312) := by
  obtain ⟨-, h⟩ := ps_iff.1 h
  have := (d2_facts h).1
  unfold fin
  rw [mg_of_lt (by omega)]
theorem fin_two_n {a : Nat} (h : ns a = true) : fin (mlB 4611686018427387904 a) = decide (mlB 4611686018427387904 (a - 9223372036854775808) < 9218868437227405312) := by
  obtain ⟨h0, h⟩ := ns_iff.1 h
  obtain ⟨p, e⟩ : ∃ p, a = p + 9223372036854775808 := ⟨a - 9223372036854775808, by omega⟩
  subst e
  rw [Nat.add_sub_cancel, two_neg (by omega)]
  have := (d2_facts (a := p) (by omega)).1
  unfold fin
  have m : mg (mlB 4611686018427387904 p + 9223372036854775808) = mlB 4611686018427387904 p := by unfold mg; omega
  rw [m]
theorem ps_neg {a : Nat} (ha : a < 18446744073709551616) : ps (negB a) = ns a := by
  by_cases c : a < 9223372036854775808
  · rw [neg_ps c, ps_no.2 (by omega), ns_no.2 (by omega)]
  · have e : negB a = a - 9223372036854775808 := by
      unfold negB
      rw [ng_of_ge (by omega), if_pos rfl]
    rw [e]
    by_cases d : ns a = true
    · have := ns_iff.1 d
      rw [d, ps_iff.2 (by omega)]
    · have d := Bool.eq_false_iff.2 d
      have := ns_no.1 d
      rw [d, ps_no.2 (by omega)]
theorem ns_neg {a : Nat} (ha : a < 18446744073709551616) : ns (negB a) = ps a := by
  rw [← ps_neg (negB_lt' ha), negB_negB' ha]
theorem ps_ns {a : Nat} (h : ps a = true) : ns a = false := ns_no.2 (by have := ps_iff.1 h; omega)
theorem ns_ps {a : Nat} (h : ns a = true) : ps a = false := ps_no.2 (by have := ns_iff.1 h; omega)
theorem slp_p {k : Int} {a b : Nat} (ha : ps a = true) (hb : ps b = true) : slp k a b = lm k a b := by unfold slp; rw [ha, hb]; rfl
theorem slp_n {k : Int} {a b : Nat} (ha : ns a = true) (hb : ns b = true) : slp k a b = op (lm k (a - 9223372036854775808) (b - 9223372036854775808)) := by
  unfold slp; rw [ns_ps ha, ns_ps hb, ha, hb]; simp
theorem slp_z {k : Int} {a b : Nat} (ha : (ps a && ps b) = false) (hb : (ns a && ns b) = false) : slp k a b = 0 := by
  unfold slp; rw [ha, hb]; simp
theorem canon_op' {x : Nat} (h : x ≤ 9218868437227405312) : canonB (negB (op x)) = x := by
  unfold op
  by_cases c : x = 0
  · subst c; decide
  · rw [if_neg c, neg_ns (by omega), Nat.add_sub_cancel]
    exact canon_nn h
theorem slp_neg (k : Int) {a b : Nat} (ha : a < 18446744073709551616) (hb : b < 18446744073709551616) : slp k (negB a) (negB b) = canonB (negB (slp k a b)) := by
  cases p : (ps a && ps b)
  · cases n : (ns a && ns b)
    · rw [slp_z p n, slp_z (by rw [ps_neg ha, ps_neg hb]; exact n) (by rw [ns_neg ha, ns_neg hb]; exact p)]
      decide
    · rw [Bool.and_eq_true] at n
      have h1 := ns_iff.1 n.1
      have h2 := ns_iff.1 n.2
      rw [slp_n n.1 n.2, slp_p (by rw [ps_neg ha]; exact n.1) (by rw [ps_neg hb]; exact n.2), neg_ns h1.1, neg_ns h2.1, canon_op' (lm_le k (by omega) (by omega))]
  · rw [Bool.and_eq_true] at p
    have h1 := ps_iff.1 p.1
    have h2 := ps_iff.1 p.2
    rw [slp_p p.1 p.2, slp_n (by rw [ns_neg ha]; exact p.1) (by rw [ns_neg hb]; exact p.2), neg_ps (by omega), neg_ps (by omega), Nat.add_sub_cancel, Nat.add_sub_cancel, canon_op (lm_le k h1.2 h2.2)]
theorem lr_comm {a b : Nat} (ha : ps a = true) (hb : ps b = true) (fa : mlB 4611686018427387904 a < 9218868437227405312) (fb : mlB 4611686018427387904 b < 9218868437227405312) : lr b a = lr a b := by
  have a1 := ps_iff.1 ha
  have b1 := ps_iff.1 hb
  have da := d2_facts a1.2
  have db := d2_facts b1.2
  have e : leer b a = leer a b := by
    unfold leer
    rw [leer_comm (by omega) (by omega) fb fa]
    congr 1
    unfold plB
    rw [addB_comm_fin b a (by omega) (by omega) (by rw [mg_of_lt (by omega)]; omega) (by rw [mg_of_lt (by omega)]; omega)]
  unfold lr
  rw [e]
theorem lm_comm {k : Int} {a b : Nat} (ha : ps a = true) (hb : ps b = true) (h : k = 3 → mlB 4611686018427387904 a < 9218868437227405312 ∧ mlB 4611686018427387904 b < 9218868437227405312) : lm k b a = lm k a b := by
  unfold lm
  rw [Nat.min_comm b a, sbee_comm b a]
  split
  · rfl
  · split
    · rfl
    · split
      · rename_i c
        exact lr_comm ha hb (h c).1 (h c).2
      · rfl
theorem slp_comm {k : Int} {a b : Nat} (h : k = 3 → fin (mlB 4611686018427387904 a) = true ∧ fin (mlB 4611686018427387904 b) = true) : slp k b a = slp k a b := by
  cases p : (ps a && ps b)
  · cases n : (ns a && ns b)
    · rw [slp_z p n, slp_z (by rw [Bool.and_comm]; exact p) (by rw [Bool.and_comm]; exact n)]
    · rw [Bool.and_eq_true] at n
      rw [slp_n n.1 n.2, slp_n n.2 n.1]
      have h1 := ns_iff.1 n.1
      have h2 := ns_iff.1 n.2
      rw [lm_comm (ps_iff.2 (by omega)) (ps_iff.2 (by omega)) (fun e => by
        have := h e
        rw [fin_two_n n.1, fin_two_n n.2, decide_eq_true_iff, decide_eq_true_iff] at this
        exact this)]
  · rw [Bool.and_eq_true] at p
    rw [slp_p p.1 p.2, slp_p p.2 p.1]
    exact lm_comm p.1 p.2 (fun e => by
        have := h e
        rw [fin_two_p p.1, fin_two_p p.2, decide_eq_true_iff, decide_eq_true_iff] at this
        exact this)
theorem fin_q {r q : Nat} (h : IsQ r q) : fin r = fin q := by
  obtain ⟨h1, h2⟩ := h
  cases n : isN r
  · rw [qB_of n] at h2; rw [h2]
  · rw [qB_N n] at h2
    rw [← h2]
    have := isN_true.1 n
    unfold fin
    rw [decide_eq_false (by omega), decide_eq_false (by decide)]
end Go.Proofs.YtgeipbegpflkhaaGreatDoor
