/-
  Order and opposites of conversions, by plain numbers (no program).
-/
import Derived.Test.YtpncpbpdbdlamaaPz
import Derived.Test.YtpncpbpdbdlamaaWg
namespace Go.Proofs.Ytpncpbpdbdlamaa
open Tf

theorem sv_le_iff (x y : Nat) : sv x ≤ sv y ↔ rk x ≤ rk y := by
  have := sv_lt_iff y x
  omega
theorem cq_down_mono {x y : Nat} (h : sv x ≤ sv y) : cq .down x ≤ cq .down y := by
  have a := (down_floor x).1
  have b := (down_floor y).2
  have e : cq .down x * one < (cq .down y + 1) * one := by rw [Int.add_mul, Int.one_mul]; omega
  have := Int.lt_of_mul_lt_mul_right e (Int.le_of_lt onep)
  omega
theorem cq_even_mono {x y : Nat} (h : sv x ≤ sv y) : cq .even x ≤ cq .even y := by
  by_cases c : cq .even x ≤ cq .even y
  · exact c
  · exfalso
    obtain ⟨a1, a2, a3⟩ := even_near x
    obtain ⟨b1, b2, b3⟩ := even_near y
    have o := onep
    have e : (cq .even y + 1) * one ≤ cq .even x * one := Int.mul_le_mul_of_nonneg_right (by omega) (by omega)
    rw [Int.add_mul, Int.one_mul] at e
    have p1 := a3 (.inr (by omega))
    have p2 := b3 (.inl (by omega))
    have e2 : cq .even x * one = (cq .even y + 1) * one := by rw [Int.add_mul, Int.one_mul]; omega
    have := Int.eq_of_mul_eq_mul_right (by omega) e2
    omega

/-- what has no rank below the least whole number of 64 bits, and none above the greatest -/
theorem cOk_rk (way : Ieee.Toward) (x : Nat) (hx : x < 18446744073709551616) (n : isN x = false) : cOk way x = (decide (-4890909195324358656 ≤ rk x) && decide (rk x < 4890909195324358656)) := by
  rw [cOk_wOk way x hx, wOk_rk x hx, n]; simp
theorem fgt_zero (x : Nat) (hx : x < 18446744073709551616) (n : isN x = false) : fgt x 0 = decide (0 < rk x) := by
  have e : rk 0 = 0 := by decide
  have n0 : isN 0 = false := by decide
  rw [fgt_rk x 0 hx (by decide), n, n0, e]; simp
theorem cI_eq (way : Ieee.Toward) (x : Nat) (h : cOk way x = true) : cI way x = cq way x := by unfold cI; rw [h, if_pos rfl]

theorem clampM_nonneg (most : Int) : 0 ≤ clampM most := by unfold clampM; split <;> omega
theorem clampB_num (x : Nat) (most : Int) (hx : x < 18446744073709551616) (n : isN x = false) :
    clampB x most = if rk x < -4890909195324358656 then -clampM most else if rk x < 4890909195324358656 then min (max (cq .even x) (-clampM most)) (clampM most) else clampM most := by
  have hm := clampM_nonneg most
  have hk := cOk_rk .even x hx n
  have hg := fgt_zero x hx n
  unfold clampB
  rw [n, if_neg (by decide)]
  by_cases c1 : rk x < -4890909195324358656
  · have o : cOk .even x = false := by rw [hk, decide_eq_false (by omega)]; rfl
    rw [if_pos c1, o, hg, if_neg (by decide), decide_eq_false (by omega), if_neg (by decide)]
  · rw [if_neg c1]
    by_cases c2 : rk x < 4890909195324358656
    · have o : cOk .even x = true := by rw [hk, decide_eq_true (by omega), decide_eq_true c2]; rfl
      rw [if_pos c2, o, if_pos rfl, cI_eq .even x o]
    · have o : cOk .even x = false := by rw [hk, decide_eq_false c2, Bool.and_false]
      rw [if_neg c2, o, hg, if_neg (by decide), decide_eq_true (by omega), if_pos rfl]
theorem clampB_mono (x y : Nat) (most : Int) (hx : x < 18446744073709551616) (hy : y < 18446744073709551616) (nx : isN x = false) (ny : isN y = false) (h : rk x ≤ rk y) : clampB x most ≤ clampB y most := by
  have hm := clampM_nonneg most
  have hc := cq_even_mono ((sv_le_iff x y).2 h)
  rw [clampB_num x most hx nx, clampB_num y most hy ny]
  repeat' split
  all_goals omega

/-- opposites -/
theorem cq_even_neg (x : Nat) (hx : x < 18446744073709551616) : cq .even (negB x) = -cq .even x := by
  unfold cq
  rw [mg_negB, ng_negB x hx, cutq_even, cutq_even]
  cases ng x <;> simp
theorem clampB_neg (x : Nat) (most : Int) (hx : x < 18446744073709551616) (n : isN x = false) (hmx : most ≤ 9223372036854775807) : clampB x most = -clampB (negB x) most := by
  have hm := clampM_nonneg most
  have hm2 : clampM most ≤ 9223372036854775807 := by unfold clampM; split <;> omega
  have hc := cq_even_neg x hx
  have hr := rk_negB x hx
  have o := onep
  rw [clampB_num x most hx n, clampB_num _ most (negB_lt hx) (by rw [isN_neg]; exact n), hc, hr]
  by_cases c : rk x = -4890909195324358656 ∨ rk x = 4890909195324358656
  · have key : ∀ z : Nat, z < 18446744073709551616 → rk z = -4890909195324358656 → cq .even z = -9223372036854775808 := by
      intro z hz hr
      have e := word_rk z 14114281232179134464 hz (by decide) (by rw [hr]; decide) (by rw [hr]; decide)
      subst e
      have w := wOk_itV .even 14114281232179134464 (by decide) (by decide)
      have hs := sv_itV .even 14114281232179134464 (by decide) (by decide)
      obtain ⟨q, hq⟩ := whole_great (mg 14114281232179134464) (by decide)
      have he : cq .even 14114281232179134464 * one = -9223372036854775808 * one := by
        rw [← sv_n63]
        have e1 := (itV_fin .even 14114281232179134464 (by decide) (by decide)).2.2
        unfold cq sv
        have hn : ng 14114281232179134464 = true := by decide
        rw [hn, if_pos rfl, if_pos rfl, hq, cutq_mul _ _ _ _ one_pos, Int.natCast_mul, Int.neg_mul]
      exact Int.eq_of_mul_eq_mul_right (by omega) he
    rcases c with c | c
    · have := key x hx c
      rw [c, this]
      simp only [Int.neg_neg]
      rw [if_neg (by decide), if_pos (by decide), if_neg (by decide), if_neg (by decide)]
      omega
    · have h2 := key (negB x) (negB_lt hx) (by rw [hr, c])
      rw [hc] at h2
      rw [c]
      rw [if_neg (by decide), if_neg (by decide), if_neg (by decide), if_pos (by decide)]
      omega
  · repeat' split
    all_goals omega

/-- a function of magnitudes that keeps order, with the sign -/
theorem sgn_mono (φ : Nat → Nat) (mono : ∀ a b, a ≤ b → φ a ≤ φ b) (z : φ 0 = 0) (x y : Nat) (h : rk x ≤ rk y) :
    (if ng x then -(φ (mg x) : Int) else (φ (mg x) : Int)) ≤ (if ng y then -(φ (mg y) : Int) else (φ (mg y) : Int)) := by
  unfold rk at h
  have m1 := mono (mg x) (mg y)
  have m2 := mono (mg y) (mg x)
  cases hx : ng x <;> cases hy : ng y <;> rw [hx, hy] at h <;> simp only [Bool.false_eq_true, if_false, if_true] at h ⊢
  · have := m1 (by omega); omega
  · have e1 : mg x = 0 := by omega
    have e2 : mg y = 0 := by omega
    rw [e1, e2, z]; simp
  · omega
  · have := m2 (by omega); omega

/-- over 32 bits and back -/
def E32 (r : Nat) : Nat := if r = 2139095040 then 9218868437227405312 else D32 r
def E16 (r : Nat) : Nat := if r = 31744 then 9218868437227405312 else D16 r
theorem E32_le (r : Nat) (h : r ≤ 2139095040) : E32 r ≤ 9218868437227405312 := by
  unfold E32
  by_cases c : r = 2139095040
  · rw [if_pos c]; exact Nat.le_refl _
  · rw [if_neg c]; have := D32_lt r (by omega); omega
theorem E16_le (r : Nat) (h : r ≤ 31744) : E16 r ≤ 9218868437227405312 := by
  unfold E16
  by_cases c : r = 31744
  · rw [if_pos c]; exact Nat.le_refl _
  · rw [if_neg c]; have := D16_lt r (by omega); omega
theorem t32_le (x : Nat) : t32 x ≤ 2139095040 := by unfold t32; omega
theorem t16_le (x : Nat) : t16 x ≤ 31744 := by unfold t16; omega
theorem t32_mg (x y : Nat) (h : mg x = mg y) : t32 x = t32 y := by unfold t32; rw [h]
theorem t16_mg (x y : Nat) (h : mg x = mg y) : t16 x = t16 y := by unfold t16; rw [h]
theorem over32 (x : Nat) (n : isN x = false) : from32B (to32B x) = if ng x then 9223372036854775808 + E32 (t32 x) else E32 (t32 x) := by
  have h := t32_le x
  unfold to32B
  rw [n, if_neg (by decide)]
  unfold from32B
  have hm : mg32 (if ng x = true then 2147483648 + t32 x else t32 x) = t32 x := by
    unfold mg32; cases ng x <;> simp <;> omega
  have hn : ng32 (if ng x = true then 2147483648 + t32 x else t32 x) = ng x := by
    unfold ng32; cases ng x
    · rw [if_neg (by decide)]; exact decide_eq_false (by omega)
    · rw [if_pos rfl]; exact decide_eq_true (by omega)
  rw [hm, hn, if_neg (by omega)]
  rfl
theorem over16 (x : Nat) (n : isN x = false) : from16B (to16B x) = if ng x then 9223372036854775808 + E16 (t16 x) else E16 (t16 x) := by
  have h := t16_le x
  unfold to16B
  rw [n, if_neg (by decide)]
  unfold from16B
  have hm : (if ng x = true then 32768 + t16 x else t16 x) % 32768 = t16 x := by
    cases ng x <;> simp <;> omega
  have hn : ng16 (if ng x = true then 32768 + t16 x else t16 x) = ng x := by
    unfold ng16; cases ng x
    · rw [if_neg (by decide)]; exact decide_eq_false (by omega)
    · rw [if_pos rfl]; exact decide_eq_true (by omega)
  rw [hm, hn, if_neg (by omega)]
  rfl
theorem word_parts (s : Bool) (m : Nat) (h : m ≤ 9218868437227405312) : mg (if s then 9223372036854775808 + m else m) = m ∧ ng (if s then 9223372036854775808 + m else m) = s ∧ isN (if s then 9223372036854775808 + m else m) = false ∧ rk (if s then 9223372036854775808 + m else m) = (if s then -(m : Int) else (m : Int)) ∧ (if s then 9223372036854775808 + m else m) < 18446744073709551616 := by
  have e1 : mg (if s then 9223372036854775808 + m else m) = m := by unfold mg; cases s <;> simp <;> omega
  have e2 : ng (if s then 9223372036854775808 + m else m) = s := by
    cases s
    · rw [if_neg (by decide)]; exact ng_of_lt (by omega)
    · rw [if_pos rfl]; exact ng_of_ge (by omega)
  refine ⟨e1, e2, isN_false.2 (by omega), ?_, ?_⟩
  · unfold rk; rw [e1, e2]
  · cases s <;> simp <;> omega
theorem E32_mono {a b : Nat} (h : a ≤ b) (hb : b ≤ 2139095040) : E32 a ≤ E32 b := by
  unfold E32
  by_cases c : a = 2139095040
  · have : b = 2139095040 := by omega
    rw [if_pos c, if_pos this]; exact Nat.le_refl _
  · rw [if_neg c]
    have l := D32_lt a (by omega)
    by_cases c2 : b = 2139095040
    · rw [if_pos c2]; omega
    · rw [if_neg c2, ← mv_le, mv_D32, mv_D32]
      exact Nat.mul_le_mul_right _ (mag_le.2 h)
theorem E16_mono {a b : Nat} (h : a ≤ b) (hb : b ≤ 31744) : E16 a ≤ E16 b := by
  unfold E16
  by_cases c : a = 31744
  · have : b = 31744 := by omega
    rw [if_pos c, if_pos this]; exact Nat.le_refl _
  · rw [if_neg c]
    have l := D16_lt a (by omega)
    by_cases c2 : b = 31744
    · rw [if_pos c2]; omega
    · rw [if_neg c2, ← mv_le, mv_D16, mv_D16]
      exact Nat.mul_le_mul_right _ (mag_le.2 h)
theorem over32_mono (x y : Nat) (nx : isN x = false) (ny : isN y = false) (h : rk x ≤ rk y) : rk (from32B (to32B x)) ≤ rk (from32B (to32B y)) := by
  rw [over32 x nx, over32 y ny, (word_parts _ _ (E32_le _ (t32_le x))).2.2.2.1, (word_parts _ _ (E32_le _ (t32_le y))).2.2.2.1]
  refine sgn_mono (fun m => E32 (min (rung 23 K2 (mv m)) 2139095040)) ?_ ?_ x y h
  · intro a b hab
    refine E32_mono ?_ (by omega)
    have := rung_mono (p := 23) (d := K2) (by omega) (mv_le.2 hab)
    omega
  · decide +kernel
theorem over16_mono (x y : Nat) (nx : isN x = false) (ny : isN y = false) (h : rk x ≤ rk y) : rk (from16B (to16B x)) ≤ rk (from16B (to16B y)) := by
  rw [over16 x nx, over16 y ny, (word_parts _ _ (E16_le _ (t16_le x))).2.2.2.1, (word_parts _ _ (E16_le _ (t16_le y))).2.2.2.1]
  refine sgn_mono (fun m => E16 (min (rung 10 H2 (mv m)) 31744)) ?_ ?_ x y h
  · intro a b hab
    refine E16_mono ?_ (by omega)
    have := rung_mono (p := 10) (d := H2) (by omega) (mv_le.2 hab)
    omega
  · decide +kernel

/-- over 32 bits to 16: at most one place off -/
theorem twice (x : Nat) (n : isN x = false) : t16 (from32B (to32B x)) ≤ t16 x + 1 ∧ t16 x ≤ t16 (from32B (to32B x)) + 1 := by
  have hw := word_parts (ng x) _ (E32_le _ (t32_le x))
  rw [over32 x n]
  rw [t16_mg _ (E32 (t32 x)) (by rw [hw.1, mg_of_lt (by have := E32_le _ (t32_le x); omega)])]
  by_cases ci : t32 x = 2139095040
  · have e1 : t16 (E32 (t32 x)) = 31744 := by
      unfold E32; rw [if_pos ci]; exact t16_inf _ (by decide)
    have e2 : t16 x = 31744 := by
      refine t16_inf x ?_
      by_cases c : 4679240012837945344 ≤ mg x
      · exact c
      · exfalso
        have h1 : mv (mg x) ≤ mv (D32 1199570944) := by
          rw [mv_le]
          have : (4679240012837945344 : Nat) = D32 1199570944 := by decide +kernel
          omega
        rw [mv_D32] at h1
        have := rung_le (p := 23) (d := K2) (by omega) h1
        unfold t32 at ci
        omega
    rw [e1, e2]; omega
  · have hr : t32 x = rung 23 K2 (mv (mg x)) ∧ rung 23 K2 (mv (mg x)) < 2139095040 := by
      have := t32_le x
      unfold t32 at ci this ⊢
      omega
    have e1 : E32 (t32 x) = D32 (rung 23 K2 (mv (mg x))) := by unfold E32; rw [if_neg ci, hr.1]
    have l1 := D32_lt _ hr.2
    unfold t16
    rw [e1, mg_of_lt (by omega), mv_D32]
    obtain ⟨r0, b1, b2⟩ := floor_ex 10 H2 (mv (mg x))
    have rp : ∀ r, ∃ s, mag 10 r * 2 ^ H2 = mag 23 s * 2 ^ K2 := by
      intro r
      obtain ⟨A, k, hA, e⟩ := mag_form 10 r
      obtain ⟨s, hs⟩ := rep 23 A (k + 125) (by omega)
      refine ⟨s, ?_⟩
      have hh : k + H2 = k + 125 + K2 := by have := H2_eq; have := K2_eq; omega
      rw [hs, e, Nat.mul_assoc, ← Nat.pow_add, hh, Nat.mul_assoc, ← Nat.pow_add]
    obtain ⟨s0, h0⟩ := rp r0
    obtain ⟨s1, h1⟩ := rp (r0 + 1)
    have c1 := rung_floor 10 H2 r0 _ (by omega) b1 b2
    have d1 : s0 ≤ rung 23 K2 (mv (mg x)) := rung_ge (by omega) (by rw [← h0]; exact b1)
    have d2 : rung 23 K2 (mv (mg x)) ≤ s1 := rung_le (by omega) (by rw [← h1]; exact Nat.le_of_lt b2)
    have f1 : mag 10 r0 * 2 ^ H2 ≤ mag 23 (rung 23 K2 (mv (mg x))) * 2 ^ K2 := by rw [h0]; exact Nat.mul_le_mul_right _ (mag_le.2 d1)
    have f2 : mag 23 (rung 23 K2 (mv (mg x))) * 2 ^ K2 ≤ mag 10 (r0 + 1) * 2 ^ H2 := by rw [h1]; exact Nat.mul_le_mul_right _ (mag_le.2 d2)
    have g1 := rung_ge (p := 10) (d := H2) (by omega) f1
    have g2 := rung_le (p := 10) (d := H2) (by omega) f2
    have fin : ∀ p q r0 : Nat, r0 ≤ p → p ≤ r0 + 1 → r0 ≤ q → q ≤ r0 + 1 → min q 31744 ≤ min p 31744 + 1 ∧ min p 31744 ≤ min q 31744 + 1 := by intros; omega
    exact fin _ _ r0 c1.1 c1.2 g1 g2
end Go.Proofs.Ytpncpbpdbdlamaa
