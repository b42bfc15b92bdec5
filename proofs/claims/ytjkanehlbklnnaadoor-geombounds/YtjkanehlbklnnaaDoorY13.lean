/-
  Some of the texts of this proof, one behind the other.
-/
import Derived.Test.YtjkanehlbklnnaaDoorY12
import Derived.Test.YtjkanehlbklnnaaDoorY07
import Derived.Test.YtjkanehlbklnnaaDoorY11
import Derived.Test.YtjkanehlbklnnaaDoorY08
import Derived.Test.YtjkanehlbklnnaaDoorTie
import Derived.Test.YtjkanehlbklnnaaDoorCards
import Derived.ProofKit
import Derived.LaidMore
import Derived.OpenShut
import Derived.Stop.Joined
import Derived.Carry
import Derived.Lib.SmallJoins
import Derived.WalkLawsBesides
/-
  Order and opposites of conversions, by plain numbers (no program).
-/
namespace Go.Proofs.YtjkanehlbklnnaaDoor
open Tf

theorem sv_le_iff (x y : Nat) : sv x ≤ sv y ↔ rk x ≤ rk y := by
  have := sv_lt_iff y x
  omega
theorem cq_down_mono {x y : Nat} (h : sv x ≤ sv y) : cq .down x ≤ cq .down y := by
  have a := (down_floor x).1
  have b := (down_floor y).2
  have e : cq .down x * one < (cq .down y + 1) * one := by rw [Int.add_mul, Int.one_mul]; omega
  have := Int.lt_of_mul_lt_mul_right e (Int.le_of_lt onep)
  omega
theorem cq_even_mono {x y : Nat} (h : sv x ≤ sv y) : cq .even x ≤ cq .even y := by
  by_cases c : cq .even x ≤ cq .even y
  · exact c
  · exfalso
    obtain ⟨a1, a2, a3⟩ := even_near x
    obtain ⟨b1, b2, b3⟩ := even_near y
    have o := onep
    have e : (cq .even y + 1) * one ≤ cq .even x * one := Int.mul_le_mul_of_nonneg_right (by omega) (by omega)
    rw [Int.add_mul, Int.one_mul] at e
    have p1 := a3 (.inr (by omega))
    have p2 := b3 (.inl (by omega))
    have e2 : cq .even x * one = (cq .even y + 1) * one := by rw [Int.add_mul, Int.one_mul]; omega
    have := Int.eq_of_mul_eq_mul_right (by omega) e2
    omega

/-- what has no rank below the least whole number of 64 bits, and none above the greatest -/
theorem cOk_rk (way : Ieee.Toward) (x : Nat) (hx : x < 18446744073709551616) (n : isN x = false) : cOk way x = (decide (-4890909195324358656 ≤ rk x) && decide (rk x < 4890909195324358656)) := by
  rw [cOk_wOk way x hx, wOk_rk x hx, n]; simp
theorem fgt_zero (x : Nat) (hx : x < 18446744073709551616) (n : isN x = false) : fgt x 0 = decide (0 < rk x) := by
  have e : rk 0 = 0 := by decide
  have n0 : isN 0 = false := by decide
  rw [fgt_rk x 0 hx (by decide), n, n0, e]; simp
theorem cI_eq (way : Ieee.Toward) (x : Nat) (h : cOk way x = true) : cI way x = cq way x := by unfold cI; rw [h, if_pos rfl]

theorem clampM_nonneg (most : Int) : 0 ≤ clampM most := by unfold clampM; split <;> omega
theorem clampB_num (x : Nat) (most : Int) (hx : x < 18446744073709551616) (n : isN x = false) :
    clampB x most = if rk x < -4890909195324358656 then -clampM most else if rk x < 4890909195324358656 then min (max (cq .even x) (-clampM most)) (clampM most) else clampM most := by
  have hm := clampM_nonneg most
  have hk := cOk_rk .even x hx n
  have hg := fgt_zero x hx n
  unfold clampB
  rw [n, if_neg (by decide)]
  by_cases c1 : rk x < -4890909195324358656
  · have o : cOk .even x = false := by rw [hk, decide_eq_false (by omega)]; rfl
    rw [if_pos c1, o, hg, if_neg (by decide), decide_eq_false (by omega), if_neg (by decide)]
  · rw [if_neg c1]
    by_cases c2 : rk x < 4890909195324358656
    · have o : cOk .even x = true := by rw [hk, decide_eq_true (by omega), decide_eq_true c2]; rfl
      rw [if_pos c2, o, if_pos rfl, cI_eq .even x o]
    · have o : cOk .even x = false := by rw [hk, decide_eq_false c2, Bool.and_false]
      rw [if_neg c2, o, hg, if_neg (by decide), decide_eq_true (by omega), if_pos rfl]
theorem clampB_mono (x y : Nat) (most : Int) (hx : x < 18446744073709551616) (hy : y < 18446744073709551616) (nx : isN x = false) (ny : isN y = false) (h : rk x ≤ rk y) : clampB x most ≤ clampB y most := by
  have hm := clampM_nonneg most
  have hc := cq_even_mono ((sv_le_iff x y).2 h)
  rw [clampB_num x most hx nx, clampB_num y most hy ny]
  repeat' split
  all_goals omega

/-- opposites -/
theorem cq_even_neg (x : Nat) (hx : x < 18446744073709551616) : cq .even (negB x) = -cq .even x := by
  unfold cq
  rw [mg_negB, ng_negB x hx, cutq_even, cutq_even]
  cases ng x <;> simp
theorem clampB_neg (x : Nat) (most : Int) (hx : x < 18446744073709551616) (n : isN x = false) (hmx : most ≤ 9223372036854775807) : clampB x most = -clampB (negB x) most := by
  have hm := clampM_nonneg most
  have hm2 : clampM most ≤ 9223372036854775807 := by unfold clampM; split <;> omega
  have hc := cq_even_neg x hx
  have hr := rk_negB x hx
  have o := onep
  rw [clampB_num x most hx n, clampB_num _ most (negB_lt hx) (by rw [isN_neg]; exact n), hc, hr]
  by_cases c : rk x = -4890909195324358656 ∨ rk x = 4890909195324358656
  · have key : ∀ z : Nat, z < 18446744073709551616 → rk z = -4890909195324358656 → cq .even z = -9223372036854775808 := by
      intro z hz hr
      have e := word_rk z 14114281232179134464 hz (by decide) (by rw [hr]; decide) (by rw [hr]; decide)
      subst e
      have w := wOk_itV .even 14114281232179134464 (by decide) (by decide)
      have hs := sv_itV .even 14114281232179134464 (by decide) (by decide)
      obtain ⟨q, hq⟩ := whole_great (mg 14114281232179134464) (by decide)
      have he : cq .even 14114281232179134464 * one = -9223372036854775808 * one := by
        rw [← sv_n63]
        have e1 := (itV_fin .even 14114281232179134464 (by decide) (by decide)).2.2
        unfold cq sv
        have hn : ng 14114281232179134464 = true := by decide
        rw [hn, if_pos rfl, if_pos rfl, hq, cutq_mul _ _ _ _ one_pos, Int.natCast_mul, Int.neg_mul]
      exact Int.eq_of_mul_eq_mul_right (by omega) he
    rcases c with c | c
    · have := key x hx c
      rw [c, this]
      simp only [Int.neg_neg]
      rw [if_neg (by decide), if_pos (by decide), if_neg (by decide), if_neg (by decide)]
      omega
    · have h2 := key (negB x) (negB_lt hx) (by rw [hr, c])
      rw [hc] at h2
      rw [c]
      rw [if_neg (by decide), if_neg (by decide), if_neg (by decide), if_pos (by decide)]
      omega
  · repeat' split
    all_goals omega

/-- a function of magnitudes that keeps order, with the sign -/
theorem sgn_mono (φ : Nat → Nat) (mono : ∀ a b, a ≤ b → φ a ≤ φ b) (z : φ 0 = 0) (x y : Nat) (h : rk x ≤ rk y) :
    (if ng x then -(φ (mg x) : Int) else (φ (mg x) : Int)) ≤ (if ng y then -(φ (mg y) : Int) else (φ (mg y) : Int)) := by
  unfold rk at h
  have m1 := mono (mg x) (mg y)
  have m2 := mono (mg y) (mg x)
  cases hx : ng x <;> cases hy : ng y <;> rw [hx, hy] at h <;> simp only [Bool.false_eq_true, if_false, if_true] at h ⊢
  · have := m1 (by omega); omega
  · have e1 : mg x = 0 := by omega
    have e2 : mg y = 0 := by omega
    rw [e1, e2, z]; simp
  · omega
  · have := m2 (by omega); omega

/-- over 32 bits and back -/
def E32 (r : Nat) : Nat := if r = 2139095040 then 9218868437227405312 else D32 r
def E16 (r : Nat) : Nat := if r = 31744 then 9218868437227405312 else D16 r
theorem E32_le (r : Nat) (h : r ≤ 2139095040) : E32 r ≤ 9218868437227405312 := by
  unfold E32
  by_cases c : r = 2139095040
  · rw [if_pos c]; exact Nat.le_refl _
  · rw [if_neg c]; have := D32_lt r (by omega); omega
theorem E16_le (r : Nat) (h : r ≤ 31744) : E16 r ≤ 9218868437227405312 := by
  unfold E16
  by_cases c : r = 31744
  · rw [if_pos c]; exact Nat.le_refl _
  · rw [if_neg c]; have := D16_lt r (by omega); omega
theorem t32_le (x : Nat) : t32 x ≤ 2139095040 := by unfold t32; omega
theorem t16_le (x : Nat) : t16 x ≤ 31744 := by unfold t16; omega
theorem t32_mg (x y : Nat) (h : mg x = mg y) : t32 x = t32 y := by unfold t32; rw [h]
theorem t16_mg (x y : Nat) (h : mg x = mg y) : t16 x = t16 y := by unfold t16; rw [h]
theorem over32 (x : Nat) (n : isN x = false) : from32B (to32B x) = if ng x then 9223372036854775808 + E32 (t32 x) else E32 (t32 x) := by
  have h := t32_le x
  unfold to32B
  rw [n, if_neg (by decide)]
  unfold from32B
  have hm : mg32 (if ng x = true then 2147483648 + t32 x else t32 x) = t32 x := by
    unfold mg32; cases ng x <;> simp <;> omega
  have hn : ng32 (if ng x = true then 2147483648 + t32 x else t32 x) = ng x := by
    unfold ng32; cases ng x
    · rw [if_neg (by decide)]; exact decide_eq_false (by omega)
    · rw [if_pos rfl]; exact decide_eq_true (by omega)
  rw [hm, hn, if_neg (by omega)]
  rfl
theorem over16 (x : Nat) (n : isN x = false) : from16B (to16B x) = if ng x then 9223372036854775808 + E16 (t16 x) else E16 (t16 x) := by
  have h := t16_le x
  unfold to16B
  rw [n, if_neg (by decide)]
  unfold from16B
  have hm : (if ng x = true then 32768 + t16 x else t16 x) % 32768 = t16 x := by
    cases ng x <;> simp <;> omega
  have hn : ng16 (if ng x = true then 32768 + t16 x else t16 x) = ng x := by
    unfold ng16; cases ng x
    · rw [if_neg (by decide)]; exact decide_eq_false (by omega)
    · rw [if_pos rfl]; exact decide_eq_true (by omega)
  rw [hm, hn, if_neg (by omega)]
  rfl
theorem word_parts (s : Bool) (m : Nat) (h : m ≤ 9218868437227405312) : mg (if s then 9223372036854775808 + m else m) = m ∧ ng (if s then 9223372036854775808 + m else m) = s ∧ isN (if s then 9223372036854775808 + m else m) = false ∧ rk (if s then 9223372036854775808 + m else m) = (if s then -(m : Int) else (m : Int)) ∧ (if s then 9223372036854775808 + m else m) < 18446744073709551616 := by
  have e1 : mg (if s then 9223372036854775808 + m else m) = m := by unfold mg; cases s <;> simp <;> omega
  have e2 : ng (if s then 9223372036854775808 + m else m) = s := by
    cases s
    · rw [if_neg (by decide)]; exact ng_of_lt (by omega)
    · rw [if_pos rfl]; exact ng_of_ge (by omega)
  refine ⟨e1, e2, isN_false.2 (by omega), ?_, ?_⟩
  · unfold rk; rw [e1, e2]
  · cases s <;> simp <;> omega
theorem E32_mono {a b : Nat} (h : a ≤ b) (hb : b ≤ 2139095040) : E32 a ≤ E32 b := by
  unfold E32
  by_cases c : a = 2139095040
  · have : b = 2139095040 := by omega
    rw [if_pos c, if_pos this]; exact Nat.le_refl _
  · rw [if_neg c]
    have l := D32_lt a (by omega)
    by_cases c2 : b = 2139095040
    · rw [if_pos c2]; omega
    · rw [if_neg c2, ← mv_le, mv_D32, mv_D32]
      exact Nat.mul_le_mul_right _ (mag_le.2 h)
theorem E16_mono {a b : Nat} (h : a ≤ b) (hb : b ≤ 31744) : E16 a ≤ E16 b := by
  unfold E16
  by_cases c : a = 31744
  · have : b = 31744 := by omega
    rw [if_pos c, if_pos this]; exact Nat.le_refl _
  · rw [if_neg c]
    have l := D16_lt a (by omega)
    by_cases c2 : b = 31744
    · rw [if_pos c2]; omega
    · rw [if_neg c2, ← mv_le, mv_D16, mv_D16]
      exact Nat.mul_le_mul_right _ (mag_le.2 h)
theorem over32_mono (x y : Nat) (nx : isN x = false) (ny : isN y = false) (h : rk x ≤ rk y) : rk (from32B (to32B x)) ≤ rk (from32B (to32B y)) := by
  rw [over32 x nx, over32 y ny, (word_parts _ _ (E32_le _ (t32_le x))).2.2.2.1, (word_parts _ _ (E32_le _ (t32_le y))).2.2.2.1]
  refine sgn_mono (fun m => E32 (min (rung 23 K2 (mv m)) 2139095040)) ?_ ?_ x y h
  · intro a b hab
    refine E32_mono ?_ (by omega)
    have := rung_mono (p := 23) (d := K2) (by omega) (mv_le.2 hab)
    omega
  · decide +kernel
theorem over16_mono (x y : Nat) (nx : isN x = false) (ny : isN y = false) (h : rk x ≤ rk y) : rk (from16B (to16B x)) ≤ rk (from16B (to16B y)) := by
  rw [over16 x nx, over16 y ny, (word_parts _ _ (E16_le _ (t16_le x))).2.2.2.1, (word_parts _ _ (E16_le _ (t16_le y))).2.2.2.1]
  refine sgn_mono (fun m => E16 (min (rung 10 H2 (mv m)) 31744)) ?_ ?_ x y h
  · intro a b hab
    refine E16_mono ?_ (by omega)
    have := rung_mono (p := 10) (d := H2) (by omega) (mv_le.2 hab)
    omega
  · decide +kernel

/-- over 32 bits to 16: at most one place off -/
theorem twice (x : Nat) (n : isN x = false) : t16 (from32B (to32B x)) ≤ t16 x + 1 ∧ t16 x ≤ t16 (from32B (to32B x)) + 1 := by
  have hw := word_parts (ng x) _ (E32_le _ (t32_le x))
  rw [over32 x n]
  rw [t16_mg _ (E32 (t32 x)) (by rw [hw.1, mg_of_lt (by have := E32_le _ (t32_le x); omega)])]
  by_cases ci : t32 x = 2139095040
  · have e1 : t16 (E32 (t32 x)) = 31744 := by
      unfold E32; rw [if_pos ci]; exact t16_inf _ (by decide)
    have e2 : t16 x = 31744 := by
      refine t16_inf x ?_
      by_cases c : 4679240012837945344 ≤ mg x
      · exact c
      · exfalso
        have h1 : mv (mg x) ≤ mv (D32 1199570944) := by
          rw [mv_le]
          have : (4679240012837945344 : Nat) = D32 1199570944 := by decide +kernel
          omega
        rw [mv_D32] at h1
        have := rung_le (p := 23) (d := K2) (by omega) h1
        unfold t32 at ci
        omega
    rw [e1, e2]; omega
  · have hr : t32 x = rung 23 K2 (mv (mg x)) ∧ rung 23 K2 (mv (mg x)) < 2139095040 := by
      have := t32_le x
      unfold t32 at ci this ⊢
      omega
    have e1 : E32 (t32 x) = D32 (rung 23 K2 (mv (mg x))) := by unfold E32; rw [if_neg ci, hr.1]
    have l1 := D32_lt _ hr.2
    unfold t16
    rw [e1, mg_of_lt (by omega), mv_D32]
    obtain ⟨r0, b1, b2⟩ := floor_ex 10 H2 (mv (mg x))
    have rp : ∀ r, ∃ s, mag 10 r * 2 ^ H2 = mag 23 s * 2 ^ K2 := by
      intro r
      obtain ⟨A, k, hA, e⟩ := mag_form 10 r
      obtain ⟨s, hs⟩ := rep 23 A (k + 125) (by omega)
      refine ⟨s, ?_⟩
      have hh : k + H2 = k + 125 + K2 := by have := H2_eq; have := K2_eq; omega
      rw [hs, e, Nat.mul_assoc, ← Nat.pow_add, hh, Nat.mul_assoc, ← Nat.pow_add]
    obtain ⟨s0, h0⟩ := rp r0
    obtain ⟨s1, h1⟩ := rp (r0 + 1)
    have c1 := rung_floor 10 H2 r0 _ (by omega) b1 b2
    have d1 : s0 ≤ rung 23 K2 (mv (mg x)) := rung_ge (by omega) (by rw [← h0]; exact b1)
    have d2 : rung 23 K2 (mv (mg x)) ≤ s1 := rung_le (by omega) (by rw [← h1]; exact Nat.le_of_lt b2)
    have f1 : mag 10 r0 * 2 ^ H2 ≤ mag 23 (rung 23 K2 (mv (mg x))) * 2 ^ K2 := by rw [h0]; exact Nat.mul_le_mul_right _ (mag_le.2 d1)
    have f2 : mag 23 (rung 23 K2 (mv (mg x))) * 2 ^ K2 ≤ mag 10 (r0 + 1) * 2 ^ H2 := by rw [h1]; exact Nat.mul_le_mul_right _ (mag_le.2 d2)
    have g1 := rung_ge (p := 10) (d := H2) (by omega) f1
    have g2 := rung_le (p := 10) (d := H2) (by omega) f2
    have fin : ∀ p q r0 : Nat, r0 ≤ p → p ≤ r0 + 1 → r0 ≤ q → q ≤ r0 + 1 → min q 31744 ≤ min p 31744 + 1 ∧ min p 31744 ≤ min q 31744 + 1 := by intros; omega
    exact fin _ _ r0 c1.1 c1.2 g1 g2
end Go.Proofs.YtjkanehlbklnnaaDoor

/-
  Areas within their bounds (no program).
-/
namespace Go.Proofs.YtjkanehlbklnnaaDoor
open Tf
theorem ml_nn {a c : Nat} (ha : a < 9218868437227405312) (hc : c < 9218868437227405312) : mlB a c = min (rung 52 1074 (mv a * mv c)) 9218868437227405312 := by
  have ma : mg a = a := mg_of_lt (by omega)
  have mc : mg c = c := mg_of_lt (by omega)
  have e := mul_d a c (by omega) (by omega) (by rw [ma]; exact ha) (by rw [mc]; exact hc)
  rw [ng_of_lt (by omega), ng_of_lt (by omega), ma, mc] at e
  rw [mlB_some e, if_neg (by decide)]
theorem mv_mono' {a b : Nat} (h : a ≤ b) : mv a ≤ mv b := by
  rcases Nat.lt_or_ge (mv b) (mv a) with k | k
  · have e1 : rung 52 0 (mv a) = a := rung_mag0 52 a (by omega)
    have e2 : rung 52 0 (mv b) = b := rung_mag0 52 b (by omega)
    have := rung_mono (p := 52) (d := 0) (by omega) (Nat.le_of_lt k)
    rw [e1, e2] at this
    have : a = b := by omega
    rw [this]; exact Nat.le_refl _
  · exact k
theorem ml_le {a b c : Nat} (h : a ≤ b) (hb : b < 9218868437227405312) (hc : c < 9218868437227405312) : mlB a c ≤ mlB b c := by
  rw [ml_nn (by omega) hc, ml_nn hb hc]
  have := rung_mono (p := 52) (d := 1074) (by omega) (Nat.mul_le_mul_right (mv c) (mv_mono' h))
  omega
theorem arI_le {L : Nat} (h : L ≤ 4616189618054758400) : 1 ≤ arI L ∧ arI L ≤ 2147483648 := by
  have q0 : qB L = L := by unfold qB; rw [if_neg (by rw [isN_true, mg_of_lt (by omega)]; omega)]
  have q1 : qB 4602678819172646912 = 4602678819172646912 := by decide
  have q2 : qB 4742290407621132288 = 4742290407621132288 := by decide
  have e1 : mlB 4616189618054758400 4602678819172646912 = 4611686018427387904 := by decide +kernel
  have e2 : mlB 4611686018427387904 4742290407621132288 = 4746794007248502784 := by decide +kernel
  have m1 := ml_le (c := 4602678819172646912) h (by omega) (by omega)
  rw [e1] at m1
  have m2 := ml_le (c := 4742290407621132288) m1 (by omega) (by omega)
  rw [e2] at m2
  have hA : arQ L = mlB (mlB L 4602678819172646912) 4742290407621132288 := by unfold arQ; rw [q0, q1, q2]
  unfold arI
  rw [hA]
  generalize mlB (mlB L 4602678819172646912) 4742290407621132288 = y at *
  have hy : mg y = y := mg_of_lt (by omega)
  have hc : cq .even y ≤ cq .even 4746794007248502784 := by
    refine cq_even_mono ?_
    have s1 : sv y = (mv y : Int) := by unfold sv; rw [ng_of_lt (by omega), hy]; rfl
    have s2 : sv 4746794007248502784 = (mv 4746794007248502784 : Int) := by unfold sv; rw [ng_of_lt (by omega), mg_of_lt (by omega)]; rfl
    rw [s1, s2]
    have := mv_mono' m2
    omega
  have hv : cq .even 4746794007248502784 = 2147483648 := by decide +kernel
  rw [hv] at hc
  have hI : cI .even y ≤ 2147483648 := by
    unfold cI
    split
    · exact hc
    · omega
  generalize cI .even y = z at *
  clear hA q0 q1 q2 e1 e2 m1 m2 hc hv hy
  omega
end Go.Proofs.YtjkanehlbklnnaaDoor

/-
  Areas, lengths and gaps within their bounds: the walk.
-/
namespace Go.Proofs.YtjkanehlbklnnaaDoor
open Go.RowKit Tf Cu
attribute [local go_sem] run_bits run_from raw_feq raw_fne raw_flt raw_fgt run_neg run_store_float
theorem two_cmp {L : Nat} (h1 : 1 ≤ L) (h2 : L ≤ 4611686018427387904) : fgt L 0 = true ∧ (flt L 4611686018427387904 || feq L 4611686018427387904) = true := by
  have hm : mg L = L := mg_of_lt (by omega)
  have hn : ng L = false := ng_of_lt (by omega)
  have r1 : rk L = (L : Int) := by unfold rk; rw [hn, hm]; rfl
  have r2 : rk 0 = 0 := by decide
  have r3 : rk 4611686018427387904 = 4611686018427387904 := by decide
  have i1 : isN L = false := by rw [isN_false, hm]; omega
  have i2 : isN 0 = false := by decide
  have i3 : isN 4611686018427387904 = false := by decide
  rw [fgt_rk L 0 (by omega) (by omega), flt_rk L 4611686018427387904 (by omega) (by omega), feq_rk L 4611686018427387904 (by omega) (by omega), r1, r2, r3, i1, i2, i3]
  simp
  omega
set_option maxRecDepth 100000 in
set_option maxHeartbeats 16000000 in
theorem bounds_go (a b o : Int) (n c s : Nat) (y1 : Int) (p1 p2 p3 q1 q2 q3 m1 m2 m3 L G : Nat) (V : Int) (w : World) (ew1 : IntKind.u64.wrap o = y1) (et1 : y1.tmod 4 = s) (lsi : (s : Int) < 4) (v1 : 1 ≤ V) (v2 : V ≤ 2147483648)
    (l1 : fgt L 0 = true) (l2 : (flt L 4611686018427387904 || feq L 4611686018427387904) = true) (g1 : fgt G 0 = true) (g2 : (flt G 4611686018427387904 || feq G 4611686018427387904) = true)
    (AWK : Hid (Calls Tryd.prog 5 #[] w fun e w' => e = .returned (.bool true) ∧ Below w.heap.size w w'))
    (NE : Hid (∀ w, Calls Tryd.prog 6 #[.int .i64 a, .int .i64 b] w fun e w' => e = .returned (.tuple #[.int .i64 n, .int .i64 c]) ∧ ∃ k, w' = w.drewN k))
    (AR : Hid (∀ v, Calls Tryd.prog 7 #[.int .i64 n, .int .i64 c] v fun e w' => e = .returned (.int .i64 V) ∧ Below v.heap.size v w'))
    (L1 : Hid (∀ v, Calls Tryd.prog 8 #[.int .i64 n, .int .i64 c, .int .i64 s] v fun e w' => e = .returned (.float .f64 L) ∧ Below v.heap.size v w'))
    (G1 : Hid (∀ v, Ab w v → Calls Tryd.prog 9 #[.int .i64 n, .int .i64 c, .int .i64 s] v fun e w' => e = .returned (.float .f64 G) ∧ Below v.heap.size v w'))
    (M1 : Hid (∀ v, Calls Tryd.prog 10 #[.int .i64 n, .int .i64 c] v fun e w' => e = .returned (.tuple #[.agg #[.float .f64 m1, .float .f64 m2, .float .f64 m3], .bool true]) ∧ Below v.heap.size v w'))
    (E1 : Hid (∀ v, Calls Tryd.prog 11 #[.int .i64 n, .int .i64 c, .int .i64 s] v fun e w' => e = .returned (.tuple #[.agg #[.float .f64 p1, .float .f64 p2, .float .f64 p3], .agg #[.float .f64 q1, .float .f64 q2, .float .f64 q3]]) ∧ Below v.heap.size v w'))
    (NM : Hid (∀ v, Calls Tryd.prog 12 #[.agg #[.float .f64 m1, .float .f64 m2, .float .f64 m3]] v fun e w' => e = .returned (.bool true) ∧ Below v.heap.size v w'))
    (NP : Hid (∀ v, Calls Tryd.prog 12 #[.agg #[.float .f64 p1, .float .f64 p2, .float .f64 p3]] v fun e w' => e = .returned (.bool true) ∧ Below v.heap.size v w'))
    (NQ : Hid (∀ v, Calls Tryd.prog 12 #[.agg #[.float .f64 q1, .float .f64 q2, .float .f64 q3]] v fun e w' => e = .returned (.bool true) ∧ Below v.heap.size v w')) :
    Calls Tryd.prog 3 #[.int .i64 a, .int .i64 b, .int .i64 o] w fun e w' => e = .returned (.bool true) ∧ Below w.heap.size w w' := by
  have l3 : flt L 4611686018427387904 = true ∨ feq L 4611686018427387904 = true := by simpa using l2
  have g3 : flt G 4611686018427387904 = true ∨ feq G 4611686018427387904 = true := by simpa using g2
  go_enter Tryd.func3, Tryd.ntmps3
  go_wp2_with fail
  refine Calls.mono (AWK.out) ?_
  rintro e v1 ⟨rfl, b1⟩
  have AV1 : Hid (Ab w v1) := Ab.call (Ab.refl w) b1
  have AW1 : Hid (Ab w v1) := AV1.out
  clear b1 AV1
  go_wp2_with fail
  refine Calls.mono (NE.out _) ?_
  rintro e vv ⟨rfl, k2, rfl⟩
  have AW2 : Hid (Ab w (v1.drewN k2)) := Ab.drewN AW1.out _
  clear AW1
  go_wp2_with fail
  refine Calls.mono (AR.out _) ?_
  rintro e v3 ⟨rfl, b3⟩
  have AV3 : Hid (Ab w v3) := Ab.call AW2.out b3
  have AW3 : Hid (Ab w v3) := AV3.out
  clear b3 AV3 AW2
  go_wp2_with fail
  refine Calls.mono (L1.out _) ?_
  rintro e v4 ⟨rfl, b4⟩
  have AV4 : Hid (Ab w v4) := Ab.call AW3.out b4
  have AW4 : Hid (Ab w v4) := AV4.out
  clear b4 AV4 AW3
  go_wp2_with fail
  refine Calls.mono (G1.out _ AW4.out) ?_
  rintro e v5 ⟨rfl, b5⟩
  have AV5 : Hid (Ab w v5) := Ab.call AW4.out b5
  have AW5 : Hid (Ab w v5) := AV5.out
  clear b5 AV5 AW4
  go_wp2_with fail
  refine Calls.mono (M1.out _) ?_
  rintro e v6 ⟨rfl, b6⟩
  have AV6 : Hid (Ab w v6) := Ab.call AW5.out b6
  have RM6 : Hid ((v6.alloc (.cells #[.float .f64 m1, .float .f64 m2, .float .f64 m3] 30)).heap[v6.heap.size]? = some (.cells #[.float .f64 m1, .float .f64 m2, .float .f64 m3] 30)) := heap_alloc_new _ _
  have AW6 : Hid (Ab w (v6.alloc (.cells #[.float .f64 m1, .float .f64 m2, .float .f64 m3] 30))) := AV6.out.call (bl1 v6 (.cells #[.float .f64 m1, .float .f64 m2, .float .f64 m3] 30))
  clear b6 AV6 AW5
  go_wp2_with fail
  refine Calls.mono (E1.out _) ?_
  rintro e v7 ⟨rfl, b7⟩
  have AV7 : Hid (Ab w v7) := Ab.call AW6.out b7
  have RM7 : Hid (((v7.alloc (.cells #[.float .f64 p1, .float .f64 p2, .float .f64 p3] 30)).alloc (.cells #[.float .f64 q1, .float .f64 q2, .float .f64 q3] 30)).heap[v6.heap.size]? = some (.cells #[.float .f64 m1, .float .f64 m2, .float .f64 m3] 30)) := Ab.heap (bl2 v7 (.cells #[.float .f64 p1, .float .f64 p2, .float .f64 p3] 30) (.cells #[.float .f64 q1, .float .f64 q2, .float .f64 q3] 30)) (Ab.heap b7 RM6.out)
  have RA7 : Hid (((v7.alloc (.cells #[.float .f64 p1, .float .f64 p2, .float .f64 p3] 30)).alloc (.cells #[.float .f64 q1, .float .f64 q2, .float .f64 q3] 30)).heap[v7.heap.size]? = some (.cells #[.float .f64 p1, .float .f64 p2, .float .f64 p3] 30)) := heap_alloc2_old _ _ _
  have RB7 : Hid (((v7.alloc (.cells #[.float .f64 p1, .float .f64 p2, .float .f64 p3] 30)).alloc (.cells #[.float .f64 q1, .float .f64 q2, .float .f64 q3] 30)).heap[v7.heap.size + 1]? = some (.cells #[.float .f64 q1, .float .f64 q2, .float .f64 q3] 30)) := heap_alloc2_new _ _ _
  have AW7 : Hid (Ab w ((v7.alloc (.cells #[.float .f64 p1, .float .f64 p2, .float .f64 p3] 30)).alloc (.cells #[.float .f64 q1, .float .f64 q2, .float .f64 q3] 30))) := AV7.out.call (bl2 v7 (.cells #[.float .f64 p1, .float .f64 p2, .float .f64 p3] 30) (.cells #[.float .f64 q1, .float .f64 q2, .float .f64 q3] 30))
  clear b7 AV7 RM6 AW6
  obtain ⟨-, xM0, xM1, xM2⟩ := rowfacts RM7.out
  go_wp2_with fail
  refine Calls.mono (NM.out _) ?_
  rintro e v8 ⟨rfl, b8⟩
  clear xM0 xM1 xM2
  have AV8 : Hid (Ab w v8) := Ab.call AW7.out b8
  have RM8 : Hid (v8.heap[v6.heap.size]? = some (.cells #[.float .f64 m1, .float .f64 m2, .float .f64 m3] 30)) := Ab.heap b8 RM7.out
  have RA8 : Hid (v8.heap[v7.heap.size]? = some (.cells #[.float .f64 p1, .float .f64 p2, .float .f64 p3] 30)) := Ab.heap b8 RA7.out
  have RB8 : Hid (v8.heap[v7.heap.size + 1]? = some (.cells #[.float .f64 q1, .float .f64 q2, .float .f64 q3] 30)) := Ab.heap b8 RB7.out
  have AW8 : Hid (Ab w v8) := AV8.out
  clear b8 AV8 RM7 RA7 RB7 AW7
  obtain ⟨-, xA0, xA1, xA2⟩ := rowfacts RA8.out
  go_wp2_with fail
  refine Calls.mono (NP.out _) ?_
  rintro e v9 ⟨rfl, b9⟩
  clear xA0 xA1 xA2
  have AV9 : Hid (Ab w v9) := Ab.call AW8.out b9
  have RM9 : Hid (v9.heap[v6.heap.size]? = some (.cells #[.float .f64 m1, .float .f64 m2, .float .f64 m3] 30)) := Ab.heap b9 RM8.out
  have RA9 : Hid (v9.heap[v7.heap.size]? = some (.cells #[.float .f64 p1, .float .f64 p2, .float .f64 p3] 30)) := Ab.heap b9 RA8.out
  have RB9 : Hid (v9.heap[v7.heap.size + 1]? = some (.cells #[.float .f64 q1, .float .f64 q2, .float .f64 q3] 30)) := Ab.heap b9 RB8.out
  have AW9 : Hid (Ab w v9) := AV9.out
  clear b9 AV9 RM8 RA8 RB8 AW8
  obtain ⟨-, xB0, xB1, xB2⟩ := rowfacts RB9.out
  go_wp2_with fail
  refine Calls.mono (NQ.out _) ?_
  rintro e v10 ⟨rfl, b10⟩
  clear xB0 xB1 xB2
  have AV10 : Hid (Ab w v10) := Ab.call AW9.out b10
  have RM10 : Hid (v10.heap[v6.heap.size]? = some (.cells #[.float .f64 m1, .float .f64 m2, .float .f64 m3] 30)) := Ab.heap b10 RM9.out
  have RA10 : Hid (v10.heap[v7.heap.size]? = some (.cells #[.float .f64 p1, .float .f64 p2, .float .f64 p3] 30)) := Ab.heap b10 RA9.out
  have RB10 : Hid (v10.heap[v7.heap.size + 1]? = some (.cells #[.float .f64 q1, .float .f64 q2, .float .f64 q3] 30)) := Ab.heap b10 RB9.out
  have AW10 : Hid (Ab w v10) := AV10.out
  clear b10 AV10 RM9 RA9 RB9 AW9
  go_wp2
  go_ret
  exact ⟨by first | rfl | (simp [l1, l2, g1, g2, l3, g3]; done) | (simp [l1, l2, g1, g2, l3, g3]; omega), AW10.out⟩
theorem near_corner {n f i j : Nat} (hn : 1 ≤ n ∧ n ≤ 32) (hf : f < 6) (hi : i ≤ n) (hj : j ≤ n) : 4607182418800017400 ≤ nl n (cr n f i j) ∧ nl n (cr n f i j) ≤ 4607182418800017412 := by
  unfold cr
  exact nl_near (d := 0) hn hf (by omega) (by omega) (by omega) (by omega) (by omega)
theorem near_middle {n c : Nat} (hn : 1 ≤ n ∧ n ≤ 32) (hc : c < 6 * n * n) : 4607182418800017400 ≤ nl n (MD n c) ∧ nl n (MD n c) ≤ 4607182418800017412 := by
  obtain ⟨h1, h2, h3, -⟩ := dec_lt hn.1 hc
  unfold MD md
  exact nl_near (d := 1) hn h1 (by omega) (by omega) (by omega) (by omega) (by omega)
theorem near_ends {n c s : Nat} (hn : 1 ≤ n ∧ n ≤ 32) (hc : c < 6 * n * n) (hs : s < 4) : (4607182418800017400 ≤ nl n (C1 n c s) ∧ nl n (C1 n c s) ≤ 4607182418800017412) ∧ (4607182418800017400 ≤ nl n (C2 n c s) ∧ nl n (C2 n c s) ≤ 4607182418800017412) := by
  obtain ⟨h1, h2, h3, -⟩ := dec_lt hn.1 hc
  unfold C1 C2
  rcases Cu.four hs with rfl | rfl | rfl | rfl
  all_goals exact ⟨near_corner hn h1 (by omega) (by omega), near_corner hn h1 (by omega) (by omega)⟩
theorem geomBounds_walk (a b o : Int) (w : World) (h : Fr w) :
    Calls Tryd.prog 3 #[.int .i64 a, .int .i64 b, .int .i64 o] w fun e w' => e = .returned (.bool true) ∧ Below w.heap.size w w' := by
  obtain ⟨n, c, hn, hc, N⟩ := net8_at a b
  obtain ⟨y1, hy1⟩ : ∃ y, o % 18446744073709551616 = y := ⟨_, rfl⟩
  have y01 : 0 ≤ y1 ∧ y1 < 18446744073709551616 := by omega
  obtain ⟨s, hs⟩ : ∃ c : Nat, y1 % 4 = c := ⟨(y1 % 4).toNat, by omega⟩
  have ls : s < 4 := by omega
  have lsi : (s : Int) < 4 := by omega
  have ew1 : IntKind.u64.wrap o = y1 := by rw [IntKind.wrap_u64, hy1]
  have et1 : y1.tmod 4 = s := by rw [Int.tmod_eq_emod_of_nonneg y01.1, hs]
  clear hy1 hs
  obtain ⟨A1, A2⟩ := arI_le (ArC_le hn hc)
  obtain ⟨L1, L2⟩ := two_cmp (LnC_le hn hc ls).1 (LnC_le hn hc ls).2
  obtain ⟨G1, G2⟩ := two_cmp (GpC_le hn hc ls).1 (GpC_le hn hc ls).2
  have hM := near_middle hn hc
  have hE := near_ends hn hc ls
  exact bounds_go a b o n c s y1 _ _ _ _ _ _ _ _ _ _ _ _ w ew1 et1 lsi A1 A2 L1 L2 G1 G2 (awake8_at w h) N (fun v => area_ok n c v hn hc) (fun v => len_ok n c s v hn hc ls) (fun v hv => gap_ok n c s v hn hc ls (h.to hv)) (fun v => middle_ok n c v hn hc) (fun v => ends8_at n c s v hn hc ls)
    (fun v => near8_at _ _ _ v (px_lt _ _) (py_lt _ _) (pz_lt _ _) hM.1 hM.2) (fun v => near8_at _ _ _ v (px_lt _ _) (py_lt _ _) (pz_lt _ _) hE.1.1 hE.1.2) (fun v => near8_at _ _ _ v (px_lt _ _) (py_lt _ _) (pz_lt _ _) hE.2.1 hE.2.2)
end Go.Proofs.YtjkanehlbklnnaaDoor

/-
  What the law's condition on the table of frames gives the walks; a struct of eight whole numbers.
-/
namespace Go.Proofs.YtjkanehlbklnnaaDoor
open Go.ChangeShapes Go.WideShapes Go.ChangeAt Go.WideMaps Go.WideElems Go.RowKit Cu

theorem own : ownKnob Tryd.prog.godebug = none := by kernel_rfl
theorem gFrames : Tryd.prog.globalNamed "tarn/cube.frames" = some 0 := by kernel_rfl
theorem tFrames : (Tryd.prog.globals[0]?).map (·.type) = some 75 := by kernel_rfl
theorem door_met (os : Os) (args : Array Value) : laidMetH Tryd.prog [("tarn/cube.frames", Rows.laid_tarn_cube_frames)] ((World.doorLaid Tryd.prog 400 os).forCall (fun _ _ => 0) ⟨#[], args, []⟩).memory :=
  laidMetH_of_parts3 (fuel := 8) (laidMet_of_run' 8 (by kernel_rfl) (by kernel_rfl)) (by kernel_rfl) (by kernel_rfl)
set_option maxRecDepth 100000 in
theorem pt_data {H : Type} {enc : TypeId × Value → H} {w : World} {base fuel : Nat} {spare : Nat → Bool} {held : Bool} {cs : List Value} {x : DataW H × List MemPlace} (h : DataW.trod enc Tryd.prog w base spare held fuel 67 cs = some x)
    (a b c : Int) (e : x.1 = .agg [.lit (.int .i64 a), .lit (.int .i64 b), .lit (.int .i64 c)]) : cs = [.int .i64 a, .int .i64 b, .int .i64 c] := by
  have k3 : Tryd.prog.cellsOf 3 = 1 := by kernel_rfl
  have kp : Tryd.prog.cellsOf 67 = 3 := by kernel_rfl
  obtain ⟨xs, m, _, hx, hlen, hn, hel⟩ := DataW.trod_array Tryd.underlying67 h
  rw [hx] at e
  match xs, hn, cs, hlen.trans kp with
  | [x0, x1, x2], _, [c0, c1, c2], _ =>
    have h0 := hel 0 (by decide)
    have h1 := hel 1 (by decide)
    have h2 := hel 2 (by decide)
    simp [k3] at h0 h1 h2
    obtain ⟨n0, e0, f0, _⟩ := DataW.trod_int Tryd.underlying3 h0
    obtain ⟨n1, e1, f1, _⟩ := DataW.trod_int Tryd.underlying3 h1
    obtain ⟨n2, e2, f2, _⟩ := DataW.trod_int Tryd.underlying3 h2
    simp at e0 e1 e2
    simp [f0, f1, f2] at e
    rw [e0, e1, e2, e.1, e.2.1, e.2.2]
set_option maxRecDepth 100000 in
theorem frame_data {H : Type} {enc : TypeId × Value → H} {w : World} {base fuel : Nat} {spare : Nat → Bool} {held : Bool} {cs : List Value} {x : DataW H × List MemPlace} (h : DataW.trod enc Tryd.prog w base spare held fuel 74 cs = some x)
    (p q r : P3) (e : x.1 = .agg [.agg [.lit (.int .i64 p.1), .lit (.int .i64 p.2.1), .lit (.int .i64 p.2.2)], .agg [.lit (.int .i64 q.1), .lit (.int .i64 q.2.1), .lit (.int .i64 q.2.2)], .agg [.lit (.int .i64 r.1), .lit (.int .i64 r.2.1), .lit (.int .i64 r.2.2)]]) :
    cs = [.int .i64 p.1, .int .i64 p.2.1, .int .i64 p.2.2, .int .i64 q.1, .int .i64 q.2.1, .int .i64 q.2.2, .int .i64 r.1, .int .i64 r.2.1, .int .i64 r.2.2] := by
  have kp : Tryd.prog.cellsOf 67 = 3 := by kernel_rfl
  have kf : Tryd.prog.cellsOf 74 = 9 := by kernel_rfl
  obtain ⟨xs, m, _, hx, hlen, hn, hel⟩ := DataW.trod_struct Tryd.underlying74 h
  rw [hx] at e
  match xs, hn, cs, hlen.trans kf with
  | [x0, x1, x2], _, [c0, c1, c2, c3, c4, c5, c6, c7, c8], _ =>
    have h0 := hel 0 _ rfl
    have h1 := hel 1 _ rfl
    have h2 := hel 2 _ rfl
    simp [kp] at h0 h1 h2
    simp at e
    have e0 := pt_data h0 _ _ _ e.1
    have e1 := pt_data h1 _ _ _ e.2.1
    have e2 := pt_data h2 _ _ _ e.2.2
    simp at e0 e1 e2
    simp [e0, e1, e2]
set_option maxRecDepth 100000 in
theorem table_data {H : Type} {enc : TypeId × Value → H} {w : World} {base fuel : Nat} {spare : Nat → Bool} {held : Bool} {cs : List Value} {x : DataW H × List MemPlace} (h : DataW.trod enc Tryd.prog w base spare held fuel 75 cs = some x)
    (e : x.1 = Rows.laid_tarn_cube_frames) : ∀ f, f < 6 → (cs.drop (f * 9)).take 9 = [.int .i64 (cC f).1, .int .i64 (cC f).2.1, .int .i64 (cC f).2.2, .int .i64 (cR f).1, .int .i64 (cR f).2.1, .int .i64 (cR f).2.2, .int .i64 (cU f).1, .int .i64 (cU f).2.1, .int .i64 (cU f).2.2] := by
  have kf : Tryd.prog.cellsOf 74 = 9 := by kernel_rfl
  obtain ⟨xs, m, _, hx, hlen, hn, hel⟩ := DataW.trod_array Tryd.underlying75 h
  rw [hx] at e
  intro f hf
  have h0 := hel f hf
  rw [kf] at h0
  match xs, hn with
  | [x0, x1, x2, x3, x4, x5], _ =>
    simp only [List.map_cons, List.map_nil, Rows.laid_tarn_cube_frames, DataW.agg.injEq, List.cons.injEq] at e
    rcases six hf with rfl | rfl | rfl | rfl | rfl | rfl
    · exact frame_data h0 (cC 0) (cR 0) (cU 0) e.1
    · exact frame_data h0 (cC 1) (cR 1) (cU 1) e.2.1
    · exact frame_data h0 (cC 2) (cR 2) (cU 2) e.2.2.1
    · exact frame_data h0 (cC 3) (cR 3) (cU 3) e.2.2.2.1
    · exact frame_data h0 (cC 4) (cR 4) (cU 4) e.2.2.2.2.1
    · exact frame_data h0 (cC 5) (cR 5) (cU 5) e.2.2.2.2.2.1
/-- WHAT THE CONDITION GIVES THE WALKS -/
theorem of_laid {W : World} (h : laidMetH Tryd.prog [("tarn/cube.frames", Rows.laid_tarn_cube_frames)] W) : Fr W := by
  rw [MakeChecks.laidMetH_plain _ _ _ (by kernel_rfl)] at h
  obtain ⟨ps, ⟨g0, t0, cs0, f0, p0, q0, hg0, ht0, hv0, hd0, _⟩, _⟩ := h
  obtain rfl := Option.some.inj (gFrames.symm.trans hg0)
  obtain rfl := Option.some.inj (tFrames.symm.trans ht0)
  have T := table_data hd0 rfl
  have C := World.var?_cell hg0 hv0
  have K : ∀ f, f < 6 → ∀ k, k < 9 → W.cell? ⟨0, f * 9 + k, none⟩ = ((cs0.toList.drop (f * 9)).take 9)[k]? := by
    intro f hf k hk
    rw [C, List.getElem?_take, if_pos hk, List.getElem?_drop]
    simp
  have N : ∀ f, f < 6 → Fr9 W f := by
    intro f hf
    have K := K f hf
    rw [T f hf] at K
    exact ⟨⟨K 0 (by omega), K 1 (by omega), K 2 (by omega)⟩, ⟨K 3 (by omega), K 4 (by omega), K 5 (by omega)⟩, ⟨K 6 (by omega), K 7 (by omega), K 8 (by omega)⟩⟩
  refine ⟨?_, N⟩
  have c0 := (N 0 (by omega)).1.1
  rcases Nat.lt_or_ge 0 W.heap.size with h1 | h1
  · exact h1
  · rw [World.cell?, Array.getElem?_eq_none h1] at c0; cases c0
end Go.Proofs.YtjkanehlbklnnaaDoor
