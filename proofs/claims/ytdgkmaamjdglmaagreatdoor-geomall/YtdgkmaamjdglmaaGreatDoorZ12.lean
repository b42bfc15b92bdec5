/-
  Some of the texts of this proof, one behind the other.
-/
import Derived.Test.YtdgkmaamjdglmaaGreatDoorZ11
import Derived.Test.YtdgkmaamjdglmaaGreatDoorZ08
/-
  Order and opposites of conversions, by plain numbers (no program).
-/
namespace Go.Proofs.YtdgkmaamjdglmaaGreatDoor
open Tf

theorem sv_le_iff (x y : Nat) : sv x ≤ sv y ↔ rk x ≤ rk y := by
  have := sv_lt_iff y x
  omega
theorem cq_down_mono {x y : Nat} (h : sv x ≤ sv y) : cq .down x ≤ cq .down y := by
  have a := (down_floor x).1
  have b := (down_floor y).2
  have e : cq .down x * one < (cq .down y + 1) * one := by rw [Int.add_mul, Int.one_mul]; omega
  have := Int.lt_of_mul_lt_mul_right e (Int.le_of_lt onep)
  omega
theorem cq_even_mono {x y : Nat} (h : sv x ≤ sv y) : cq .even x ≤ cq .even y := by
  by_cases c : cq .even x ≤ cq .even y
  · exact c
  · exfalso
    obtain ⟨a1, a2, a3⟩ := even_near x
    obtain ⟨b1, b2, b3⟩ := even_near y
    have o := onep
    have e : (cq .even y + 1) * one ≤ cq .even x * one := Int.mul_le_mul_of_nonneg_right (by omega) (by omega)
    rw [Int.add_mul, Int.one_mul] at e
    have p1 := a3 (.inr (by omega))
    have p2 := b3 (.inl (by omega))
    have e2 : cq .even x * one = (cq .even y + 1) * one := by rw [Int.add_mul, Int.one_mul]; omega
    have := Int.eq_of_mul_eq_mul_right (by omega) e2
    omega

/-- what has no rank below the least whole number of 64 bits, and none above the greatest -/
theorem cOk_rk (way : Ieee.Toward) (x : Nat) (hx : x < 18446744073709551616) (n : isN x = false) : cOk way x = (decide (-4890909195324358656 ≤ rk x) && decide (rk x < 4890909195324358656)) := by
  rw [cOk_wOk way x hx, wOk_rk x hx, n]; simp
theorem fgt_zero (x : Nat) (hx : x < 18446744073709551616) (n : isN x = false) : fgt x 0 = decide (0 < rk x) := by
  have e : rk 0 = 0 := by decide
  have n0 : isN 0 = false := by decide
  rw [fgt_rk x 0 hx (by decide), n, n0, e]; simp
theorem cI_eq (way : Ieee.Toward) (x : Nat) (h : cOk way x = true) : cI way x = cq way x := by unfold cI; rw [h, if_pos rfl]

theorem clampM_nonneg (most : Int) : 0 ≤ clampM most := by unfold clampM; split <;> omega
theorem clampB_num (x : Nat) (most : Int) (hx : x < 18446744073709551616) (n : isN x = false) :
    clampB x most = if rk x < -4890909195324358656 then -clampM most else if rk x < 4890909195324358656 then min (max (cq .even x) (-clampM most)) (clampM most) else clampM most := by
  have hm := clampM_nonneg most
  have hk := cOk_rk .even x hx n
  have hg := fgt_zero x hx n
  unfold clampB
  rw [n, if_neg (by decide)]
  by_cases c1 : rk x < -4890909195324358656
  · have o : cOk .even x = false := by rw [hk, decide_eq_false (by omega)]; rfl
    rw [if_pos c1, o, hg, if_neg (by decide), decide_eq_false (by omega), if_neg (by decide)]
  · rw [if_neg c1]
    by_cases c2 : rk x < 4890909195324358656
    · have o : cOk .even x = true := by rw [hk, decide_eq_true (by omega), decide_eq_true c2]; rfl
      rw [if_pos c2, o, if_pos rfl, cI_eq .even x o]
    · have o : cOk .even x = false := by rw [hk, decide_eq_false c2, Bool.and_false]
      rw [if_neg c2, o, hg, if_neg (by decide), decide_eq_true (by omega), if_pos rfl]
theorem clampB_mono (x y : Nat) (most : Int) (hx : x < 18446744073709551616) (hy : y < 18446744073709551616) (nx : isN x = false) (ny : isN y = false) (h : rk x ≤ rk y) : clampB x most ≤ clampB y most := by
  have hm := clampM_nonneg most
  have hc := cq_even_mono ((sv_le_iff x y).2 h)
  rw [clampB_num x most hx nx, clampB_num y most hy ny]
  repeat' split
  all_goals omega

/-- opposites -/
theorem cq_even_neg (x : Nat) (hx : x < 18446744073709551616) : cq .even (negB x) = -cq .even x := by
  unfold cq
  rw [mg_negB, ng_negB x hx, cutq_even, cutq_even]
  cases ng x <;> simp
theorem clampB_neg (x : Nat) (most : Int) (hx : x < 18446744073709551616) (n : isN x = false) (hmx : most ≤ 9223372036854775807) : clampB x most = -clampB (negB x) most := by
  have hm := clampM_nonneg most
  have hm2 : clampM most ≤ 9223372036854775807 := by unfold clampM; split <;> omega
  have hc := cq_even_neg x hx
  have hr := rk_negB x hx
  have o := onep
  rw [clampB_num x most hx n, clampB_num _ most (negB_lt hx) (by rw [isN_neg]; exact n), hc, hr]
  by_cases c : rk x = -4890909195324358656 ∨ rk x = 4890909195324358656
  · have key : ∀ z : Nat, z < 18446744073709551616 → rk z = -4890909195324358656 → cq .even z = -9223372036854775808 := by
      intro z hz hr
      have e := word_rk z 14114281232179134464 hz (by decide) (by rw [hr]; decide) (by rw [hr]; decide)
      subst e
      have w := wOk_itV .even 14114281232179134464 (by decide) (by decide)
      have hs := sv_itV .even 14114281232179134464 (by decide) (by decide)
      obtain ⟨q, hq⟩ := whole_great (mg 14114281232179134464) (by decide)
      have he : cq .even 14114281232179134464 * one = -9223372036854775808 * one := by
        rw [← sv_n63]
        have e1 := (itV_fin .even 14114281232179134464 (by decide) (by decide)).2.2
        unfold cq sv
        have hn : ng 14114281232179134464 = true := by decide
        rw [hn, if_pos rfl, if_pos rfl, hq, cutq_mul _ _ _ _ one_pos, Int.natCast_mul, Int.neg_mul]
      exact Int.eq_of_mul_eq_mul_right (by omega) he
    rcases c with c | c
    · have := key x hx c
      rw [c, this]
      simp only [Int.neg_neg]
      rw [if_neg (by decide), if_pos (by decide), if_neg (by decide), if_neg (by decide)]
      omega
    · have h2 := key (negB x) (negB_lt hx) (by rw [hr, c])
      rw [hc] at h2
      rw [c]
      rw [if_neg (by decide), if_neg (by decide), if_neg (by decide), if_pos (by decide)]
      omega
  · repeat' split
    all_goals omega

/-- a function of magnitudes that keeps order, with the sign -/
theorem sgn_mono (φ : Nat → Nat) (mono : ∀ a b, a ≤ b → φ a ≤ φ b) (z : φ 0 = 0) (x y : Nat) (h : rk x ≤ rk y) :
    (if ng x then -(φ (mg x) : Int) else (φ (mg x) : Int)) ≤ (if ng y then -(φ (mg y) : Int) else (φ (mg y) : Int)) := by
  unfold rk at h
  have m1 := mono (mg x) (mg y)
  have m2 := mono (mg y) (mg x)
  cases hx : ng x <;> cases hy : ng y <;> rw [hx, hy] at h <;> simp only [Bool.false_eq_true, if_false, if_true] at h ⊢
  · have := m1 (by omega); omega
  · have e1 : mg x = 0 := by omega
    have e2 : mg y = 0 := by omega
    rw [e1, e2, z]; simp
  · omega
  · have := m2 (by omega); omega

/-- over 32 bits and back -/
def E32 (r : Nat) : Nat := if r = 2139095040 then 9218868437227405312 else D32 r
def E16 (r : Nat) : Nat := if r = 31744 then 9218868437227405312 else D16 r
theorem E32_le (r : Nat) (h : r ≤ 2139095040) : E32 r ≤ 9218868437227405312 := by
  unfold E32
  by_cases c : r = 2139095040
  · rw [if_pos c]; exact Nat.le_refl _
  · rw [if_neg c]; have := D32_lt r (by omega); omega
theorem E16_le (r : Nat) (h : r ≤ 31744) : E16 r ≤ 9218868437227405312 := by
  unfold E16
  by_cases c : r = 31744
  · rw [if_pos c]; exact Nat.le_refl _
  · rw [if_neg c]; have := D16_lt r (by omega); omega
theorem t32_le (x : Nat) : t32 x ≤ 2139095040 := by unfold t32; omega
theorem t16_le (x : Nat) : t16 x ≤ 31744 := by unfold t16; omega
theorem t32_mg (x y : Nat) (h : mg x = mg y) : t32 x = t32 y := by unfold t32; rw [h]
theorem t16_mg (x y : Nat) (h : mg x = mg y) : t16 x = t16 y := by unfold t16; rw [h]
theorem over32 (x : Nat) (n : isN x = false) : from32B (to32B x) = if ng x then 9223372036854775808 + E32 (t32 x) else E32 (t32 x) := by
  have h := t32_le x
  unfold to32B
  rw [n, if_neg (by decide)]
  unfold from32B
  have hm : mg32 (if ng x = true then 2147483648 + t32 x else t32 x) = t32 x := by
    unfold mg32; cases ng x <;> simp <;> omega
  have hn : ng32 (if ng x = true then 2147483648 + t32 x else t32 x) = ng x := by
    unfold ng32; cases ng x
    · rw [if_neg (by decide)]; exact decide_eq_false (by omega)
    · rw [if_pos rfl]; exact decide_eq_true (by omega)
  rw [hm, hn, if_neg (by omega)]
  rfl
theorem over16 (x : Nat) (n : isN x = false) : from16B (to16B x) = if ng x then 9223372036854775808 + E16 (t16 x) else E16 (t16 x) := by
  have h := t16_le x
  unfold to16B
  rw [n, if_neg (by decide)]
  unfold from16B
  have hm : (if ng x = true then 32768 + t16 x else t16 x) % 32768 = t16 x := by
    cases ng x <;> simp <;> omega
  have hn : ng16 (if ng x = true then 32768 + t16 x else t16 x) = ng x := by
    unfold ng16; cases ng x
    · rw [if_neg (by decide)]; exact decide_eq_false (by omega)
    · rw [if_pos rfl]; exact decide_eq_true (by omega)
  rw [hm, hn, if_neg (by omega)]
  rfl
theorem word_parts (s : Bool) (m : Nat) (h : m ≤ 9218868437227405312) : mg (if s then 9223372036854775808 + m else m) = m ∧ ng (if s then 9223372036854775808 + m else m) = s ∧ isN (if s then 9223372036854775808 + m else m) = false ∧ rk (if s then 9223372036854775808 + m else m) = (if s then -(m : Int) else (m : Int)) ∧ (if s then 9223372036854775808 + m else m) < 18446744073709551616 := by
  have e1 : mg (if s then 9223372036854775808 + m else m) = m := by unfold mg; cases s <;> simp <;> omega
  have e2 : ng (if s then 9223372036854775808 + m else m) = s := by
    cases s
    · rw [if_neg (by decide)]; exact ng_of_lt (by omega)
    · rw [if_pos rfl]; exact ng_of_ge (by omega)
  refine ⟨e1, e2, isN_false.2 (by omega), ?_, ?_⟩
  · unfold rk; rw [e1, e2]
  · cases s <;> simp <;> omega
theorem E32_mono {a b : Nat} (h : a ≤ b) (hb : b ≤ 2139095040) : E32 a ≤ E32 b := by
  unfold E32
  by_cases c : a = 2139095040
  · have : b = 2139095040 := by omega
    rw [if_pos c, if_pos this]; exact Nat.le_refl _
  · rw [if_neg c]
    have l := D32_lt a (by omega)
    by_cases c2 : b = 2139095040
    · rw [if_pos c2]; omega
    · rw [if_neg c2, ← mv_le, mv_D32, mv_D32]
      exact Nat.mul_le_mul_right _ (mag_le.2 h)
theorem E16_mono {a b : Nat} (h : a ≤ b) (hb : b ≤ 31744) : E16 a ≤ E16 b := by
  unfold E16
  by_cases c : a = 31744
  · have : b = 31744 := by omega
    rw [if_pos c, if_pos this]; exact Nat.le_refl _
  · rw [if_neg c]
    have l := D16_lt a (by omega)
    by_cases c2 : b = 31744
    · rw [if_pos c2]; omega
    · rw [if_neg c2, ← mv_le, mv_D16, mv_D16]
      exact Nat.mul_le_mul_right _ (mag_le.2 h)
theorem over32_mono (x y : Nat) (nx : isN x = false) (ny : isN y = false) (h : rk x ≤ rk y) : rk (from32B (to32B x)) ≤ rk (from32B (to32B y)) := by
  rw [over32 x nx, over32 y ny, (word_parts _ _ (E32_le _ (t32_le x))).2.2.2.1, (word_parts _ _ (E32_le _ (t32_le y))).2.2.2.1]
  refine sgn_mono (fun m => E32 (min (rung 23 K2 (mv m)) 2139095040)) ?_ ?_ x y h
  · intro a b hab
    refine E32_mono ?_ (by omega)
    have := rung_mono (p := 23) (d := K2) (by omega) (mv_le.2 hab)
    omega
  · decide +kernel
theorem over16_mono (x y : Nat) (nx : isN x = false) (ny : isN y = false) (h : rk x ≤ rk y) : rk (from16B (to16B x)) ≤ rk (from16B (to16B y)) := by
  rw [over16 x nx, over16 y ny, (word_parts _ _ (E16_le _ (t16_le x))).2.2.2.1, (word_parts _ _ (E16_le _ (t16_le y))).2.2.2.1]
  refine sgn_mono (fun m => E16 (min (rung 10 H2 (mv m)) 31744)) ?_ ?_ x y h
  · intro a b hab
    refine E16_mono ?_ (by omega)
    have := rung_mono (p := 10) (d := H2) (by omega) (mv_le.2 hab)
    omega
  · decide +kernel

/-- over 32 bits to 16: at most one place off -/
theorem twice (x : Nat) (n : isN x = false) : t16 (from32B (to32B x)) ≤ t16 x + 1 ∧ t16 x ≤ t16 (from32B (to32B x)) + 1 := by
  have hw := word_parts (ng x) _ (E32_le _ (t32_le x))
  rw [over32 x n]
  rw [t16_mg _ (E32 (t32 x)) (by rw [hw.1, mg_of_lt (by have := E32_le _ (t32_le x); omega)])]
  by_cases ci : t32 x = 2139095040
  · have e1 : t16 (E32 (t32 x)) = 31744 := by
      unfold E32; rw [if_pos ci]; exact t16_inf _ (by decide)
    have e2 : t16 x = 31744 := by
      refine t16_inf x ?_
      by_cases c : 4679240012837945344 ≤ mg x
      · exact c
      · exfalso
        have h1 : mv (mg x) ≤ mv (D32 1199570944) := by
          rw [mv_le]
          have : (4679240012837945344 : Nat) = D32 1199570944 := by decide +kernel
          omega
        rw [mv_D32] at h1
        have := rung_le (p := 23) (d := K2) (by omega) h1
        unfold t32 at ci
        omega
    rw [e1, e2]; omega
  · have hr : t32 x = rung 23 K2 (mv (mg x)) ∧ rung 23 K2 (mv (mg x)) < 2139095040 := by
      have := t32_le x
      unfold t32 at ci this ⊢
      omega
    have e1 : E32 (t32 x) = D32 (rung 23 K2 (mv (mg x))) := by unfold E32; rw [if_neg ci, hr.1]
    have l1 := D32_lt _ hr.2
    unfold t16
    rw [e1, mg_of_lt (by omega), mv_D32]
    obtain ⟨r0, b1, b2⟩ := floor_ex 10 H2 (mv (mg x))
    have rp : ∀ r, ∃ s, mag 10 r * 2 ^ H2 = mag 23 s * 2 ^ K2 := by
      intro r
      obtain ⟨A, k, hA, e⟩ := mag_form 10 r
      obtain ⟨s, hs⟩ := rep 23 A (k + 125) (by omega)
      refine ⟨s, ?_⟩
      have hh : k + H2 = k + 125 + K2 := by have := H2_eq; have := K2_eq; omega
      rw [hs, e, Nat.mul_assoc, ← Nat.pow_add, hh, Nat.mul_assoc, ← Nat.pow_add]
    obtain ⟨s0, h0⟩ := rp r0
    obtain ⟨s1, h1⟩ := rp (r0 + 1)
    have c1 := rung_floor 10 H2 r0 _ (by omega) b1 b2
    have d1 : s0 ≤ rung 23 K2 (mv (mg x)) := rung_ge (by omega) (by rw [← h0]; exact b1)
    have d2 : rung 23 K2 (mv (mg x)) ≤ s1 := rung_le (by omega) (by rw [← h1]; exact Nat.le_of_lt b2)
    have f1 : mag 10 r0 * 2 ^ H2 ≤ mag 23 (rung 23 K2 (mv (mg x))) * 2 ^ K2 := by rw [h0]; exact Nat.mul_le_mul_right _ (mag_le.2 d1)
    have f2 : mag 23 (rung 23 K2 (mv (mg x))) * 2 ^ K2 ≤ mag 10 (r0 + 1) * 2 ^ H2 := by rw [h1]; exact Nat.mul_le_mul_right _ (mag_le.2 d2)
    have g1 := rung_ge (p := 10) (d := H2) (by omega) f1
    have g2 := rung_le (p := 10) (d := H2) (by omega) f2
    have fin : ∀ p q r0 : Nat, r0 ≤ p → p ≤ r0 + 1 → r0 ≤ q → q ≤ r0 + 1 → min q 31744 ≤ min p 31744 + 1 ∧ min p 31744 ≤ min q 31744 + 1 := by intros; omega
    exact fin _ _ r0 c1.1 c1.2 g1 g2
end Go.Proofs.YtdgkmaamjdglmaaGreatDoor

/-
  What the first calls of the reference of layer 2 return: walks over the program.
-/
namespace Go.Proofs.YtdgkmaamjdglmaaGreatDoor.Ref2
open Go.RowKit Tf
attribute [local go_sem] run_bits run_from raw_feq raw_fne raw_flt raw_fgt run_neg

set_option maxHeartbeats 400000 in
theorem rawBits_any (x : Nat) (w : World) :
    Calls Tryz.prog 94 #[.float .f64 x] w fun e w' => e = .returned (.int .u64 (x : Nat)) ∧ w' = w := by
  go_enter Tryz.func94, Tryz.ntmps94
  go_wp2
  go_ret
  exact ⟨rfl, rfl⟩

theorem from_at (a : Int) (r : Nat) (w : World) (hr : a.toNat = r) :
    Calls Tryz.prog 84 #[.int .u64 a] w fun e w' => e = .returned (.float .f64 r) ∧ w' = w := by
  subst hr; exact from_any a w

/-- a float's parts -/
def pm (x : Nat) : Nat := if mg x / 4503599627370496 = 0 then mg x else mg x % 4503599627370496 + 4503599627370496
def pe (x : Nat) : Int := if mg x / 4503599627370496 = 0 then -1074 else ((mg x / 4503599627370496 : Nat) : Int) - 1075
theorem pm_lt (x : Nat) : pm x < 9007199254740992 := by unfold pm; split <;> omega
theorem pe_ge (x : Nat) : -1074 ≤ pe x := by unfold pe; split <;> omega
theorem pe_le (x : Nat) (h : mg x < 9218868437227405312) : pe x ≤ 971 := by unfold pe; split <;> omega
theorem mv_parts (x : Nat) : mv (mg x) = pm x * 2 ^ (pe x + 1074).toNat := by
  have e : (2 : Nat) ^ 52 = 4503599627370496 := by decide
  unfold mv mag pm pe
  rw [e]
  by_cases h : mg x / 4503599627370496 = 0
  · rw [if_pos h, if_pos h, if_pos (by omega)]; simp
  · rw [if_neg h, if_neg h, if_neg (by omega)]
    have e2 : (((mg x / 4503599627370496 : Nat) : Int) - 1075 + 1074).toNat = mg x / 4503599627370496 - 1 := by omega
    rw [e2, Nat.add_comm]
set_option maxHeartbeats 1000000 in
theorem parts_inf (x : Nat) (n : Bool) (w : World) (hn : ((x : Int) / 9223372036854775808 == 1) = n) (h1 : (x : Int) / 4503599627370496 % 2048 = 2047) (h2 : ((x : Int) % 4503599627370496 == 0) = true) :
    Calls Tryz.prog 61 #[.float .f64 x] w fun e w' => e = .returned (.tuple #[.bool n, .int .u64 0, .int .i64 0, .int .i64 1]) ∧ w' = w := by
  go_enter Tryz.func61, Tryz.ntmps61
  go_wp2_with fail
  refine (rawBits_any x _).mono ?_
  rintro e w' ⟨rfl, rfl⟩
  go_wp2
  refine bodyPost_ret (v := .tuple #[.bool n, .int .u64 0, .int .i64 0, .int .i64 1]) (by simp [results, Tryz.results61, go_sem]) rfl ⟨rfl, rfl⟩

set_option maxHeartbeats 1000000 in
theorem parts_nan (x : Nat) (n : Bool) (w : World) (hn : ((x : Int) / 9223372036854775808 == 1) = n) (h1 : (x : Int) / 4503599627370496 % 2048 = 2047) (h2 : ((x : Int) % 4503599627370496 == 0) = false) :
    Calls Tryz.prog 61 #[.float .f64 x] w fun e w' => e = .returned (.tuple #[.bool n, .int .u64 0, .int .i64 0, .int .i64 2]) ∧ w' = w := by
  go_enter Tryz.func61, Tryz.ntmps61
  go_wp2_with fail
  refine (rawBits_any x _).mono ?_
  rintro e w' ⟨rfl, rfl⟩
  go_wp2
  refine bodyPost_ret (v := .tuple #[.bool n, .int .u64 0, .int .i64 0, .int .i64 2]) (by simp [results, Tryz.results61, go_sem]) rfl ⟨rfl, rfl⟩

set_option maxHeartbeats 1000000 in
theorem parts_sub (x : Nat) (n : Bool) (w : World) (hn : ((x : Int) / 9223372036854775808 == 1) = n) (h1 : (x : Int) / 4503599627370496 % 2048 = 0) (m : Nat) (h2 : (x : Int) % 4503599627370496 = m) :
    Calls Tryz.prog 61 #[.float .f64 x] w fun e w' => e = .returned (.tuple #[.bool n, .int .u64 (m : Nat), .int .i64 (-1074), .int .i64 0]) ∧ w' = w := by
  go_enter Tryz.func61, Tryz.ntmps61
  go_wp2_with fail
  refine (rawBits_any x _).mono ?_
  rintro e w' ⟨rfl, rfl⟩
  go_wp2
  refine bodyPost_ret (v := .tuple #[.bool n, .int .u64 (m : Nat), .int .i64 (-1074), .int .i64 0]) (by simp [results, Tryz.results61, go_sem, h2]) rfl ⟨rfl, rfl⟩

set_option maxHeartbeats 1000000 in
theorem parts_nor (x : Nat) (n : Bool) (w : World) (hn : ((x : Int) / 9223372036854775808 == 1) = n) (f : Int) (h1 : (x : Int) / 4503599627370496 % 2048 = f) (h3 : (f == 2047) = false) (h4 : (f == 0) = false) (m : Nat) (h2 : (x : Int) % 4503599627370496 = m) :
    Calls Tryz.prog 61 #[.float .f64 x] w fun e w' => e = .returned (.tuple #[.bool n, .int .u64 ((m : Nat) + 4503599627370496), .int .i64 (f - 1075), .int .i64 0]) ∧ w' = w := by
  go_enter Tryz.func61, Tryz.ntmps61
  go_wp2_with fail
  refine (rawBits_any x _).mono ?_
  rintro e w' ⟨rfl, rfl⟩
  go_wp2
  refine bodyPost_ret (v := .tuple #[.bool n, .int .u64 ((m : Nat) + 4503599627370496), .int .i64 (f - 1075), .int .i64 0]) (by simp [results, Tryz.results61, go_sem]) rfl ⟨rfl, rfl⟩


/-- what kind: 0 finite, 1 an infinity, 2 a NaN -/
theorem parts_fin (x : Nat) (w : World) (hx : x < 18446744073709551616) (fx : mg x < 9218868437227405312) :
    Calls Tryz.prog 61 #[.float .f64 x] w fun e w' => e = .returned (.tuple #[.bool (ng x), .int .u64 (pm x : Nat), .int .i64 (pe x), .int .i64 0]) ∧ w' = w := by
  have hn : ((x : Int) / 9223372036854775808 == 1) = ng x := by
    unfold ng
    by_cases c : 9223372036854775808 ≤ x
    · rw [decide_eq_true c]; simp; omega
    · rw [decide_eq_false c]; simp; omega
  have hf : (x : Int) / 4503599627370496 % 2048 = ((mg x / 4503599627370496 : Nat) : Int) := by unfold mg; omega
  have hm : (x : Int) % 4503599627370496 = ((mg x % 4503599627370496 : Nat) : Int) := by unfold mg; omega
  unfold pm pe
  by_cases c : mg x / 4503599627370496 = 0
  · rw [if_pos c, if_pos c]
    have e : mg x % 4503599627370496 = mg x := by omega
    rw [e] at hm
    exact parts_sub x _ w hn (by rw [hf, c]; rfl) _ hm
  · rw [if_neg c, if_neg c]
    have := parts_nor x _ w hn _ hf (by simp; omega) (by simp; omega) _ hm
    have e : ((mg x % 4503599627370496 + 4503599627370496 : Nat) : Int) = ((mg x % 4503599627370496 : Nat) : Int) + 4503599627370496 := by omega
    rw [e]; exact this
theorem parts_i (x : Nat) (w : World) (hx : x < 18446744073709551616) (fx : mg x = 9218868437227405312) :
    Calls Tryz.prog 61 #[.float .f64 x] w fun e w' => e = .returned (.tuple #[.bool (ng x), .int .u64 0, .int .i64 0, .int .i64 1]) ∧ w' = w := by
  have hn : ((x : Int) / 9223372036854775808 == 1) = ng x := by
    unfold ng
    by_cases c : 9223372036854775808 ≤ x
    · rw [decide_eq_true c]; simp; omega
    · rw [decide_eq_false c]; simp; omega
  unfold mg at fx
  exact parts_inf x _ w hn (by omega) (by simp; omega)
theorem parts_n (x : Nat) (w : World) (hx : x < 18446744073709551616) (n : isN x = true) :
    Calls Tryz.prog 61 #[.float .f64 x] w fun e w' => e = .returned (.tuple #[.bool (ng x), .int .u64 0, .int .i64 0, .int .i64 2]) ∧ w' = w := by
  have hn : ((x : Int) / 9223372036854775808 == 1) = ng x := by
    unfold ng
    by_cases c : 9223372036854775808 ≤ x
    · rw [decide_eq_true c]; simp; omega
    · rw [decide_eq_false c]; simp; omega
  have h := isN_true.1 n
  unfold mg at h
  exact parts_nan x _ w hn (by omega) (by simp; omega)

/-- what is left behind a shift: 0 nothing, 1 less than a half, 2 a half, 3 more -/
def rc (m k : Nat) : Int := if m % 2 ^ k = 0 then 0 else if 2 * (m % 2 ^ k) < 2 ^ k then 1 else if 2 * (m % 2 ^ k) = 2 ^ k then 2 else 3
set_option maxHeartbeats 1000000 in
theorem down_g0 (m k : Nat) (w : World) (h : (63 : Int) < k) (h0 : m = 0) :
    Calls Tryz.prog 95 #[.int .u64 (m : Nat), .int .i64 (k : Nat)] w fun e w' => e = .returned (.tuple #[.int .u64 0, .int .i64 0]) ∧ w' = w := by
  subst h0
  go_enter Tryz.func95, Tryz.ntmps95
  go_wp2
  go_ret2
  exact ⟨rfl, rfl⟩

set_option maxHeartbeats 1000000 in
theorem down_g1 (m k : Nat) (w : World) (h : (63 : Int) < k) (h0 : ((m : Int) == 0) = false) :
    Calls Tryz.prog 95 #[.int .u64 (m : Nat), .int .i64 (k : Nat)] w fun e w' => e = .returned (.tuple #[.int .u64 0, .int .i64 1]) ∧ w' = w := by
  go_enter Tryz.func95, Tryz.ntmps95
  go_wp2
  go_ret2
  exact ⟨rfl, rfl⟩

set_option maxHeartbeats 1000000 in
theorem down_0 (m k : Nat) (w : World) (h : ¬ (63 : Int) < k) (k1 : (1 : Int) ≤ k) (q p r g : Nat) (q1 : (m : Int) / 2 ^ k = (q : Int)) (q2 : IntKind.u64.wrap ((q : Int) * 2 ^ k) = (p : Int)) (q3 : IntKind.u64.wrap ((m : Int) - (p : Int)) = (r : Int)) (q4 : IntKind.u64.wrap (2 ^ (k - 1)) = (g : Int)) (c : ((r : Int) == 0) = true) :
    Calls Tryz.prog 95 #[.int .u64 (m : Nat), .int .i64 (k : Nat)] w fun e w' => e = .returned (.tuple #[.int .u64 (q : Nat), .int .i64 0]) ∧ w' = w := by
  go_enter Tryz.func95, Tryz.ntmps95
  go_wp2
  go_ret2
  exact ⟨rfl, rfl⟩

set_option maxHeartbeats 1000000 in
theorem down_1 (m k : Nat) (w : World) (h : ¬ (63 : Int) < k) (k1 : (1 : Int) ≤ k) (q p r g : Nat) (q1 : (m : Int) / 2 ^ k = (q : Int)) (q2 : IntKind.u64.wrap ((q : Int) * 2 ^ k) = (p : Int)) (q3 : IntKind.u64.wrap ((m : Int) - (p : Int)) = (r : Int)) (q4 : IntKind.u64.wrap (2 ^ (k - 1)) = (g : Int)) (c : ((r : Int) == 0) = false) (c1 : r < g) :
    Calls Tryz.prog 95 #[.int .u64 (m : Nat), .int .i64 (k : Nat)] w fun e w' => e = .returned (.tuple #[.int .u64 (q : Nat), .int .i64 1]) ∧ w' = w := by
  go_enter Tryz.func95, Tryz.ntmps95
  go_wp2
  go_ret2
  exact ⟨rfl, rfl⟩

set_option maxHeartbeats 1000000 in
theorem down_2 (m k : Nat) (w : World) (h : ¬ (63 : Int) < k) (k1 : (1 : Int) ≤ k) (q p r g : Nat) (q1 : (m : Int) / 2 ^ k = (q : Int)) (q2 : IntKind.u64.wrap ((q : Int) * 2 ^ k) = (p : Int)) (q3 : IntKind.u64.wrap ((m : Int) - (p : Int)) = (r : Int)) (q4 : IntKind.u64.wrap (2 ^ (k - 1)) = (g : Int)) (c : ((r : Int) == 0) = false) (c1 : ¬ r < g) (c2 : ((r : Int) == (g : Int)) = true) :
    Calls Tryz.prog 95 #[.int .u64 (m : Nat), .int .i64 (k : Nat)] w fun e w' => e = .returned (.tuple #[.int .u64 (q : Nat), .int .i64 2]) ∧ w' = w := by
  go_enter Tryz.func95, Tryz.ntmps95
  go_wp2
  go_ret2
  exact ⟨rfl, rfl⟩

set_option maxHeartbeats 1000000 in
theorem down_3 (m k : Nat) (w : World) (h : ¬ (63 : Int) < k) (k1 : (1 : Int) ≤ k) (q p r g : Nat) (q1 : (m : Int) / 2 ^ k = (q : Int)) (q2 : IntKind.u64.wrap ((q : Int) * 2 ^ k) = (p : Int)) (q3 : IntKind.u64.wrap ((m : Int) - (p : Int)) = (r : Int)) (q4 : IntKind.u64.wrap (2 ^ (k - 1)) = (g : Int)) (c : ((r : Int) == 0) = false) (c1 : ¬ r < g) (c2 : ((r : Int) == (g : Int)) = false) :
    Calls Tryz.prog 95 #[.int .u64 (m : Nat), .int .i64 (k : Nat)] w fun e w' => e = .returned (.tuple #[.int .u64 (q : Nat), .int .i64 3]) ∧ w' = w := by
  go_enter Tryz.func95, Tryz.ntmps95
  go_wp2
  go_ret2
  exact ⟨rfl, rfl⟩


theorem wrap_id (a : Int) (h0 : 0 ≤ a) (h1 : a < 18446744073709551616) : IntKind.u64.wrap a = a := by
  simp [IntKind.wrap, IntKind.bits, IntKind.signed]; omega
/-- what the shift serves -/
def okm (m k : Nat) : Prop := m ≤ 9223372036854775808 ∧ (63 < k → m < 9223372036854775808)
theorem okm_of (m k : Nat) (h : m < 9223372036854775808) : okm m k := ⟨by omega, fun _ => h⟩
theorem down_any (m k : Nat) (w : World) (hm' : okm m k) (hk : 1 ≤ k) :
    Calls Tryz.prog 95 #[.int .u64 (m : Nat), .int .i64 (k : Nat)] w fun e w' => e = .returned (.tuple #[.int .u64 ((m / 2 ^ k : Nat) : Int), .int .i64 (rc m k)]) ∧ w' = w := by
  have hm : m ≤ 9223372036854775808 := hm'.1
  by_cases c : 63 < k
  · have hm2 := hm'.2 c
    have hp : 2 ^ 64 ≤ 2 ^ k := Nat.pow_le_pow_right (by omega) (by omega)
    have e1 : m / 2 ^ k = 0 := Nat.div_eq_of_lt (by omega)
    have e2 : m % 2 ^ k = m := Nat.mod_eq_of_lt (by omega)
    unfold rc
    rw [e1, e2]
    by_cases z : m = 0
    · rw [if_pos z]; exact down_g0 m k w (by omega) z
    · rw [if_neg z, if_pos (by omega)]; exact down_g1 m k w (by omega) (by simp; omega)
  · have hp0 := pow_pos k
    have hp : 2 ^ k ≤ 2 ^ 63 := Nat.pow_le_pow_right (by omega) (by omega)
    have hd := Nat.div_add_mod m (2 ^ k)
    have hr := Nat.mod_lt m hp0
    obtain ⟨j, rfl⟩ : ∃ j, k = j + 1 := ⟨k - 1, by omega⟩
    have hj : 2 ^ (j + 1) = 2 * 2 ^ j := by rw [Nat.pow_succ]; omega
    have hj0 := pow_pos j
    have q1 : (m : Int) / 2 ^ (j + 1) = ((m / 2 ^ (j + 1) : Nat) : Int) := by
      rw [Int.natCast_ediv]; rfl
    have q2 : IntKind.u64.wrap (((m / 2 ^ (j + 1) : Nat) : Int) * 2 ^ (j + 1)) = ((m / 2 ^ (j + 1) * 2 ^ (j + 1) : Nat) : Int) := by
      have e : ((m / 2 ^ (j + 1) : Nat) : Int) * 2 ^ (j + 1) = ((m / 2 ^ (j + 1) * 2 ^ (j + 1) : Nat) : Int) := by
        rw [Int.natCast_mul]; rfl
      rw [e, wrap_id]
      · omega
      · rw [Nat.mul_comm]; omega
    have q3 : IntKind.u64.wrap ((m : Int) - ((m / 2 ^ (j + 1) * 2 ^ (j + 1) : Nat) : Int)) = ((m % 2 ^ (j + 1) : Nat) : Int) := by
      rw [Nat.mul_comm, wrap_id] <;> omega
    have q4 : IntKind.u64.wrap (2 ^ (j + 1 - 1)) = ((2 ^ j : Nat) : Int) := by
      rw [show j + 1 - 1 = j by omega]
      have e : (2 : Int) ^ j = ((2 ^ j : Nat) : Int) := by rw [Int.natCast_pow]; rfl
      rw [e, wrap_id] <;> omega
    unfold rc
    rw [hj] at *
    generalize m / (2 * 2 ^ j) = q at *
    generalize m % (2 * 2 ^ j) = r at *
    rw [hj] at *
    by_cases z : r = 0
    · rw [if_pos z]; exact down_0 m (j + 1) w (by omega) (by omega) q _ r _ q1 q2 q3 q4 (by simp; omega)
    · have z' : ((r : Int) == 0) = false := by simp; omega
      rw [if_neg z]
      by_cases c1 : r < 2 ^ j
      · rw [if_pos (by omega)]; exact down_1 m (j + 1) w (by omega) (by omega) q _ r _ q1 q2 q3 q4 z' c1
      · rw [if_neg (by omega)]
        by_cases c2 : r = 2 ^ j
        · rw [if_pos (by omega)]; exact down_2 m (j + 1) w (by omega) (by omega) q _ r _ q1 q2 q3 q4 z' c1 (by rw [c2]; simp)
        · rw [if_neg (by omega)]; exact down_3 m (j + 1) w (by omega) (by omega) q _ r _ q1 q2 q3 q4 z' c1 (by
            have : ¬ (r : Int) = ((2 ^ j : Nat) : Int) := by omega
            simp only [beq_eq_false_iff_ne, ne_eq, this, not_false_eq_true])
end Go.Proofs.YtdgkmaamjdglmaaGreatDoor.Ref2

/-
  What Round, Floor and Clamp of the reference of layer 2 return: walks over the program.
-/
namespace Go.Proofs.YtdgkmaamjdglmaaGreatDoor.Ref2
open Go.RowKit Tf
attribute [local go_sem] run_bits run_from raw_feq raw_fne raw_flt raw_fgt run_neg

theorem down_at (m k q : Nat) (c : Int) (w : World) (hm : okm m k) (hk : 1 ≤ k) (hq : m / 2 ^ k = q) (hc : rc m k = c) :
    Calls Tryz.prog 95 #[.int .u64 (m : Nat), .int .i64 (k : Nat)] w fun e w' => e = .returned (.tuple #[.int .u64 (q : Nat), .int .i64 c]) ∧ w' = w := by
  subst hq hc; exact down_any m k w hm hk
set_option maxHeartbeats 1000000 in
theorem near_01 (m k q : Nat) (w : World) (hm : Hid (okm m k)) (hk : 1 ≤ k) (hq : Hid (m / 2 ^ k = q)) (_q1 : (q : Int) + 1 < 18446744073709551616) (c : Int) (hc : Hid (rc m k = c)) (c3 : (c == 3) = false) (c2 : (c == 2) = false) :
    Calls Tryz.prog 64 #[.int .u64 (m : Nat), .int .i64 (k : Nat)] w fun e w' => e = .returned (.int .u64 ((q : Nat))) ∧ w' = w := by
  go_enter Tryz.func64, Tryz.ntmps64
  go_wp2_with fail
  refine (down_at m k q c _ hm.out hk hq.out hc.out).mono ?_
  rintro e w' ⟨rfl, rfl⟩
  go_wp2
  go_ret
  exact ⟨rfl, rfl⟩

set_option maxHeartbeats 1000000 in
theorem near_3 (m k q : Nat) (w : World) (hm : Hid (okm m k)) (hk : 1 ≤ k) (hq : Hid (m / 2 ^ k = q)) (q1 : (q : Int) + 1 < 18446744073709551616) (hc : Hid (rc m k = 3)) :
    Calls Tryz.prog 64 #[.int .u64 (m : Nat), .int .i64 (k : Nat)] w fun e w' => e = .returned (.int .u64 ((q : Int) + 1)) ∧ w' = w := by
  go_enter Tryz.func64, Tryz.ntmps64
  go_wp2_with fail
  refine (down_at m k q 3 _ hm.out hk hq.out hc.out).mono ?_
  rintro e w' ⟨rfl, rfl⟩
  go_wp2
  go_ret
  exact ⟨rfl, rfl⟩

set_option maxHeartbeats 1000000 in
theorem near_2o (m k q : Nat) (w : World) (hm : Hid (okm m k)) (hk : 1 ≤ k) (hq : Hid (m / 2 ^ k = q)) (q1 : (q : Int) + 1 < 18446744073709551616) (hc : Hid (rc m k = 2)) (o : ((q : Int) % 2 == 1) = true) :
    Calls Tryz.prog 64 #[.int .u64 (m : Nat), .int .i64 (k : Nat)] w fun e w' => e = .returned (.int .u64 ((q : Int) + 1)) ∧ w' = w := by
  go_enter Tryz.func64, Tryz.ntmps64
  go_wp2_with fail
  refine (down_at m k q 2 _ hm.out hk hq.out hc.out).mono ?_
  rintro e w' ⟨rfl, rfl⟩
  go_wp2
  go_ret
  exact ⟨rfl, rfl⟩

set_option maxHeartbeats 1000000 in
theorem near_2e (m k q : Nat) (w : World) (hm : Hid (okm m k)) (hk : 1 ≤ k) (hq : Hid (m / 2 ^ k = q)) (_q1 : (q : Int) + 1 < 18446744073709551616) (hc : Hid (rc m k = 2)) (o : ((q : Int) % 2 == 1) = false) :
    Calls Tryz.prog 64 #[.int .u64 (m : Nat), .int .i64 (k : Nat)] w fun e w' => e = .returned (.int .u64 ((q : Nat))) ∧ w' = w := by
  go_enter Tryz.func64, Tryz.ntmps64
  go_wp2_with fail
  refine (down_at m k q 2 _ hm.out hk hq.out hc.out).mono ?_
  rintro e w' ⟨rfl, rfl⟩
  go_wp2
  go_ret
  exact ⟨rfl, rfl⟩


theorem near_at (m k r : Nat) (w : World) (hm : okm m k) (hk : 1 ≤ k) (hr : rne m (2 ^ k) = r) :
    Calls Tryz.prog 64 #[.int .u64 (m : Nat), .int .i64 (k : Nat)] w fun e w' => e = .returned (.int .u64 (r : Nat)) ∧ w' = w := by
  subst hr
  have hq : m / 2 ^ k ≤ m := Nat.div_le_self ..
  have l : ((m / 2 ^ k : Nat) : Int) + 1 < 18446744073709551616 := by have := hm.1; omega
  unfold rne
  have hrc : rc m k = if m % 2 ^ k = 0 then 0 else if 2 * (m % 2 ^ k) < 2 ^ k then 1 else if 2 * (m % 2 ^ k) = 2 ^ k then 2 else 3 := rfl
  have hp := pow_pos k
  by_cases c0 : m % 2 ^ k = 0
  · rw [if_pos c0] at hrc
    rw [if_neg (by omega)]
    exact near_01 m k _ w hm hk rfl l 0 hrc (by decide) (by decide)
  · rw [if_neg c0] at hrc
    by_cases c1 : 2 * (m % 2 ^ k) < 2 ^ k
    · rw [if_pos c1] at hrc
      rw [if_neg (by omega)]
      exact near_01 m k _ w hm hk rfl l 1 hrc (by decide) (by decide)
    · rw [if_neg c1] at hrc
      by_cases c2 : 2 * (m % 2 ^ k) = 2 ^ k
      · rw [if_pos c2] at hrc
        by_cases c3 : m / 2 ^ k % 2 = 1
        · rw [if_pos (.inr ⟨c2.symm, c3⟩)]
          exact near_2o m k _ w hm hk rfl l hrc (by simp only [beq_iff_eq]; omega)
        · rw [if_neg (by omega)]
          exact near_2e m k _ w hm hk rfl l hrc (by simp only [beq_eq_false_iff_ne, ne_eq]; omega)
      · rw [if_neg c2] at hrc
        rw [if_pos (by omega)]
        exact near_3 m k _ w hm hk rfl l hrc

/-- a magnitude with its sign -/
def wk (neg : Bool) (m : Nat) : Bool := if neg then decide (m ≤ 9223372036854775808) else decide (m < 9223372036854775808)
def wi (neg : Bool) (m : Nat) : Int := if wk neg m then (if neg then -(m : Int) else (m : Int)) else 0
set_option maxHeartbeats 1000000 in
theorem whole_n (m : Nat) (w : World) (h : (m : Int) ≤ 9223372036854775808) (e1 : wrap64 (IntKind.u64.wrap (-(m : Int))) = -(m : Int)) :
    Calls Tryz.prog 63 #[.bool true, .int .u64 (m : Nat)] w fun e w' => e = .returned (.tuple #[.int .i64 (-(m : Int)), .bool true]) ∧ w' = w := by
  go_enter Tryz.func63, Tryz.ntmps63
  go_wp2
  go_ret2
  refine ⟨?_, rfl⟩
  show Ending.returned (.tuple #[.int .i64 (wrap64 (IntKind.u64.wrap (-(m : Int)))), .bool true]) = _
  rw [e1]

set_option maxHeartbeats 1000000 in
theorem whole_no (m : Nat) (w : World) (h : ¬ (m : Int) ≤ 9223372036854775808) :
    Calls Tryz.prog 63 #[.bool true, .int .u64 (m : Nat)] w fun e w' => e = .returned (.tuple #[.int .i64 0, .bool false]) ∧ w' = w := by
  go_enter Tryz.func63, Tryz.ntmps63
  go_wp2
  go_ret2
  exact ⟨rfl, rfl⟩

set_option maxHeartbeats 1000000 in
theorem whole_p (m : Nat) (w : World) (h : decide ((9223372036854775808 : Int) ≤ (m : Int)) = false) (e1 : wrap64 (m : Int) = (m : Int)) :
    Calls Tryz.prog 63 #[.bool false, .int .u64 (m : Nat)] w fun e w' => e = .returned (.tuple #[.int .i64 (m : Int), .bool true]) ∧ w' = w := by
  go_enter Tryz.func63, Tryz.ntmps63
  go_wp2
  go_ret2
  refine ⟨?_, rfl⟩
  show Ending.returned (.tuple #[.int .i64 (wrap64 (m : Int)), .bool true]) = _
  rw [e1]

set_option maxHeartbeats 1000000 in
theorem whole_po (m : Nat) (w : World) (h : decide ((9223372036854775808 : Int) ≤ (m : Int)) = true) :
    Calls Tryz.prog 63 #[.bool false, .int .u64 (m : Nat)] w fun e w' => e = .returned (.tuple #[.int .i64 0, .bool false]) ∧ w' = w := by
  go_enter Tryz.func63, Tryz.ntmps63
  go_wp2
  go_ret2
  exact ⟨rfl, rfl⟩

theorem whole_at (neg : Bool) (m : Nat) (i : Int) (ok : Bool) (w : World) (hm : m < 18446744073709551616) (hi : wi neg m = i) (hk : wk neg m = ok) :
    Calls Tryz.prog 63 #[.bool neg, .int .u64 (m : Nat)] w fun e w' => e = .returned (.tuple #[.int .i64 i, .bool ok]) ∧ w' = w := by
  subst hi hk
  unfold wi wk
  cases neg
  · simp only [Bool.false_eq_true, if_false]
    by_cases c : m < 9223372036854775808
    · rw [decide_eq_true c, if_pos rfl]; exact whole_p m w (decide_eq_false (by omega)) (by unfold wrap64; omega)
    · rw [decide_eq_false c, if_neg (by decide)]; exact whole_po m w (decide_eq_true (by omega))
  · simp only [if_true]
    by_cases c : m ≤ 9223372036854775808
    · rw [decide_eq_true c, if_pos rfl]
      refine whole_n m w (by omega) ?_
      unfold wrap64
      by_cases z : m = 0
      · subst z; decide
      · have : IntKind.u64.wrap (-(m : Int)) = 18446744073709551616 - (m : Int) := by
          simp [IntKind.wrap, IntKind.bits, IntKind.signed]; omega
        rw [this]; omega
    · rw [decide_eq_false c, if_neg (by decide)]; exact whole_no m w (by omega)

/-- too great for 64 bits -/
def gr (m e : Nat) : Bool := decide (m ≠ 0) && (decide (11 < e) || decide (9223372036854775808 / 2 ^ e < m))
set_option maxHeartbeats 1000000 in
theorem great_0 (e : Nat) (w : World) :
    Calls Tryz.prog 62 #[.int .u64 0, .int .i64 (e : Nat)] w fun e w' => e = .returned (.bool false) ∧ w' = w := by
  go_enter Tryz.func62, Tryz.ntmps62
  go_wp2
  go_ret
  exact ⟨rfl, rfl⟩

set_option maxHeartbeats 1000000 in
theorem great_e (m e : Nat) (w : World) (h : ((m : Int) != 0) = true) (h1 : (11 : Int) < e) :
    Calls Tryz.prog 62 #[.int .u64 (m : Nat), .int .i64 (e : Nat)] w fun e w' => e = .returned (.bool true) ∧ w' = w := by
  go_enter Tryz.func62, Tryz.ntmps62
  go_wp2
  go_ret
  exact ⟨rfl, rfl⟩

set_option maxHeartbeats 1000000 in
theorem great_m (m e : Nat) (b : Bool) (w : World) (h : ((m : Int) != 0) = true) (h1 : ¬ (11 : Int) < e) (h2 : decide ((9223372036854775808 : Int) / 2 ^ e < (m : Int)) = b) :
    Calls Tryz.prog 62 #[.int .u64 (m : Nat), .int .i64 (e : Nat)] w fun e w' => e = .returned (.bool b) ∧ w' = w := by
  go_enter Tryz.func62, Tryz.ntmps62
  go_wp2
  go_ret
  exact ⟨rfl, rfl⟩

theorem great_at (m e : Nat) (b : Bool) (w : World) (hb : gr m e = b) :
    Calls Tryz.prog 62 #[.int .u64 (m : Nat), .int .i64 (e : Nat)] w fun e w' => e = .returned (.bool b) ∧ w' = w := by
  subst hb
  unfold gr
  by_cases z : m = 0
  · subst z; exact great_0 e w
  · have h : ((m : Int) != 0) = true := by simp; omega
    rw [decide_eq_true z, Bool.true_and]
    by_cases c : 11 < e
    · rw [decide_eq_true c, Bool.true_or]; exact great_e m e w h (by omega)
    · rw [decide_eq_false c, Bool.false_or]
      refine great_m m e _ w h (by omega) (decide_eq_decide.2 ?_)
      have e1 : (9223372036854775808 : Int) / 2 ^ e = ((9223372036854775808 / 2 ^ e : Nat) : Int) := by
        rw [Int.natCast_ediv]; rfl
      rw [e1]; omega

theorem greatI (m : Nat) (e : Int) (b : Bool) (w : World) (he : 0 ≤ e) (hb : gr m e.toNat = b) :
    Calls Tryz.prog 62 #[.int .u64 (m : Nat), .int .i64 e] w fun e w' => e = .returned (.bool b) ∧ w' = w := by
  obtain ⟨k, rfl⟩ : ∃ k : Nat, e = k := ⟨e.toNat, by omega⟩
  rw [Int.toNat_natCast] at hb
  exact great_at m k b w hb
theorem parts_at (x m : Nat) (e : Int) (n : Bool) (w : World) (hx : x < 18446744073709551616) (fx : mg x < 9218868437227405312) (hm : pm x = m) (he : pe x = e) (hn : ng x = n) :
    Calls Tryz.prog 61 #[.float .f64 x] w fun e' w' => e' = .returned (.tuple #[.bool n, .int .u64 (m : Nat), .int .i64 e, .int .i64 0]) ∧ w' = w := by
  subst hm he hn; exact parts_fin x w hx fx
theorem parts_iat (x : Nat) (n : Bool) (w : World) (hx : x < 18446744073709551616) (fx : mg x = 9218868437227405312) (hn : ng x = n) :
    Calls Tryz.prog 61 #[.float .f64 x] w fun e w' => e = .returned (.tuple #[.bool n, .int .u64 0, .int .i64 0, .int .i64 1]) ∧ w' = w := by
  subst hn; exact parts_i x w hx fx
theorem parts_nat (x : Nat) (n : Bool) (w : World) (hx : x < 18446744073709551616) (fx : isN x = true) (hn : ng x = n) :
    Calls Tryz.prog 61 #[.float .f64 x] w fun e w' => e = .returned (.tuple #[.bool n, .int .u64 0, .int .i64 0, .int .i64 2]) ∧ w' = w := by
  subst hn; exact parts_n x w hx fx
set_option maxHeartbeats 1000000 in
theorem rr_inf (x : Nat) (n : Bool) (w : World) (hx : Hid (x < 18446744073709551616)) (hn : Hid (ng x = n)) (fx : Hid (mg x = 9218868437227405312)) :
    Calls Tryz.prog 33 #[.float .f64 x] w fun e w' => e = .returned (.tuple #[.int .i64 0, .bool false]) ∧ w' = w := by
  go_enter Tryz.func33, Tryz.ntmps33
  go_wp2_with fail
  refine (parts_iat x n _ hx.out fx.out hn.out).mono ?_
  rintro e w' ⟨rfl, rfl⟩
  go_wp2
  go_ret2
  exact ⟨rfl, rfl⟩

set_option maxHeartbeats 1000000 in
theorem rr_nan (x : Nat) (n : Bool) (w : World) (hx : Hid (x < 18446744073709551616)) (hn : Hid (ng x = n)) (fx : Hid (isN x = true)) :
    Calls Tryz.prog 33 #[.float .f64 x] w fun e w' => e = .returned (.tuple #[.int .i64 0, .bool false]) ∧ w' = w := by
  go_enter Tryz.func33, Tryz.ntmps33
  go_wp2_with fail
  refine (parts_nat x n _ hx.out fx.out hn.out).mono ?_
  rintro e w' ⟨rfl, rfl⟩
  go_wp2
  go_ret2
  exact ⟨rfl, rfl⟩

set_option maxHeartbeats 1000000 in
theorem rr_gr (x : Nat) (n : Bool) (w : World) (hx : Hid (x < 18446744073709551616)) (hn : Hid (ng x = n)) (fx : Hid (mg x < 9218868437227405312)) (m : Nat) (pm' : Hid (pm x = m)) (e : Int) (e0 : 0 ≤ e) (pe' : Hid (pe x = e)) (g : Hid (gr m e.toNat = true)) :
    Calls Tryz.prog 33 #[.float .f64 x] w fun e w' => e = .returned (.tuple #[.int .i64 0, .bool false]) ∧ w' = w := by
  go_enter Tryz.func33, Tryz.ntmps33
  go_wp2_with fail
  refine (parts_at x m e n _ hx.out fx.out pm'.out pe'.out hn.out).mono ?_
  rintro e w' ⟨rfl, rfl⟩
  go_wp2_with fail
  refine (greatI m e true _ e0 g.out).mono ?_
  rintro e w' ⟨rfl, rfl⟩
  go_wp2
  go_ret2
  exact ⟨rfl, rfl⟩

set_option maxHeartbeats 1000000 in
theorem rr_up (x : Nat) (n : Bool) (w : World) (hx : Hid (x < 18446744073709551616)) (hn : Hid (ng x = n)) (fx : Hid (mg x < 9218868437227405312)) (m : Nat) (pm' : Hid (pm x = m)) (e : Int) (e0 : 0 ≤ e) (e1 : e < 12) (pe' : Hid (pe x = e)) (g : Hid (gr m e.toNat = false)) (p : Nat) (hp : IntKind.u64.wrap ((m : Int) * 2 ^ e.toNat) = (p : Int)) (lp : Hid (p < 18446744073709551616)) (i : Int) (ok : Bool) (hi : Hid (wi n p = i)) (hk : Hid (wk n p = ok)) :
    Calls Tryz.prog 33 #[.float .f64 x] w fun e w' => e = .returned (.tuple #[.int .i64 i, .bool ok]) ∧ w' = w := by
  go_enter Tryz.func33, Tryz.ntmps33
  go_wp2_with fail
  refine (parts_at x m e n _ hx.out fx.out pm'.out pe'.out hn.out).mono ?_
  rintro e w' ⟨rfl, rfl⟩
  go_wp2_with fail
  refine (greatI m e false _ e0 g.out).mono ?_
  rintro e w' ⟨rfl, rfl⟩
  go_wp2_with fail
  refine (whole_at n p i ok _ lp.out hi.out hk.out).mono ?_
  rintro e w' ⟨rfl, rfl⟩
  go_wp2
  go_ret2
  exact ⟨rfl, rfl⟩

set_option maxHeartbeats 1000000 in
theorem rr_dn (x : Nat) (n : Bool) (w : World) (hx : Hid (x < 18446744073709551616)) (hn : Hid (ng x = n)) (fx : Hid (mg x < 9218868437227405312)) (m : Nat) (pm' : Hid (pm x = m)) (k : Nat) (lm : Hid (okm m k)) (k1 : 1 ≤ k) (e : Int) (e1 : -5000 < e) (ek : -e = (k : Int)) (pe' : Hid (pe x = e)) (r : Nat) (hr : Hid (rne m (2 ^ k) = r)) (lr : Hid (r < 18446744073709551616)) (i : Int) (ok : Bool) (hi : Hid (wi n r = i)) (hk : Hid (wk n r = ok)) :
    Calls Tryz.prog 33 #[.float .f64 x] w fun e w' => e = .returned (.tuple #[.int .i64 i, .bool ok]) ∧ w' = w := by
  go_enter Tryz.func33, Tryz.ntmps33
  go_wp2_with fail
  refine (parts_at x m e n _ hx.out fx.out pm'.out pe'.out hn.out).mono ?_
  rintro e w' ⟨rfl, rfl⟩
  go_wp2_with fail
  refine (near_at m k r _ lm.out k1 hr.out).mono ?_
  rintro e w' ⟨rfl, rfl⟩
  go_wp2_with fail
  refine (whole_at n r i ok _ lr.out hi.out hk.out).mono ?_
  rintro e w' ⟨rfl, rfl⟩
  go_wp2
  go_ret2
  exact ⟨rfl, rfl⟩

end Go.Proofs.YtdgkmaamjdglmaaGreatDoor.Ref2

/-
  Round, Floor and Clamp of the reference of layer 2 answer what the code's do: walks over the program.
-/
namespace Go.Proofs.YtdgkmaamjdglmaaGreatDoor.Ref2
open Go.RowKit Tf
attribute [local go_sem] run_bits run_from raw_feq raw_fne raw_flt raw_fgt run_neg

theorem cut_up (way : Ieee.Toward) (x : Nat) (h : 0 ≤ pe x) : cutq way (ng x) (mv (mg x)) one = pm x * 2 ^ (pe x).toNat := by
  have hK := K_eq
  have e : (pe x + 1074).toNat = (pe x).toNat + K := by omega
  rw [mv_parts, e, Nat.pow_add, ← Nat.mul_assoc, ← one_pow, cutq_mul _ _ _ _ one_pos]
theorem cut_dn (way : Ieee.Toward) (x k : Nat) (h : pe x = -(k : Int)) : cutq way (ng x) (mv (mg x)) one = cutq way (ng x) (pm x) (2 ^ k) := by
  have hK := K_eq
  have hg := pe_ge x
  have e : (pe x + 1074).toNat = K - k := by omega
  have e2 : one = 2 ^ k * 2 ^ (K - k) := by rw [one_pow, ← Nat.pow_add]; congr 1; omega
  rw [mv_parts, e, e2, cutq_scale _ _ _ _ _ (pow_pos _)]
theorem cOk_wk (way : Ieee.Toward) (x : Nat) (fx : mg x < 9218868437227405312) : cOk way x = wk (ng x) (cutq way (ng x) (mv (mg x)) one) ∧ cI way x = wi (ng x) (cutq way (ng x) (mv (mg x)) one) := by
  have e : cOk way x = wk (ng x) (cutq way (ng x) (mv (mg x)) one) := by
    unfold cOk wk cq fin
    rw [decide_eq_true fx, Bool.true_and]
    generalize cutq way (ng x) (mv (mg x)) one = M
    cases ng x
    · simp only [Bool.false_eq_true, if_false]
      rw [decide_eq_true (by omega), Bool.true_and]
      exact decide_eq_decide.2 (by omega)
    · simp only [if_true]
      rw [show decide (-(M : Int) < 9223372036854775808) = true from decide_eq_true (by omega), Bool.and_true]
      exact decide_eq_decide.2 (by omega)
  refine ⟨e, ?_⟩
  unfold cI wi
  rw [e]
  rfl
theorem pm_great (x : Nat) (h : 0 ≤ pe x) : 4503599627370496 ≤ pm x := by
  unfold pm pe at *
  by_cases c : mg x / 4503599627370496 = 0
  · rw [if_pos c] at h; omega
  · rw [if_neg c]; omega
theorem gr_true (x : Nat) (h : 0 ≤ pe x) (g : gr (pm x) (pe x).toNat = true) : 9223372036854775808 < pm x * 2 ^ (pe x).toNat := by
  have h1 := pm_great x h
  unfold gr at g
  simp only [Bool.and_eq_true, Bool.or_eq_true, decide_eq_true_eq] at g
  generalize (pe x).toNat = k at *
  rcases g.2 with c | c
  · have : 2 ^ 12 ≤ 2 ^ k := Nat.pow_le_pow_right (by omega) (by omega)
    have := Nat.mul_le_mul h1 this
    omega
  · exact (Nat.div_lt_iff_lt_mul (pow_pos k)).1 c
theorem gr_false (x : Nat) (h : 0 ≤ pe x) (g : gr (pm x) (pe x).toNat = false) : pe x < 12 ∧ pm x * 2 ^ (pe x).toNat ≤ 9223372036854775808 := by
  have h1 := pm_great x h
  unfold gr at g
  rw [decide_eq_true (show pm x ≠ 0 by omega), Bool.true_and, Bool.or_eq_false_iff] at g
  have g1 := of_decide_eq_false g.1
  have g2 := of_decide_eq_false g.2
  refine ⟨by omega, ?_⟩
  rw [Nat.div_lt_iff_lt_mul (pow_pos _)] at g2
  omega
theorem wrap_pow (m k p : Nat) (hp : p = m * 2 ^ k) (h : p < 18446744073709551616) : IntKind.u64.wrap ((m : Int) * 2 ^ k) = (p : Int) := by
  have e : (m : Int) * 2 ^ k = (p : Int) := by rw [hp, Int.natCast_mul]; rfl
  rw [e, wrap_id] <;> omega
theorem wk_great (n : Bool) (M : Nat) (h : 9223372036854775808 < M) : wk n M = false ∧ wi n M = 0 := by
  have e : wk n M = false := by unfold wk; cases n <;> simp <;> omega
  exact ⟨e, by unfold wi; rw [e]; rfl⟩

theorem refRound_at (x : Nat) (i : Int) (ok : Bool) (w : World) (hx : x < 18446744073709551616) (hi : cI .even x = i) (ho : cOk .even x = ok) :
    Calls Tryz.prog 33 #[.float .f64 x] w fun e w' => e = .returned (.tuple #[.int .i64 i, .bool ok]) ∧ w' = w := by
  subst hi ho
  cases n : isN x
  · have hle := isN_false.1 n
    by_cases fx : mg x < 9218868437227405312
    · obtain ⟨k1, k2⟩ := cOk_wk .even x fx
      have lm := pm_lt x
      by_cases h : 0 ≤ pe x
      · rw [cut_up .even x h] at k1 k2
        cases g : gr (pm x) (pe x).toNat
        · obtain ⟨e1, l⟩ := gr_false x h g
          exact rr_up x _ w hx rfl fx _ rfl _ h e1 rfl g _ (wrap_pow _ _ _ rfl (by omega)) (show _ < _ by omega) _ _ k2.symm k1.symm
        · have l := gr_true x h g
          obtain ⟨z1, z2⟩ := wk_great (ng x) _ l
          rw [k1, k2, z1, z2]
          exact rr_gr x _ w hx rfl fx _ rfl _ h rfl g
      · have hg := pe_ge x
        obtain ⟨k, hk⟩ : ∃ k : Nat, pe x = -(k : Int) := ⟨(-pe x).toNat, by omega⟩
        rw [cut_dn .even x k hk] at k1 k2
        have lk : pm x / 2 ^ k ≤ pm x := Nat.div_le_self ..
        rw [cutq_even] at k1 k2
        have lr := rne_le (pm x) (2 ^ k)
        exact rr_dn x _ w hx rfl fx _ rfl k (okm_of _ _ (by omega)) (by omega) _ (by omega) (show -pe x = (k : Int) by omega) rfl _ rfl (show _ < _ by omega) _ _ k2.symm k1.symm
    · have o : cOk .even x = false ∧ cI .even x = 0 := by
        have e : cOk .even x = false := by unfold cOk fin; rw [decide_eq_false fx]; rfl
        exact ⟨e, by unfold cI; rw [e]; rfl⟩
      rw [o.1, o.2]
      exact rr_inf x _ w hx rfl (show _ = _ by omega)
  · obtain ⟨o1, o2⟩ := cOk_nan .even n
    rw [o1, o2]
    exact rr_nan x _ w hx rfl n

theorem clamp_mag (x : Nat) (most : Int) (hx : x < 18446744073709551616) (fx : mg x < 9218868437227405312) (hm : clampM most ≤ 9223372036854775807) :
    clampB x most = if ng x then -(min ((cutq .even (ng x) (mv (mg x)) one : Nat) : Int) (clampM most)) else min ((cutq .even (ng x) (mv (mg x)) one : Nat) : Int) (clampM most) := by
  have n : isN x = false := isN_false.2 (by omega)
  have m0 := clampM_nonneg most
  obtain ⟨k1, k2⟩ := cOk_wk .even x fx
  have hg := fgt_zero x hx n
  unfold clampB
  rw [n, if_neg (by decide), k1, k2, hg]
  have hM : mg x = 0 → cutq .even (ng x) (mv (mg x)) one = 0 := by
    intro h
    rw [h, mv_zero]
    have := cutq_mul .even (ng x) 0 one one_pos
    rwa [Nat.zero_mul] at this
  generalize cutq .even (ng x) (mv (mg x)) one = M at *
  unfold wi wk rk
  cases hn : ng x
  · simp only [Bool.false_eq_true, if_false]
    by_cases c : M < 9223372036854775808
    · rw [decide_eq_true c, if_pos rfl, if_pos rfl]; omega
    · rw [decide_eq_false c, if_neg (by decide)]
      have : 0 < mg x := by
        by_cases z : mg x = 0
        · have := hM z; omega
        · omega
      rw [decide_eq_true (by omega), if_pos rfl]; omega
  · simp only [if_true]
    by_cases c : M ≤ 9223372036854775808
    · rw [decide_eq_true c, if_pos rfl, if_pos rfl]; omega
    · rw [decide_eq_false c, if_neg (by decide), decide_eq_false (by omega), if_neg (by decide)]; omega

end Go.Proofs.YtdgkmaamjdglmaaGreatDoor.Ref2
