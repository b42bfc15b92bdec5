/-
  How far a double lies from the whole numbers that it is made, by plain numbers (no program).
-/
import Derived.Test.YtpncpbpdbdlamaaPx
namespace Go.Proofs.Ytpncpbpdbdlamaa
open Tf

theorem rne_near (n g : Nat) (hg : 0 < g) : 2 * n ≤ 2 * (rne n g * g) + g ∧ 2 * (rne n g * g) ≤ 2 * n + g ∧ ((2 * n = 2 * (rne n g * g) + g ∨ 2 * (rne n g * g) = 2 * n + g) → rne n g % 2 = 0) := by
  have h := Nat.div_add_mod n g
  have hm := Nat.mod_lt n hg
  rw [Nat.mul_comm] at h
  unfold rne
  by_cases c : g < 2 * (n % g) ∨ (g = 2 * (n % g) ∧ n / g % 2 = 1)
  · rw [if_pos c, Nat.add_mul, Nat.one_mul]
    generalize n / g * g = P at *
    omega
  · rw [if_neg c, Nat.add_zero]
    generalize n / g * g = P at *
    omega
theorem down_near (neg : Bool) (n g : Nat) (hg : 0 < g) : (neg = false → cutq .down neg n g * g ≤ n ∧ n < cutq .down neg n g * g + g) ∧ (neg = true → n ≤ cutq .down neg n g * g ∧ cutq .down neg n g * g < n + g) := by
  have h := Nat.div_add_mod n g
  have hm := Nat.mod_lt n hg
  rw [Nat.mul_comm] at h
  unfold cutq
  refine ⟨fun e => ?_, fun e => ?_⟩
  · subst e
    simp only [Bool.false_and, Bool.toNat_false, Nat.add_zero]
    generalize n / g * g = P at *
    omega
  · subst e
    simp only [Bool.true_and]
    by_cases c : n % g = 0
    · rw [decide_eq_false (by omega)]
      simp only [Bool.toNat_false, Nat.add_zero]
      generalize n / g * g = P at *
      omega
    · rw [decide_eq_true c]
      simp only [Bool.toNat_true, Nat.add_mul, Nat.one_mul]
      generalize n / g * g = P at *
      omega

/-- at most a half away, at a half even -/
theorem even_near (x : Nat) : 2 * (sv x - cq .even x * one) ≤ one ∧ -(one : Int) ≤ 2 * (sv x - cq .even x * one) ∧ ((2 * (sv x - cq .even x * one) = one ∨ 2 * (sv x - cq .even x * one) = -(one : Int)) → cq .even x % 2 = 0) := by
  have h := rne_near (mv (mg x)) one one_pos
  unfold sv cq
  rw [cutq_even]
  generalize hq : rne (mv (mg x)) one = q at *
  have hp : ((q * one : Nat) : Int) = (q : Int) * (one : Int) := Int.natCast_mul ..
  cases ng x
  · simp only [Bool.false_eq_true, if_false]
    rw [← hp]
    generalize q * one = Q at *
    omega
  · simp only [if_true, Int.neg_mul]
    rw [← hp]
    generalize q * one = Q at *
    omega
/-- not above, less than 1 below -/
theorem down_floor (x : Nat) : cq .down x * one ≤ sv x ∧ sv x < cq .down x * one + one := by
  have h := down_near (ng x) (mv (mg x)) one one_pos
  unfold sv cq
  generalize hq : cutq .down (ng x) (mv (mg x)) one = q at *
  have hp : ((q * one : Nat) : Int) = (q : Int) * (one : Int) := Int.natCast_mul ..
  have := one_pos
  cases hn : ng x
  · have h' := h.1 hn
    simp only [Bool.false_eq_true, if_false]
    rw [← hp]
    generalize q * one = Q at *
    omega
  · have h' := h.2 hn
    simp only [if_true, Int.neg_mul]
    rw [← hp]
    generalize q * one = Q at *
    omega

/-- a whole number that a double was made is a double -/
theorem fl_cq (way : Ieee.Toward) (x : Nat) (hx : x < 18446744073709551616) (fx : mg x < 9218868437227405312) :
    rn false (cq way x * one) < 18446744073709551616 ∧ mg (rn false (cq way x * one)) < 9218868437227405312 ∧ sv (rn false (cq way x * one)) = cq way x * one := by
  have h1 := sv_itV way x hx fx
  obtain ⟨_, h2, _⟩ := itV_fin way x hx fx
  have h3 := itV_lt way x
  rw [← h1]
  by_cases c : 0 < mg (itV way x)
  · rw [rn_sv false _ h3 c (by omega)]
    exact ⟨h3, h2, rfl⟩
  · have e : mg (itV way x) = 0 := by omega
    have e2 : sv (itV way x) = 0 := by unfold sv; rw [e, mv_zero]; split <;> rfl
    rw [e2, rn_zero]
    exact ⟨by decide, by decide, by decide⟩

/-- what is left of a double of at least a half is a double -/
theorem left_exact (x : Nat) (j : Int) (h0 : 4602678819172646912 ≤ mg x) (hu : (sv x - j * one).natAbs ≤ one) : ∃ r, mv r = (sv x - j * one).natAbs := by
  have hK := K_eq
  by_cases c : 4841369599423283200 ≤ mg x
  · obtain ⟨q, hq⟩ := whole_great (mg x) c
    have e : ∃ t : Int, sv x - j * one = t * one := by
      unfold sv; rw [hq, Int.natCast_mul]
      cases ng x
      · exact ⟨(q : Int) - j, by simp [Int.sub_mul]⟩
      · exact ⟨-(q : Int) - j, by simp [Int.sub_mul, Int.neg_mul]⟩
    obtain ⟨t, ht⟩ := e
    rw [ht, Int.natAbs_mul, Int.natAbs_natCast] at hu ⊢
    have h1 : t.natAbs ≤ 1 := by
      have : t.natAbs * one ≤ 1 * one := by omega
      exact Nat.le_of_mul_le_mul_right this one_pos
    obtain ⟨r, hr, _⟩ := rep_one t.natAbs (by omega)
    exact ⟨r, hr⟩
  · have hk : ∃ A k, k ≤ K ∧ K ≤ k + 53 ∧ mv (mg x) = A * 2 ^ k := by
      refine ⟨2 ^ 52 + mg x % 2 ^ 52, mg x / 2 ^ 52 - 1, by omega, by omega, ?_⟩
      unfold mv mag
      rw [if_neg (by omega)]
    obtain ⟨A, k, h1, h2, e⟩ := hk
    have eo : one = 2 ^ (K - k) * 2 ^ k := by rw [one_pow, ← Nat.pow_add]; congr 1; omega
    have e2 : ∃ t : Int, sv x - j * one = t * (2 ^ k : Nat) := by
      have e3 : (one : Int) = ((2 ^ (K - k) : Nat) : Int) * ((2 ^ k : Nat) : Int) := by rw [← Int.natCast_mul, ← eo]
      unfold sv; rw [e, Int.natCast_mul, e3]
      cases ng x
      · exact ⟨(A : Int) - j * (2 ^ (K - k) : Nat), by simp only [Bool.false_eq_true, if_false]; rw [Int.sub_mul, Int.mul_assoc]⟩
      · exact ⟨-(A : Int) - j * (2 ^ (K - k) : Nat), by simp only [if_true]; rw [Int.sub_mul, Int.mul_assoc, Int.neg_mul]⟩
    obtain ⟨t, ht⟩ := e2
    rw [ht, Int.natAbs_mul, Int.natAbs_natCast] at hu ⊢
    rw [eo] at hu
    have h3 : t.natAbs ≤ 2 ^ (K - k) := Nat.le_of_mul_le_mul_right hu (pow_pos k)
    have h4 : 2 ^ (K - k) ≤ 2 ^ 53 := Nat.pow_le_pow_right (by omega) (by omega)
    exact rep 52 t.natAbs k (Nat.le_trans h3 h4)

theorem R_exact (v : Int) (r : Nat) (h : mv r = v.natAbs) (hr : r ≤ 9218868437227405312) : R v = if v < 0 then -(r : Int) else (r : Int) := by
  unfold R
  rw [← h, rung_mv, Nat.min_eq_left hr]
theorem mv_one : mv 4607182418800017408 = one := rfl
theorem R_mv (r : Nat) (hr : r ≤ 9218868437227405312) : R (mv r : Int) = r ∧ R (-(mv r : Int)) = -(r : Int) := by
  refine ⟨?_, ?_⟩
  · rw [R_exact _ r (by rw [Int.natAbs_natCast]) hr, if_neg (by omega)]
  · rw [R_exact _ r (by rw [Int.natAbs_neg, Int.natAbs_natCast]) hr]
    by_cases c : r = 0
    · subst c; rw [mv_zero]; simp
    · have := (@mv_lt 0 r).2 (by omega)
      rw [mv_zero] at this
      rw [if_pos (by omega)]

/-- the rank of what is left when x is made whole to the nearest -/
theorem even_left (x : Nat) : R (sv x - cq .even x * one) ≤ 4602678819172646912 ∧ -4602678819172646912 ≤ R (sv x - cq .even x * one) ∧ ((R (sv x - cq .even x * one) = 4602678819172646912 ∨ R (sv x - cq .even x * one) = -4602678819172646912) → cq .even x % 2 = 0) := by
  obtain ⟨a, b, c⟩ := even_near x
  have hh : (2 : Int) * ((mv 4602678819172646912 : Nat) : Int) = (one : Int) := by
    have := mv_half
    rw [← this]; simp
  obtain ⟨r1, r2⟩ := R_mv 4602678819172646912 (by decide)
  have ea : sv x - cq .even x * one ≤ ((mv 4602678819172646912 : Nat) : Int) := by omega
  have eb : -((mv 4602678819172646912 : Nat) : Int) ≤ sv x - cq .even x * one := by omega
  have h1 := R_mono ea
  have h2 := R_mono eb
  rw [r1] at h1
  rw [r2] at h2
  refine ⟨h1, h2, fun h => ?_⟩
  by_cases z : cq .even x % 2 = 0
  · exact z
  · exfalso
    have hge : 4602678819172646912 ≤ mg x := by
      by_cases c2 : 4602678819172646912 ≤ mg x
      · exact c2
      · exfalso
        have hlt : mv (mg x) < mv 4602678819172646912 := mv_lt.2 (by omega)
        have hq : rne (mv (mg x)) one = 0 := by
          have h5 := rne_near (mv (mg x)) one one_pos
          have h6 := mv_half
          have h7 : rne (mv (mg x)) one * one < 1 * one := by omega
          have := Nat.lt_of_mul_lt_mul_right h7
          omega
        have : cq .even x = 0 := by
          unfold cq; rw [cutq_even, hq]; split <;> rfl
        omega
    have hne := fun hh => z (c hh)
    obtain ⟨r, hr⟩ := left_exact x (cq .even x) hge (by omega)
    have hr2 : mv r < mv 4602678819172646912 := by
      rw [hr]
      have h6 : 2 * (sv x - cq .even x * one) ≠ one := fun h7 => hne (.inl h7)
      have h8 : 2 * (sv x - cq .even x * one) ≠ -(one : Int) := fun h7 => hne (.inr h7)
      omega
    have hr3 := mv_lt.1 hr2
    rw [R_exact _ r hr (by omega)] at h
    split at h <;> omega
/-- the rank of what is left when x is made whole downwards -/
theorem down_left (x : Nat) : 0 ≤ R (sv x - cq .down x * one) ∧ (R (sv x - cq .down x * one) < 4607182418800017408 ∨ (R (sv x - cq .down x * one) = 4607182418800017408 ∧ rk x < 0 ∧ -4607182418800017408 < rk x)) := by
  obtain ⟨a, b⟩ := down_floor x
  have r0 : R 0 = 0 := by
    have := (R_mv 0 (by decide)).1
    rw [mv_zero] at this; exact this
  have h1 := R_mono (show (0 : Int) ≤ sv x - cq .down x * one by omega)
  rw [r0] at h1
  refine ⟨h1, ?_⟩
  by_cases hge : 4602678819172646912 ≤ mg x
  · obtain ⟨r, hr⟩ := left_exact x (cq .down x) hge (by omega)
    have hr2 : mv r < mv 4607182418800017408 := by rw [hr, mv_one]; omega
    have hr3 := mv_lt.1 hr2
    rw [R_exact _ r hr (by omega)]
    left
    split <;> omega
  · have hlt : mv (mg x) < mv 4602678819172646912 := mv_lt.2 (by omega)
    have h6 := mv_half
    cases hn : ng x
    · left
      have hq : cq .down x = 0 := by
        have e : (cq .down x) * one < 1 * one := by
          have : sv x = mv (mg x) := by unfold sv; rw [hn]; rfl
          omega
        have e2 : cq .down x < 1 := Int.lt_of_mul_lt_mul_right e (by omega)
        have : 0 ≤ cq .down x := by unfold cq; rw [hn]; simp
        omega
      rw [hq, Int.zero_mul, Int.sub_zero, R_sv x (by omega)]
      unfold rk; rw [hn, if_neg (by decide)]; omega
    · by_cases z : mg x = 0
      · left
        have hs : sv x = 0 := by unfold sv; rw [z, mv_zero]; split <;> rfl
        have hq : cq .down x = 0 := by
          unfold cq; rw [z, mv_zero, hn]
          have := cutq_mul .down true 0 one one_pos
          rw [Nat.zero_mul] at this
          rw [this]; rfl
        rw [hq, hs, Int.zero_mul, Int.sub_zero, r0]; decide
      · have e2 : (R (sv x - cq .down x * one)) ≤ R (mv 4607182418800017408 : Int) := R_mono (by rw [mv_one]; omega)
        rw [(R_mv 4607182418800017408 (by decide)).1] at e2
        have hk : rk x = -(mg x : Int) := by unfold rk; rw [hn]; rfl
        rcases Int.lt_or_eq_of_le e2 with h | h
        · exact .inl h
        · exact .inr ⟨h, by omega, by omega⟩

/-- both are of 64 bits just where x is -/
theorem cOk_wOk (way : Ieee.Toward) (x : Nat) (hx : x < 18446744073709551616) : cOk way x = wOk x := by
  cases n : isN x
  · by_cases c : 4841369599423283200 ≤ mg x
    · by_cases fx : mg x < 9218868437227405312
      · obtain ⟨q, hq⟩ := whole_great (mg x) c
        rw [← wOk_itV way x hx n]
        have h := itV_fin way x hx fx
        have e : itV way x = x := by
          have h3 := h.2.2
          rw [hq, cutq_mul _ _ _ _ one_pos, ← hq] at h3
          have h4 := mv_inj.1 h3
          have w1 := word_eq x hx
          have w2 := word_eq (itV way x) (itV_lt way x)
          rw [h4, h.1] at w2
          rw [w2]; exact w1.symm
        rw [e]
      · rw [← wOk_itV way x hx n, itV_inf way x hx (by have := isN_false.1 n; omega)]
    · have h1 : wOk x = true := by
        rw [wOk_rk x hx, n]
        have hr : rk x = mg x ∨ rk x = -(mg x : Int) := by unfold rk; split <;> simp
        rw [decide_eq_true (by omega), decide_eq_true (by omega)]; rfl
      have e : mv 4841369599423283200 = 2 ^ 52 * one := mv_from_one 52 _ (by decide)
      have hl : mv (mg x) < 2 ^ 52 * one := by rw [← e]; exact mv_lt.2 (by omega)
      have hq : mv (mg x) / one < 2 ^ 52 := (Nat.div_lt_iff_lt_mul one_pos).2 hl
      have hc := cutq_le way (ng x) (mv (mg x)) one
      have h2 : cOk way x = true := by
        unfold cOk fin
        have h3 : -9223372036854775808 ≤ cq way x ∧ cq way x < 9223372036854775808 := by
          unfold cq
          generalize cutq way (ng x) (mv (mg x)) one = Q at *
          split <;> omega
        rw [decide_eq_true (by omega), decide_eq_true h3.1, decide_eq_true h3.2]; rfl
      rw [h1, h2]
  · rw [(cOk_nan way n).1, (wOk_nan hx n).1]
end Go.Proofs.Ytpncpbpdbdlamaa
