/-
  Doubles made whole, whole numbers made doubles, doubles as singles and back, products that are exact (plain numbers, no program).
-/
import Derived.Test.YtgbaaafikphafaaFlD
namespace Go.Proofs.Ytgbaaafikphafaa.Tf
open Ieee

/-- a number of at most so many bits, times a power of two, lies on a rung -/
theorem rep (p m c : Nat) (h : m ≤ 2 ^ (p + 1)) : ∃ r, mag p r = m * 2 ^ c := by
  have hp := pow_pos p
  have hp1 : 2 ^ (p + 1) = 2 * 2 ^ p := by rw [Nat.pow_succ]; omega
  by_cases h1 : m * 2 ^ c < 2 ^ p
  · refine ⟨m * 2 ^ c, ?_⟩
    unfold mag; rw [if_pos h1]
  · by_cases h2 : m = 2 ^ (p + 1)
    · refine ⟨(c + 2) * 2 ^ p, ?_⟩
      unfold mag
      have : ¬ (c + 2) * 2 ^ p < 2 ^ p := by
        have : 1 * 2 ^ p ≤ (c + 2) * 2 ^ p := Nat.mul_le_mul_right _ (by omega)
        omega
      rw [if_neg this, Nat.mul_mod_left, Nat.mul_div_cancel _ hp, Nat.add_zero, h2, ← Nat.pow_add, ← Nat.pow_add]
      congr 1; omega
    · have hm0 : m ≠ 0 := by intro h0; subst h0; rw [Nat.zero_mul] at h1; omega
      have hl1 := Nat.log2_self_le hm0
      have hl2 : m < 2 ^ (m.log2 + 1) := Nat.lt_log2_self
      have hlp : m.log2 ≤ p := log2_small (show m < 2 ^ (p + 1) by omega)
      have hlc : p ≤ m.log2 + c := by
        by_cases c' : p ≤ m.log2 + c
        · exact c'
        · exfalso
          have : m * 2 ^ c < 2 ^ (m.log2 + 1) * 2 ^ c := (Nat.mul_lt_mul_right (pow_pos c)).2 hl2
          rw [← Nat.pow_add] at this
          have h3 : 2 ^ (m.log2 + 1 + c) ≤ 2 ^ p := Nat.pow_le_pow_right (by omega) (by omega)
          omega
      obtain ⟨k, hk⟩ : ∃ k, m.log2 + c = p + k := ⟨m.log2 + c - p, by omega⟩
      have hM1 : 2 ^ p ≤ m * 2 ^ (p - m.log2) := by
        have : 2 ^ p = 2 ^ m.log2 * 2 ^ (p - m.log2) := by rw [← Nat.pow_add]; congr 1; omega
        rw [this]; exact Nat.mul_le_mul_right _ hl1
      have hM2 : m * 2 ^ (p - m.log2) < 2 * 2 ^ p := by
        have : 2 * 2 ^ p = 2 ^ (m.log2 + 1) * 2 ^ (p - m.log2) := by rw [← hp1, ← Nat.pow_add]; congr 1; omega
        rw [this]; exact (Nat.mul_lt_mul_right (pow_pos _)).2 hl2
      have hMk : m * 2 ^ (p - m.log2) * 2 ^ k = m * 2 ^ c := by
        rw [Nat.mul_assoc, ← Nat.pow_add]; congr 2; omega
      generalize m * 2 ^ (p - m.log2) = M at *
      refine ⟨(M - 2 ^ p) + 2 ^ p * (k + 1), ?_⟩
      unfold mag
      have hge : ¬ (M - 2 ^ p) + 2 ^ p * (k + 1) < 2 ^ p := by
        have : 2 ^ p * 1 ≤ 2 ^ p * (k + 1) := Nat.mul_le_mul_left _ (by omega)
        omega
      rw [if_neg hge, Nat.add_mul_mod_self_left, Nat.add_mul_div_left _ _ hp, Nat.mod_eq_of_lt (show M - 2 ^ p < 2 ^ p by omega), Nat.div_eq_of_lt (show M - 2 ^ p < 2 ^ p by omega)]
      rw [show 2 ^ p + (M - 2 ^ p) = M by omega, show 0 + (k + 1) - 1 = k by omega, hMk]

theorem rung_scale (p d c V : Nat) : rung p (d + c) (V * 2 ^ c) = rung p d V := by
  by_cases h : V = 0
  · subst h; rw [Nat.zero_mul]; unfold rung rne; simp
  · unfold rung
    rw [log2_mul_pow V c h]
    have e : V.log2 + c - (p + (d + c)) = V.log2 - (p + d) := by omega
    rw [e, ← Nat.add_assoc, Nat.pow_add 2 _ c, rne_scale _ _ _ (pow_pos c)]

/-- n / g made whole, each way -/
def cutq (way : Toward) (neg : Bool) (n g : Nat) : Nat :=
  n / g + (match way with
    | .even => decide (g < 2 * (n % g) ∨ (g = 2 * (n % g) ∧ n / g % 2 = 1))
    | .down => neg && decide (n % g ≠ 0)
    | .up => !neg && decide (n % g ≠ 0)
    | .zero => false).toNat

theorem cutq_even (neg : Bool) (n g : Nat) : cutq .even neg n g = rne n g := by
  unfold cutq rne
  by_cases h : g < 2 * (n % g) ∨ (g = 2 * (n % g) ∧ n / g % 2 = 1)
  · rw [if_pos h, decide_eq_true h]; rfl
  · rw [if_neg h, decide_eq_false h]; rfl
theorem cutq_zero (neg : Bool) (n g : Nat) : cutq .zero neg n g = n / g := rfl

theorem cut_gen (way : Toward) (neg : Bool) (n d : Nat) : way.cut neg n d = cutq way neg n (2 ^ d) := by
  cases way
  · rw [cut_even, cutq_even]
  all_goals
    unfold Toward.cut cutq
    try simp only [Bool.toNat_false, Nat.add_zero]
    simp only [shl_one]
    by_cases h : d ≤ n.log2 + 2
    · rw [Nat.min_eq_left h]
      try simp [bne, BEq.beq]
    · rw [Nat.min_eq_right (by omega)]
      have h1 : n < 2 ^ (n.log2 + 1) := Nat.lt_log2_self
      have h2 : 2 ^ (n.log2 + 2) = 2 * 2 ^ (n.log2 + 1) := by rw [Nat.pow_succ]; omega
      have h3 : 2 ^ (n.log2 + 2) ≤ 2 ^ d := Nat.pow_le_pow_right (by omega) (by omega)
      have q1 : n / 2 ^ (n.log2 + 2) = 0 := Nat.div_eq_of_lt (by omega)
      have q2 : n / 2 ^ d = 0 := Nat.div_eq_of_lt (by omega)
      have r1 : n % 2 ^ (n.log2 + 2) = n := Nat.mod_eq_of_lt (by omega)
      have r2 : n % 2 ^ d = n := Nat.mod_eq_of_lt (by omega)
      rw [q1, q2]
      try rw [r1, r2]
      try simp [bne, BEq.beq]

theorem cutq_mul (way : Toward) (neg : Bool) (q g : Nat) (hg : 0 < g) : cutq way neg (q * g) g = q := by
  unfold cutq
  rw [Nat.mul_mod_left, Nat.mul_div_cancel _ hg]
  have : ¬ (g < 2 * 0 ∨ g = 2 * 0 ∧ q % 2 = 1) := by omega
  cases way
  · rw [decide_eq_false this]; rfl
  all_goals simp
theorem cutq_scale (way : Toward) (neg : Bool) (n g c : Nat) (hc : 0 < c) : cutq way neg (n * c) (g * c) = cutq way neg n g := by
  unfold cutq
  rw [Nat.mul_div_mul_right _ _ hc, Nat.mul_mod_mul_right]
  have e1 : (g * c < 2 * (n % g * c)) ↔ g < 2 * (n % g) := by
    rw [← Nat.mul_assoc]; exact Nat.mul_lt_mul_right hc
  have e2 : (g * c = 2 * (n % g * c)) ↔ g = 2 * (n % g) := by
    rw [← Nat.mul_assoc]; exact Nat.mul_left_inj (by omega)
  have e3 : (n % g * c ≠ 0) ↔ n % g ≠ 0 := by
    rw [Ne, Nat.mul_eq_zero]; omega
  simp only [e1, e2, e3]
theorem cutq_le (way : Toward) (neg : Bool) (n g : Nat) : cutq way neg n g ≤ n / g + 1 := by
  unfold cutq
  generalize (match way with
    | .even => decide (g < 2 * (n % g) ∨ (g = 2 * (n % g) ∧ n / g % 2 = 1))
    | .down => neg && decide (n % g ≠ 0)
    | .up => !neg && decide (n % g ≠ 0)
    | .zero => false) = b
  cases b <;> simp

/-- a finite word made whole: the number -/
theorem integral_fin (f : Format) (way : Toward) (x d : Nat) (hd : f.leastPlace = -(d : Int)) (hx : rg f x < f.infRung) :
    (f.read x).integral way = .number (sg f x) (cutq way (sg f x) (mag f.fractionBits (rg f x)) (2 ^ d)) 0 := by
  obtain ⟨m, a, e, v⟩ := read_fin f x hx
  rw [e, ← v]
  simp only [Datum.integral, cut_gen, shl]
  congr 1
  rw [hd]
  by_cases c : d ≤ a
  · have h1 : (-(d : Int) + (a : Int)).toNat = a - d := by omega
    have h2 : (-(-(d : Int) + (a : Int))).toNat = 0 := by omega
    rw [h1, h2]
    have : m * 2 ^ a = m * 2 ^ (a - d) * 2 ^ d := by rw [Nat.mul_assoc, ← Nat.pow_add]; congr 2; omega
    rw [this, cutq_mul _ _ _ _ (pow_pos d), Nat.pow_zero]
    have := cutq_mul way (sg f x) (m * 2 ^ (a - d)) 1 (by omega)
    rwa [Nat.mul_one] at this
  · have h1 : (-(d : Int) + (a : Int)).toNat = 0 := by omega
    have h2 : (-(-(d : Int) + (a : Int))).toNat = d - a := by omega
    rw [h1, h2, Nat.pow_zero, Nat.mul_one]
    have : 2 ^ d = 2 ^ (d - a) * 2 ^ a := by rw [← Nat.pow_add]; congr 1; omega
    rw [this, cutq_scale _ _ _ _ _ (pow_pos a)]

/-- so many places above the least one: the nearest word of a whole number of them -/
theorem nearest_up (f : Format) (neg : Bool) (q d : Nat) (place : Int) (hp : place = f.leastPlace + d) : f.nearest neg q place = f.word neg (min (rung f.fractionBits 0 (q * 2 ^ d)) f.infRung) := by
  have := nearest_rung f neg (q * 2 ^ d) 0
  rw [show f.leastPlace - ((0 : Nat) : Int) = f.leastPlace from by omega, nearest_scale] at this
  rw [hp, this]

/-- what 1 is in units of 2 ^ -1074 -/
def one : Nat := mv 4607182418800017408
theorem mv_exp (e f : Nat) (h : f < 2 ^ 52) : mv ((e + 1) * 2 ^ 52 + f) = (2 ^ 52 + f) * 2 ^ e := by
  have hp := pow_pos 52
  unfold mv mag
  rw [if_neg (by omega), Nat.add_comm ((e + 1) * 2 ^ 52) f, Nat.add_mul_mod_self_right, Nat.add_mul_div_right _ _ hp, Nat.mod_eq_of_lt h, Nat.div_eq_of_lt h]
  congr 2; omega
theorem mv_two_pow (e r : Nat) (h : r = (e + 1) * 2 ^ 52) : mv r = 2 ^ (52 + e) := by
  have := mv_exp e 0 (pow_pos 52)
  simp only [Nat.add_zero] at this
  rwa [← h, ← Nat.pow_add] at this
/-- the place of the last unit -/
def K : Nat := 1074
theorem K_eq : K = 1074 := rfl
theorem lp_K : double.leastPlace = -(K : Int) := by rw [K_eq]; decide
theorem one_pow : one = 2 ^ K := by
  have h := mv_two_pow (K - 52) 4607182418800017408 (by rw [K_eq])
  have e : 52 + (K - 52) = K := by rw [K_eq]
  rw [e] at h; exact h
theorem one_pos : 0 < one := by rw [one_pow]; exact pow_pos _
/-- a power of two from 1 on -/
theorem mv_from_one (k r : Nat) (h : r = (k + 1023) * 2 ^ 52) : mv r = 2 ^ k * one := by
  have hK := K_eq
  have e : 52 + (k + (K - 52)) = k + K := by omega
  have e2 : k + 1023 = k + (K - 52) + 1 := by omega
  rw [e2] at h
  have := mv_two_pow (k + (K - 52)) r h
  rw [this, e, Nat.pow_add, one_pow]

/-- from 2 ^ 52 on a double is a whole number -/
theorem whole_great (r : Nat) (h : 4841369599423283200 ≤ r) : ∃ q, mv r = q * one := by
  have hK := K_eq
  refine ⟨(2 ^ 52 + r % 2 ^ 52) * 2 ^ (r / 2 ^ 52 - (K + 1)), ?_⟩
  unfold mv mag
  have h1 : ¬ r < 2 ^ 52 := by omega
  have h2 : 1075 ≤ r / 2 ^ 52 := (Nat.le_div_iff_mul_le (pow_pos 52)).2 (by omega)
  rw [if_neg h1, one_pow, Nat.mul_assoc, ← Nat.pow_add]
  congr 2; omega

/-- what lies under a whole number q of at most 2 ^ 53 -/
theorem rep_one (q : Nat) (h : q ≤ 9007199254740992) : ∃ r, mv r = q * one ∧ r ≤ 4845873199050653696 := by
  obtain ⟨r, hr⟩ := rep 52 q K (by omega)
  rw [← one_pow] at hr
  refine ⟨r, hr, ?_⟩
  have e : mv 4845873199050653696 = 2 ^ 53 * one := mv_from_one 53 _ (by decide)
  have : mv r ≤ mv 4845873199050653696 := by
    show mag 52 r ≤ _
    rw [hr, e]; exact Nat.mul_le_mul_right _ (by omega)
  exact mv_le.1 this

/-- A FINITE DOUBLE MADE WHOLE. -/
theorem integral_d (way : Toward) (x : Nat) (hx : x < 18446744073709551616) (fx : mg x < 9218868437227405312) :
    ∃ r, r < 9218868437227405312 ∧ mv r = cutq way (ng x) (mv (mg x)) one * one ∧ double.write ((double.read x).integral way) = if ng x then 9223372036854775808 + r else r := by
  have ei := d_inf
  have h1 : ∃ r, r < 9218868437227405312 ∧ mv r = cutq way (ng x) (mv (mg x)) one * one := by
    by_cases c : 4841369599423283200 ≤ mg x
    · obtain ⟨q, hq⟩ := whole_great (mg x) c
      refine ⟨mg x, fx, ?_⟩
      rw [hq, cutq_mul _ _ _ _ one_pos]
    · have e : mv 4841369599423283200 = 2 ^ 52 * one := mv_from_one 52 _ (by decide)
      have hl : mv (mg x) < 2 ^ 52 * one := by rw [← e]; exact mv_lt.2 (by omega)
      have hq : mv (mg x) / one < 2 ^ 52 := (Nat.div_lt_iff_lt_mul one_pos).2 hl
      have hc := cutq_le way (ng x) (mv (mg x)) one
      obtain ⟨r, e', hr⟩ := rep_one (cutq way (ng x) (mv (mg x)) one) (by omega)
      exact ⟨r, by omega, e'⟩
  obtain ⟨r, hr, e⟩ := h1
  refine ⟨r, hr, e, ?_⟩
  rw [integral_fin double way x K lp_K (by rw [rg_d]; omega), sg_d x hx, rg_d]
  simp only [Format.write]
  rw [nearest_up double _ _ K 0 (by rw [lp_K]; omega), ← one_pow, d_inf, d_word, d_fb]
  have : cutq way (ng x) (mag 52 (mg x)) one * one = mv r := e.symm
  rw [this, rung_mv, Nat.min_eq_left (by omega)]

theorem toInt_d (x : Nat) (hx : x < 18446744073709551616) (fx : mg x < 9218868437227405312) :
    (double.read x).toInt .zero = some (if ng x then -((mv (mg x) / one : Nat) : Int) else ((mv (mg x) / one : Nat) : Int)) := by
  have ei := d_inf
  unfold Datum.toInt
  rw [integral_fin double .zero x K lp_K (by rw [rg_d]; omega), sg_d x hx, rg_d, d_fb, cutq_zero, ← one_pow]
  simp only [Ieee.signed, shl, Nat.pow_zero, Nat.mul_one]
  rfl

/-- A WHOLE NUMBER AS A DOUBLE. -/
theorem ofInt_d (n : Int) : double.write (.number (n < 0) n.natAbs 0) = rn false (n * one) := by
  simp only [Format.write]
  rw [nearest_up double _ _ K 0 (by rw [lp_K]; omega), ← one_pow, d_inf, d_word, d_fb]
  unfold rn
  have h1 : (n * (one : Int)).natAbs = n.natAbs * one := by rw [Int.natAbs_mul, Int.natAbs_natCast]
  have hp : (0 : Int) < one := by exact_mod_cast one_pos
  have h2 : (if n * (one : Int) = 0 then false else decide (n * (one : Int) < 0)) = decide (n < 0) := by
    by_cases c : n = 0
    · subst c; simp
    · have c' : ¬ n * (one : Int) = 0 := by rw [Int.mul_eq_zero]; omega
      rw [if_neg c']
      have : n * (one : Int) < 0 ↔ n < 0 := by
        have : n * (one : Int) < 0 * (one : Int) ↔ n < 0 := Int.mul_lt_mul_right hp
        rwa [Int.zero_mul] at this
      exact decide_eq_decide.2 this
  rw [h1, h2]

/-- an exact product with a positive factor -/
theorem mul_exact (x y r : Nat) (hx : x < 18446744073709551616) (fx : mg x < 9218868437227405312) (hy : y < 9218868437227405312) (hr : r ≤ 9218868437227405312) (e : mv (mg x) * mv y = mv r * one) :
    double.mul x y = some (if ng x then 9223372036854775808 + r else r) := by
  have hK : (1074 : Nat) = K := rfl
  rw [mul_d x y hx (by omega) fx (by rw [mg_of_lt (by omega)]; exact hy), ng_of_lt (show y < 9223372036854775808 by omega), mg_of_lt (show y < 9223372036854775808 by omega), e, one_pow, hK]
  have : rung 52 K (mv r * 2 ^ K) = r := rung_mag 52 K r (by omega)
  rw [this, Nat.min_eq_left hr, Bool.xor_false]

end Go.Proofs.Ytgbaaafikphafaa.Tf
