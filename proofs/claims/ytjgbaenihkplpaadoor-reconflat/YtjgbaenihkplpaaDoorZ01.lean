/-
  Some of the texts of this proof, one behind the other.
-/
import Derived.Test.YtjgbaenihkplpaaDoorZ00
/-
  Doubles made whole, whole numbers made doubles, doubles as singles and back, products that are exact (plain numbers, no program).
-/
namespace Go.Proofs.YtjgbaenihkplpaaDoor.Tf
open Ieee

/-- a number of at most so many bits, times a power of two, lies on a rung -/
theorem rep (p m c : Nat) (h : m ≤ 2 ^ (p + 1)) : ∃ r, mag p r = m * 2 ^ c := by
  have hp := pow_pos p
  have hp1 : 2 ^ (p + 1) = 2 * 2 ^ p := by rw [Nat.pow_succ]; omega
  by_cases h1 : m * 2 ^ c < 2 ^ p
  · refine ⟨m * 2 ^ c, ?_⟩
    unfold mag; rw [if_pos h1]
  · by_cases h2 : m = 2 ^ (p + 1)
    · refine ⟨(c + 2) * 2 ^ p, ?_⟩
      unfold mag
      have : ¬ (c + 2) * 2 ^ p < 2 ^ p := by
        have : 1 * 2 ^ p ≤ (c + 2) * 2 ^ p := Nat.mul_le_mul_right _ (by omega)
        omega
      rw [if_neg this, Nat.mul_mod_left, Nat.mul_div_cancel _ hp, Nat.add_zero, h2, ← Nat.pow_add, ← Nat.pow_add]
      congr 1; omega
    · have hm0 : m ≠ 0 := by intro h0; subst h0; rw [Nat.zero_mul] at h1; omega
      have hl1 := Nat.log2_self_le hm0
      have hl2 : m < 2 ^ (m.log2 + 1) := Nat.lt_log2_self
      have hlp : m.log2 ≤ p := log2_small (show m < 2 ^ (p + 1) by omega)
      have hlc : p ≤ m.log2 + c := by
        by_cases c' : p ≤ m.log2 + c
        · exact c'
        · exfalso
          have : m * 2 ^ c < 2 ^ (m.log2 + 1) * 2 ^ c := (Nat.mul_lt_mul_right (pow_pos c)).2 hl2
          rw [← Nat.pow_add] at this
          have h3 : 2 ^ (m.log2 + 1 + c) ≤ 2 ^ p := Nat.pow_le_pow_right (by omega) (by omega)
          omega
      obtain ⟨k, hk⟩ : ∃ k, m.log2 + c = p + k := ⟨m.log2 + c - p, by omega⟩
      have hM1 : 2 ^ p ≤ m * 2 ^ (p - m.log2) := by
        have : 2 ^ p = 2 ^ m.log2 * 2 ^ (p - m.log2) := by rw [← Nat.pow_add]; congr 1; omega
        rw [this]; exact Nat.mul_le_mul_right _ hl1
      have hM2 : m * 2 ^ (p - m.log2) < 2 * 2 ^ p := by
        have : 2 * 2 ^ p = 2 ^ (m.log2 + 1) * 2 ^ (p - m.log2) := by rw [← hp1, ← Nat.pow_add]; congr 1; omega
        rw [this]; exact (Nat.mul_lt_mul_right (pow_pos _)).2 hl2
      have hMk : m * 2 ^ (p - m.log2) * 2 ^ k = m * 2 ^ c := by
        rw [Nat.mul_assoc, ← Nat.pow_add]; congr 2; omega
      generalize m * 2 ^ (p - m.log2) = M at *
      refine ⟨(M - 2 ^ p) + 2 ^ p * (k + 1), ?_⟩
      unfold mag
      have hge : ¬ (M - 2 ^ p) + 2 ^ p * (k + 1) < 2 ^ p := by
        have : 2 ^ p * 1 ≤ 2 ^ p * (k + 1) := Nat.mul_le_mul_left _ (by omega)
        omega
      rw [if_neg hge, Nat.add_mul_mod_self_left, Nat.add_mul_div_left _ _ hp, Nat.mod_eq_of_lt (show M - 2 ^ p < 2 ^ p by omega), Nat.div_eq_of_lt (show M - 2 ^ p < 2 ^ p by omega)]
      rw [show 2 ^ p + (M - 2 ^ p) = M by omega, show 0 + (k + 1) - 1 = k by omega, hMk]

theorem rung_scale (p d c V : Nat) : rung p (d + c) (V * 2 ^ c) = rung p d V := by
  by_cases h : V = 0
  · subst h; rw [Nat.zero_mul]; unfold rung rne; simp
  · unfold rung
    rw [log2_mul_pow V c h]
    have e : V.log2 + c - (p + (d + c)) = V.log2 - (p + d) := by omega
    rw [e, ← Nat.add_assoc, Nat.pow_add 2 _ c, rne_scale _ _ _ (pow_pos c)]

/-- n / g made whole, each way -/
def cutq (way : Toward) (neg : Bool) (n g : Nat) : Nat :=
  n / g + (match way with
    | .even => decide (g < 2 * (n % g) ∨ (g = 2 * (n % g) ∧ n / g % 2 = 1))
    | .down => neg && decide (n % g ≠ 0)
    | .up => !neg && decide (n % g ≠ 0)
    | .zero => false).toNat

theorem cutq_even (neg : Bool) (n g : Nat) : cutq .even neg n g = rne n g := by
  unfold cutq rne
  by_cases h : g < 2 * (n % g) ∨ (g = 2 * (n % g) ∧ n / g % 2 = 1)
  · rw [if_pos h, decide_eq_true h]; rfl
  · rw [if_neg h, decide_eq_false h]; rfl
theorem cutq_zero (neg : Bool) (n g : Nat) : cutq .zero neg n g = n / g := rfl

theorem cut_gen (way : Toward) (neg : Bool) (n d : Nat) : way.cut neg n d = cutq way neg n (2 ^ d) := by
  cases way
  · rw [cut_even, cutq_even]
  all_goals
    unfold Toward.cut cutq
    try simp only [Bool.toNat_false, Nat.add_zero]
    simp only [shl_one]
    by_cases h : d ≤ n.log2 + 2
    · rw [Nat.min_eq_left h]
      try simp [bne, BEq.beq]
    · rw [Nat.min_eq_right (by omega)]
      have h1 : n < 2 ^ (n.log2 + 1) := Nat.lt_log2_self
      have h2 : 2 ^ (n.log2 + 2) = 2 * 2 ^ (n.log2 + 1) := by rw [Nat.pow_succ]; omega
      have h3 : 2 ^ (n.log2 + 2) ≤ 2 ^ d := Nat.pow_le_pow_right (by omega) (by omega)
      have q1 : n / 2 ^ (n.log2 + 2) = 0 := Nat.div_eq_of_lt (by omega)
      have q2 : n / 2 ^ d = 0 := Nat.div_eq_of_lt (by omega)
      have r1 : n % 2 ^ (n.log2 + 2) = n := Nat.mod_eq_of_lt (by omega)
      have r2 : n % 2 ^ d = n := Nat.mod_eq_of_lt (by omega)
      rw [q1, q2]
      try rw [r1, r2]
      try simp [bne, BEq.beq]

theorem cutq_mul (way : Toward) (neg : Bool) (q g : Nat) (hg : 0 < g) : cutq way neg (q * g) g = q := by
  unfold cutq
  rw [Nat.mul_mod_left, Nat.mul_div_cancel _ hg]
  have : ¬ (g < 2 * 0 ∨ g = 2 * 0 ∧ q % 2 = 1) := by omega
  cases way
  · rw [decide_eq_false this]; rfl
  all_goals simp
theorem cutq_scale (way : Toward) (neg : Bool) (n g c : Nat) (hc : 0 < c) : cutq way neg (n * c) (g * c) = cutq way neg n g := by
  unfold cutq
  rw [Nat.mul_div_mul_right _ _ hc, Nat.mul_mod_mul_right]
  have e1 : (g * c < 2 * (n % g * c)) ↔ g < 2 * (n % g) := by
    rw [← Nat.mul_assoc]; exact Nat.mul_lt_mul_right hc
  have e2 : (g * c = 2 * (n % g * c)) ↔ g = 2 * (n % g) := by
    rw [← Nat.mul_assoc]; exact Nat.mul_left_inj (by omega)
  have e3 : (n % g * c ≠ 0) ↔ n % g ≠ 0 := by
    rw [Ne, Nat.mul_eq_zero]; omega
  simp only [e1, e2, e3]
theorem cutq_le (way : Toward) (neg : Bool) (n g : Nat) : cutq way neg n g ≤ n / g + 1 := by
  unfold cutq
  generalize (match way with
    | .even => decide (g < 2 * (n % g) ∨ (g = 2 * (n % g) ∧ n / g % 2 = 1))
    | .down => neg && decide (n % g ≠ 0)
    | .up => !neg && decide (n % g ≠ 0)
    | .zero => false) = b
  cases b <;> simp

/-- a finite word made whole: the number -/
theorem integral_fin (f : Format) (way : Toward) (x d : Nat) (hd : f.leastPlace = -(d : Int)) (hx : rg f x < f.infRung) :
    (f.read x).integral way = .number (sg f x) (cutq way (sg f x) (mag f.fractionBits (rg f x)) (2 ^ d)) 0 := by
  obtain ⟨m, a, e, v⟩ := read_fin f x hx
  rw [e, ← v]
  simp only [Datum.integral, cut_gen, shl]
  congr 1
  rw [hd]
  by_cases c : d ≤ a
  · have h1 : (-(d : Int) + (a : Int)).toNat = a - d := by omega
    have h2 : (-(-(d : Int) + (a : Int))).toNat = 0 := by omega
    rw [h1, h2]
    have : m * 2 ^ a = m * 2 ^ (a - d) * 2 ^ d := by rw [Nat.mul_assoc, ← Nat.pow_add]; congr 2; omega
    rw [this, cutq_mul _ _ _ _ (pow_pos d), Nat.pow_zero]
    have := cutq_mul way (sg f x) (m * 2 ^ (a - d)) 1 (by omega)
    rwa [Nat.mul_one] at this
  · have h1 : (-(d : Int) + (a : Int)).toNat = 0 := by omega
    have h2 : (-(-(d : Int) + (a : Int))).toNat = d - a := by omega
    rw [h1, h2, Nat.pow_zero, Nat.mul_one]
    have : 2 ^ d = 2 ^ (d - a) * 2 ^ a := by rw [← Nat.pow_add]; congr 1; omega
    rw [this, cutq_scale _ _ _ _ _ (pow_pos a)]

/-- so many places above the least one: the nearest word of a whole number of them -/
theorem nearest_up (f : Format) (neg : Bool) (q d : Nat) (place : Int) (hp : place = f.leastPlace + d) : f.nearest neg q place = f.word neg (min (rung f.fractionBits 0 (q * 2 ^ d)) f.infRung) := by
  have := nearest_rung f neg (q * 2 ^ d) 0
  rw [show f.leastPlace - ((0 : Nat) : Int) = f.leastPlace from by omega, nearest_scale] at this
  rw [hp, this]

/-- what 1 is in units of 2 ^ -1074 -/
def one : Nat := mv 4607182418800017408
theorem mv_exp (e f : Nat) (h : f < 2 ^ 52) : mv ((e + 1) * 2 ^ 52 + f) = (2 ^ 52 + f) * 2 ^ e := by
  have hp := pow_pos 52
  unfold mv mag
  rw [if_neg (by omega), Nat.add_comm ((e + 1) * 2 ^ 52) f, Nat.add_mul_mod_self_right, Nat.add_mul_div_right _ _ hp, Nat.mod_eq_of_lt h, Nat.div_eq_of_lt h]
  congr 2; omega
theorem mv_two_pow (e r : Nat) (h : r = (e + 1) * 2 ^ 52) : mv r = 2 ^ (52 + e) := by
  have := mv_exp e 0 (pow_pos 52)
  simp only [Nat.add_zero] at this
  rwa [← h, ← Nat.pow_add] at this
/-- the place of the last unit -/
def K : Nat := 1074
theorem K_eq : K = 1074 := rfl
theorem lp_K : double.leastPlace = -(K : Int) := by rw [K_eq]; decide
theorem one_pow : one = 2 ^ K := by
  have h := mv_two_pow (K - 52) 4607182418800017408 (by rw [K_eq])
  have e : 52 + (K - 52) = K := by rw [K_eq]
  rw [e] at h; exact h
theorem one_pos : 0 < one := by rw [one_pow]; exact pow_pos _
/-- a power of two from 1 on -/
theorem mv_from_one (k r : Nat) (h : r = (k + 1023) * 2 ^ 52) : mv r = 2 ^ k * one := by
  have hK := K_eq
  have e : 52 + (k + (K - 52)) = k + K := by omega
  have e2 : k + 1023 = k + (K - 52) + 1 := by omega
  rw [e2] at h
  have := mv_two_pow (k + (K - 52)) r h
  rw [this, e, Nat.pow_add, one_pow]

/-- from 2 ^ 52 on a double is a whole number -/
theorem whole_great (r : Nat) (h : 4841369599423283200 ≤ r) : ∃ q, mv r = q * one := by
  have hK := K_eq
  refine ⟨(2 ^ 52 + r % 2 ^ 52) * 2 ^ (r / 2 ^ 52 - (K + 1)), ?_⟩
  unfold mv mag
  have h1 : ¬ r < 2 ^ 52 := by omega
  have h2 : 1075 ≤ r / 2 ^ 52 := (Nat.le_div_iff_mul_le (pow_pos 52)).2 (by omega)
  rw [if_neg h1, one_pow, Nat.mul_assoc, ← Nat.pow_add]
  congr 2; omega

/-- what lies under a whole number q of at most 2 ^ 53 -/
theorem rep_one (q : Nat) (h : q ≤ 9007199254740992) : ∃ r, mv r = q * one ∧ r ≤ 4845873199050653696 := by
  obtain ⟨r, hr⟩ := rep 52 q K (by omega)
  rw [← one_pow] at hr
  refine ⟨r, hr, ?_⟩
  have e : mv 4845873199050653696 = 2 ^ 53 * one := mv_from_one 53 _ (by decide)
  have : mv r ≤ mv 4845873199050653696 := by
    show mag 52 r ≤ _
    rw [hr, e]; exact Nat.mul_le_mul_right _ (by omega)
  exact mv_le.1 this

/-- A FINITE DOUBLE MADE WHOLE. -/
theorem integral_d (way : Toward) (x : Nat) (hx : x < 18446744073709551616) (fx : mg x < 9218868437227405312) :
    ∃ r, r < 9218868437227405312 ∧ mv r = cutq way (ng x) (mv (mg x)) one * one ∧ double.write ((double.read x).integral way) = if ng x then 9223372036854775808 + r else r := by
  have ei := d_inf
  have h1 : ∃ r, r < 9218868437227405312 ∧ mv r = cutq way (ng x) (mv (mg x)) one * one := by
    by_cases c : 4841369599423283200 ≤ mg x
    · obtain ⟨q, hq⟩ := whole_great (mg x) c
      refine ⟨mg x, fx, ?_⟩
      rw [hq, cutq_mul _ _ _ _ one_pos]
    · have e : mv 4841369599423283200 = 2 ^ 52 * one := mv_from_one 52 _ (by decide)
      have hl : mv (mg x) < 2 ^ 52 * one := by rw [← e]; exact mv_lt.2 (by omega)
      have hq : mv (mg x) / one < 2 ^ 52 := (Nat.div_lt_iff_lt_mul one_pos).2 hl
      have hc := cutq_le way (ng x) (mv (mg x)) one
      obtain ⟨r, e', hr⟩ := rep_one (cutq way (ng x) (mv (mg x)) one) (by omega)
      exact ⟨r, by omega, e'⟩
  obtain ⟨r, hr, e⟩ := h1
  refine ⟨r, hr, e, ?_⟩
  rw [integral_fin double way x K lp_K (by rw [rg_d]; omega), sg_d x hx, rg_d]
  simp only [Format.write]
  rw [nearest_up double _ _ K 0 (by rw [lp_K]; omega), ← one_pow, d_inf, d_word, d_fb]
  have : cutq way (ng x) (mag 52 (mg x)) one * one = mv r := e.symm
  rw [this, rung_mv, Nat.min_eq_left (by omega)]

theorem toInt_d (x : Nat) (hx : x < 18446744073709551616) (fx : mg x < 9218868437227405312) :
    (double.read x).toInt .zero = some (if ng x then -((mv (mg x) / one : Nat) : Int) else ((mv (mg x) / one : Nat) : Int)) := by
  have ei := d_inf
  unfold Datum.toInt
  rw [integral_fin double .zero x K lp_K (by rw [rg_d]; omega), sg_d x hx, rg_d, d_fb, cutq_zero, ← one_pow]
  simp only [Ieee.signed, shl, Nat.pow_zero, Nat.mul_one]
  rfl

/-- A WHOLE NUMBER AS A DOUBLE. -/
theorem ofInt_d (n : Int) : double.write (.number (n < 0) n.natAbs 0) = rn false (n * one) := by
  simp only [Format.write]
  rw [nearest_up double _ _ K 0 (by rw [lp_K]; omega), ← one_pow, d_inf, d_word, d_fb]
  unfold rn
  have h1 : (n * (one : Int)).natAbs = n.natAbs * one := by rw [Int.natAbs_mul, Int.natAbs_natCast]
  have hp : (0 : Int) < one := by exact_mod_cast one_pos
  have h2 : (if n * (one : Int) = 0 then false else decide (n * (one : Int) < 0)) = decide (n < 0) := by
    by_cases c : n = 0
    · subst c; simp
    · have c' : ¬ n * (one : Int) = 0 := by rw [Int.mul_eq_zero]; omega
      rw [if_neg c']
      have : n * (one : Int) < 0 ↔ n < 0 := by
        have : n * (one : Int) < 0 * (one : Int) ↔ n < 0 := Int.mul_lt_mul_right hp
        rwa [Int.zero_mul] at this
      exact decide_eq_decide.2 this
  rw [h1, h2]

/-- an exact product with a positive factor -/
theorem mul_exact (x y r : Nat) (hx : x < 18446744073709551616) (fx : mg x < 9218868437227405312) (hy : y < 9218868437227405312) (hr : r ≤ 9218868437227405312) (e : mv (mg x) * mv y = mv r * one) :
    double.mul x y = some (if ng x then 9223372036854775808 + r else r) := by
  have hK : (1074 : Nat) = K := rfl
  rw [mul_d x y hx (by omega) fx (by rw [mg_of_lt (by omega)]; exact hy), ng_of_lt (show y < 9223372036854775808 by omega), mg_of_lt (show y < 9223372036854775808 by omega), e, one_pow, hK]
  have : rung 52 K (mv r * 2 ^ K) = r := rung_mag 52 K r (by omega)
  rw [this, Nat.min_eq_left hr, Bool.xor_false]

end Go.Proofs.YtjgbaenihkplpaaDoor.Tf

/-
  What the rounding of a sum takes away is a float, by plain numbers (no program).
-/
namespace Go.Proofs.YtjgbaenihkplpaaDoor
open Tf

/-- no rung lies nearer -/
theorem rung_nearest (p V t : Nat) (hp : 1 ≤ p) : ((V : Int) - (mag p (rung p 0 V) : Int)).natAbs ≤ ((V : Int) - (mag p t : Int)).natAbs := by
  obtain ⟨r, a, b⟩ := floor_ex p 0 V
  have e := rung_between p 0 r V hp a b
  rw [Nat.pow_zero, Nat.mul_one] at a b e
  rw [e]
  have ht : mag p t ≤ mag p r ∨ mag p (r + 1) ≤ mag p t := by
    by_cases c : t ≤ r
    · exact .inl (mag_le.2 c)
    · exact .inr (mag_le.2 (by omega))
  generalize mag p t = T at *
  split
  · generalize mag p (r + 1) = M1 at *
    generalize mag p r = M0 at *
    omega
  · generalize mag p (r + 1) = M1 at *
    generalize mag p r = M0 at *
    omega

/-- a finite double in units: a number of at most 53 bits times a power of two -/
theorem sv_form (x : Nat) : ∃ (A : Int) (k : Nat), A.natAbs ≤ 2 ^ 53 ∧ sv x = A * (2 ^ k : Nat) := by
  have h : ∃ m k : Nat, m ≤ 2 ^ 53 ∧ mv (mg x) = m * 2 ^ k := by
    unfold mv mag
    by_cases c : mg x < 2 ^ 52
    · exact ⟨mg x, 0, by omega, by rw [if_pos c]; omega⟩
    · refine ⟨2 ^ 52 + mg x % 2 ^ 52, mg x / 2 ^ 52 - 1, by omega, by rw [if_neg c]⟩
  obtain ⟨m, k, h1, h2⟩ := h
  unfold sv
  rw [h2, Int.natCast_mul]
  cases ng x
  · exact ⟨m, k, by omega, by simp⟩
  · exact ⟨-(m : Int), k, by omega, by simp [Int.neg_mul]⟩

/-- the rounded number, in units, where it is finite -/
theorem sv_rn (z : Bool) (v : Int) (h : mg (rn z v) < 9218868437227405312) : sv (rn z v) = if v < 0 then -(mv (rung 52 0 v.natAbs) : Int) else (mv (rung 52 0 v.natAbs) : Int) := by
  have hm := rn_mg z v
  have hr : rung 52 0 v.natAbs < 9218868437227405312 := by
    rw [hm] at h
    generalize rung 52 0 v.natAbs = r at *
    omega
  have hm' : mg (rn z v) = rung 52 0 v.natAbs := by rw [hm]; exact Nat.min_eq_left (by omega)
  by_cases c0 : v = 0
  · subst c0
    have e : rung 52 0 (Int.natAbs 0) = 0 := by rw [Int.natAbs_zero]; exact rung_zero
    unfold sv
    rw [hm', e, mv_zero]
    split <;> simp
  · unfold sv
    rw [hm']
    have e : rn z v = if decide (v < 0) then 9223372036854775808 + rung 52 0 v.natAbs else rung 52 0 v.natAbs := by
      unfold rn; rw [if_neg c0, Nat.min_eq_left (by omega)]
    by_cases c : v < 0
    · have e' : ng (rn z v) = true := by rw [e, decide_eq_true c, if_pos rfl]; exact ng_of_ge (by omega)
      rw [e', if_pos rfl, if_pos c]
    · have e' : ng (rn z v) = false := by rw [e, decide_eq_false c, if_neg (by decide)]; exact ng_of_lt (by omega)
      rw [e', if_neg (by decide), if_neg c]

/-- no double lies nearer to a number of units than the one that it is rounded to -/
theorem rn_nearest (z : Bool) (v : Int) (h : mg (rn z v) < 9218868437227405312) (y : Nat) : (v - sv (rn z v)).natAbs ≤ (v - sv y).natAbs := by
  have n := rung_nearest 52 v.natAbs
  have n1 := n (mg y) (by omega)
  have n0 := n 0 (by omega)
  rw [mag_zero] at n0
  rw [sv_rn z v h]
  unfold sv mv
  generalize mag 52 (rung 52 0 v.natAbs) = S at *
  generalize mag 52 (mg y) = T at *
  by_cases c : v < 0
  · rw [if_pos c]
    split <;> omega
  · rw [if_neg c]
    split <;> omega

/-- THE ERROR OF A ROUNDED SUM IS A DOUBLE. -/
theorem sum_error (a b : Nat) (z : Bool) (h : mg (rn z (sv a + sv b)) < 9218868437227405312) : ∃ r, mv r = (sv a + sv b - sv (rn z (sv a + sv b))).natAbs := by
  have na := rn_nearest z (sv a + sv b) h a
  have nb := rn_nearest z (sv a + sv b) h b
  obtain ⟨A, i, hA, eA⟩ := sv_form a
  obtain ⟨B, j, hB, eB⟩ := sv_form b
  obtain ⟨C, l, hC, eC⟩ := sv_form (rn z (sv a + sv b))
  generalize hs : sv (rn z (sv a + sv b)) = S at *
  have e1 : (sv a + sv b - sv a).natAbs = (sv b).natAbs := by omega
  have e2 : (sv a + sv b - sv b).natAbs = (sv a).natAbs := by omega
  rw [e1] at na
  rw [e2] at nb
  -- the lesser of the two powers
  obtain ⟨k, hk1, hk2, hk⟩ : ∃ k, k ≤ i ∧ k ≤ j ∧ (k = i ∨ k = j) := ⟨min i j, Nat.min_le_left _ _, Nat.min_le_right _ _, by omega⟩
  have mul : ∀ (X : Int) (t : Nat), k ≤ t → ∃ Y : Int, X * (2 ^ t : Nat) = Y * (2 ^ k : Nat) := by
    intro X t ht
    refine ⟨X * (2 ^ (t - k) : Nat), ?_⟩
    rw [Int.mul_assoc, ← Int.natCast_mul, ← Nat.pow_add, Nat.sub_add_cancel ht]
  obtain ⟨A', eA'⟩ := mul A i hk1
  obtain ⟨B', eB'⟩ := mul B j hk2
  have hp := pow_pos k
  have hsum : sv a + sv b = (A' + B') * (2 ^ k : Nat) := by rw [eA, eB, eA', eB', Int.add_mul]
  by_cases c : (A' + B').natAbs ≤ 2 ^ 53
  · -- the sum itself is a double
    obtain ⟨r, hr⟩ := rep 52 (A' + B').natAbs k c
    have hv : mv r = (sv a + sv b).natAbs := by
      rw [hsum, Int.natAbs_mul, Int.natAbs_natCast]; exact hr
    have hS := sv_rn z (sv a + sv b) h
    rw [hs, ← hv, rung_mv, hv] at hS
    refine ⟨0, ?_⟩
    rw [mv_zero, hS]
    split <;> omega
  · -- else the rounded sum is a multiple of the same power
    have hl : k ≤ l ∨ S = 0 ∨ ∃ D : Int, S = D * (2 ^ k : Nat) := by
      by_cases c2 : k ≤ l
      · exact .inl c2
      · right; right
        -- the rung of a number of at least 2 ^ (53 + k) units lies so high
        have hV : 2 ^ (53 + k) ≤ (sv a + sv b).natAbs := by
          rw [hsum, Int.natAbs_mul, Int.natAbs_natCast, Nat.pow_add]
          exact Nat.mul_le_mul_right _ (by omega)
        have hS := sv_rn z (sv a + sv b) h
        rw [hs] at hS
        obtain ⟨t, ht⟩ := rep 52 1 (53 + k) (by omega)
        rw [Nat.one_mul] at ht
        have hr : t ≤ rung 52 0 (sv a + sv b).natAbs := rung_ge (by omega) (by rw [ht, Nat.pow_zero, Nat.mul_one]; exact hV)
        generalize rung 52 0 (sv a + sv b).natAbs = r at *
        have hmr : 2 ^ (53 + k) ≤ mag 52 r := by rw [← ht]; exact mag_le.2 hr
        have key : ∃ D : Nat, mag 52 r = D * 2 ^ k := by
          unfold mag at hmr ⊢
          by_cases c3 : r < 2 ^ 52
          · exfalso
            rw [if_pos c3] at hmr
            have : 2 ^ 53 * 1 ≤ 2 ^ 53 * 2 ^ k := Nat.mul_le_mul_left _ hp
            rw [Nat.pow_add] at hmr
            omega
          · rw [if_neg c3] at hmr ⊢
            have hlt : (2 ^ 52 + r % 2 ^ 52) < 2 ^ 53 := by have := Nat.mod_lt r (pow_pos 52); omega
            have hk3 : k ≤ r / 2 ^ 52 - 1 := by
              by_cases c4 : k ≤ r / 2 ^ 52 - 1
              · exact c4
              · exfalso
                have h5 : 2 ^ (r / 2 ^ 52 - 1) ≤ 2 ^ k := Nat.pow_le_pow_right (by omega) (by omega)
                have h6 : (2 ^ 52 + r % 2 ^ 52) * 2 ^ (r / 2 ^ 52 - 1) < 2 ^ 53 * 2 ^ k := Nat.lt_of_le_of_lt (Nat.mul_le_mul_left _ h5) ((Nat.mul_lt_mul_right hp).2 hlt)
                rw [← Nat.pow_add] at h6
                omega
            refine ⟨(2 ^ 52 + r % 2 ^ 52) * 2 ^ (r / 2 ^ 52 - 1 - k), ?_⟩
            rw [Nat.mul_assoc, ← Nat.pow_add, Nat.sub_add_cancel hk3]
        obtain ⟨D, hD⟩ := key
        have hS2 : S = if sv a + sv b < 0 then -((D * 2 ^ k : Nat) : Int) else ((D * 2 ^ k : Nat) : Int) := by
          rw [hS]; unfold mv; rw [hD]
        rw [hS2]
        split
        · exact ⟨-(D : Int), by rw [Int.natCast_mul, Int.neg_mul]⟩
        · exact ⟨(D : Int), by rw [Int.natCast_mul]⟩
    have hD : ∃ D : Int, S = D * (2 ^ k : Nat) := by
      rcases hl with c2 | c2 | c2
      · obtain ⟨D, e⟩ := mul C l c2
        exact ⟨D, by rw [eC, e]⟩
      · exact ⟨0, by rw [c2]; simp⟩
      · exact c2
    obtain ⟨D, eD⟩ := hD
    have hE : sv a + sv b - S = (A' + B' - D) * (2 ^ k : Nat) := by rw [hsum, eD, ← Int.sub_mul]
    have hsmall : (sv a + sv b - S).natAbs ≤ 2 ^ 53 * 2 ^ k := by
      rcases hk with rfl | rfl
      · refine Nat.le_trans nb ?_
        rw [eA, Int.natAbs_mul, Int.natAbs_natCast]
        exact Nat.mul_le_mul_right _ hA
      · refine Nat.le_trans na ?_
        rw [eB, Int.natAbs_mul, Int.natAbs_natCast]
        exact Nat.mul_le_mul_right _ hB
    rw [hE, Int.natAbs_mul, Int.natAbs_natCast] at hsmall ⊢
    exact rep 52 _ k (Nat.le_of_mul_le_mul_right hsmall hp)
end Go.Proofs.YtjgbaenihkplpaaDoor

/-
  What the rounding of a product takes away is a float, if the product isn't too small, by plain numbers (no program).
-/
namespace Go.Proofs.YtjgbaenihkplpaaDoor
open Tf

theorem mv_form (r : Nat) : ∃ m k : Nat, m < 2 ^ 53 ∧ mv r = m * 2 ^ k := by
  unfold mv mag
  by_cases c : r < 2 ^ 52
  · exact ⟨r, 0, by omega, by rw [if_pos c]; omega⟩
  · refine ⟨2 ^ 52 + r % 2 ^ 52, r / 2 ^ 52 - 1, by omega, by rw [if_neg c]⟩
theorem pow_lt_iff {a b : Nat} : 2 ^ a < 2 ^ b ↔ a < b := by
  constructor
  · intro h
    by_cases c : a < b
    · exact c
    · have := Nat.pow_le_pow_right (n := 2) (by omega) (show b ≤ a by omega)
      omega
  · intro h; exact Nat.pow_lt_pow_right (by omega) h

theorem too_near (W P g M G : Nat) (hW : 0 < W) (hP : 0 < P) (hg : g ≤ (2 ^ 53 - 1) * (2 ^ 53 - 1)) (h1 : 2 ^ 105 * (W * 2 * P) ≤ M + G) (h2 : G ≤ 2 ^ 52 * (W * 2 * P)) (h3 : 2 * M + G ≤ 2 * (g * P)) : False := by
  have e : W * 2 * P = 2 * (W * P) := by rw [Nat.mul_comm W 2, Nat.mul_assoc]
  rw [e] at h1 h2
  have h4 : P ≤ W * P := Nat.le_mul_of_pos_left _ hW
  have h5 : g * P ≤ (2 ^ 53 - 1) * (2 ^ 53 - 1) * P := Nat.mul_le_mul_right _ hg
  generalize W * P = X at *
  generalize g * P = Z at *
  clear e hg hW
  omega

theorem no_step (M G : Nat) (h : 2 * ((M : Int) - ((M + G : Nat) : Int)).natAbs ≤ G) (h0 : 0 < G) : False := by omega

/-- THE ERROR OF A ROUNDED PRODUCT IS A DOUBLE, from 2 ^ -969 on (in units 2 ^ 105). -/
theorem prod_error (x y r : Nat) (hr : rung 52 K (mv x * mv y) = r) (h : 2 ^ 105 ≤ mv r) : ∃ t, mv t * one = (((mv x * mv y : Nat) : Int) - ((mv r * one : Nat) : Int)).natAbs := by
  obtain ⟨α, i, hα, eα⟩ := mv_form x
  obtain ⟨β, j, hβ, eβ⟩ := mv_form y
  obtain ⟨V, hV⟩ : ∃ V, mv x * mv y = V := ⟨_, rfl⟩
  rw [hV] at hr ⊢
  have eV : V = α * β * 2 ^ (i + j) := by
    rw [← hV, eα, eβ, Nat.pow_add]; simp only [Nat.mul_assoc, Nat.mul_left_comm]
  have hαβ : α * β ≤ (2 ^ 53 - 1) * (2 ^ 53 - 1) := Nat.mul_le_mul (by omega) (by omega)
  generalize α * β = g at *
  obtain ⟨kk, hkk⟩ : ∃ kk, i + j = kk := ⟨_, rfl⟩
  rw [hkk] at eV
  have hVlt : V < 2 ^ (106 + kk) := by
    rw [eV, Nat.pow_add]; exact (Nat.mul_lt_mul_right (pow_pos kk)).2 (by omega)
  obtain ⟨r0, a, b⟩ := floor_ex 52 K V
  have hb := rung_between 52 K r0 V (by omega) a b
  rw [hr, mag_succ] at hb
  rw [mag_succ] at b
  have hp := pow_pos K
  -- the rung below is a normal one
  have hr01 : r = r0 ∨ r = r0 + 1 := by rw [hb]; split <;> omega
  have hg0 : 2 ^ 104 ≤ mag 52 r0 := by
    by_cases c : 2 ^ 104 ≤ mag 52 r0
    · exact c
    · exfalso
      obtain ⟨t, ht⟩ := rep 52 1 104 (by omega)
      rw [Nat.one_mul] at ht
      have h1 : r0 + 1 ≤ t := mag_lt.1 (by rw [ht]; omega)
      have h2 : mag 52 (r0 + 1) ≤ mag 52 t := mag_le.2 h1
      have h3 : mv r ≤ mag 52 (r0 + 1) := by
        show mag 52 r ≤ _
        exact mag_le.2 (by omega)
      omega
  have hn : ¬ r0 < 2 ^ 52 := by
    intro c
    have : mag 52 r0 = r0 := by unfold mag; rw [if_pos c]
    omega
  obtain ⟨l, hl⟩ : ∃ l, r0 / 2 ^ 52 - 1 = l := ⟨_, rfl⟩
  have eg : gap 52 r0 = 2 ^ l := by unfold gap; rw [hl]
  have em : mag 52 r0 = (2 ^ 52 + r0 % 2 ^ 52) * 2 ^ l := by unfold mag; rw [if_neg hn, hl]
  rw [eg] at hb b
  -- how high the last bit of the rounded product stands
  have h1 : 2 ^ (52 + l + K) < 2 ^ (106 + kk) := by
    refine Nat.lt_of_le_of_lt ?_ hVlt
    refine Nat.le_trans ?_ a
    rw [em, Nat.pow_add, Nat.pow_add]
    exact Nat.mul_le_mul_right _ (Nat.mul_le_mul_right _ (by omega))
  have hlk : l + K ≤ 53 + kk := by have := pow_lt_iff.1 h1; omega
  -- the error in units of 2 ^ -2148
  obtain ⟨M, hM⟩ : ∃ M, mag 52 r0 * 2 ^ K = M := ⟨_, rfl⟩
  obtain ⟨G, hG⟩ : ∃ G, 2 ^ l * 2 ^ K = G := ⟨_, rfl⟩
  have hMr : mv r * one = M ∨ mv r * one = M + G := by
    rw [one_pow]
    rcases hr01 with e | e
    · left; rw [e]; exact hM
    · right
      rw [e]
      show mag 52 (r0 + 1) * 2 ^ K = _
      rw [mag_succ, eg, Nat.add_mul, hM, hG]
  rw [hM] at a
  rw [Nat.add_mul, hM, hG] at b
  have hbb : (mag 52 r0 + (mag 52 r0 + 2 ^ l)) * 2 ^ K = 2 * M + G := by
    rw [Nat.add_mul, Nat.add_mul, hM, hG]; omega
  rw [hbb] at hb
  have hErr : 2 * ((V : Int) - ((mv r * one : Nat) : Int)).natAbs ≤ G := by
    have hrv : (r = r0 + 1 → 2 * M + G ≤ 2 * V) ∧ (r = r0 → 2 * V ≤ 2 * M + G) := by
      refine ⟨fun e => ?_, fun e => ?_⟩
      · by_cases c : 2 * M + G < 2 * V ∨ (2 * M + G = 2 * V ∧ r0 % 2 = 1)
        · omega
        · rw [if_neg c] at hb; omega
      · by_cases c : 2 * M + G < 2 * V ∨ (2 * M + G = 2 * V ∧ r0 % 2 = 1)
        · rw [if_pos c] at hb; omega
        · omega
    rcases hr01 with e | e
    · have hm : mv r * one = M := by rw [e, one_pow]; exact hM
      rw [hm]
      have := hrv.2 e
      omega
    · have hm : mv r * one = M + G := by
        rw [e, one_pow]
        show mag 52 (r0 + 1) * 2 ^ K = _
        rw [mag_succ, eg, Nat.add_mul, hM, hG]
      rw [hm]
      have := hrv.1 e
      omega
  have eM : M = (2 ^ 52 + r0 % 2 ^ 52) * 2 ^ (l + K) := by rw [← hM, em, Nat.mul_assoc, ← Nat.pow_add]
  have eG : G = 2 ^ (l + K) := by rw [← hG, ← Nat.pow_add]
  by_cases c : kk ≤ l + K
  · -- all is a multiple of 2 ^ kk
    obtain ⟨q, hq⟩ : ∃ q, l + K = q + kk := ⟨l + K - kk, by omega⟩
    have hR : ∃ D, mv r * one = D * 2 ^ kk := by
      rcases hMr with e | e
      · exact ⟨(2 ^ 52 + r0 % 2 ^ 52) * 2 ^ q, by rw [e, eM, hq, Nat.pow_add, Nat.mul_assoc]⟩
      · exact ⟨(2 ^ 52 + r0 % 2 ^ 52 + 1) * 2 ^ q, by rw [e, eM, eG, hq, Nat.pow_add, Nat.mul_assoc, Nat.add_mul _ 1, Nat.one_mul]⟩
    obtain ⟨D, hD⟩ := hR
    have hE : ((V : Int) - ((mv r * one : Nat) : Int)) = ((g : Int) - (D : Int)) * ((2 ^ kk : Nat) : Int) := by
      rw [hD, eV, Int.natCast_mul, Int.natCast_mul, Int.sub_mul]
    have hε : ((g : Int) - (D : Int)).natAbs ≤ 2 ^ 52 := by
      have h2 : 2 * (((g : Int) - (D : Int)).natAbs * 2 ^ kk) ≤ 2 ^ (53 + kk) := by
        have e3 : ((V : Int) - ((mv r * one : Nat) : Int)).natAbs = ((g : Int) - (D : Int)).natAbs * 2 ^ kk := by rw [hE, Int.natAbs_mul, Int.natAbs_natCast]
        rw [← e3]
        refine Nat.le_trans hErr ?_
        rw [eG]
        exact Nat.pow_le_pow_right (by omega) hlk
      have e4 : 2 ^ (53 + kk) = 2 * (2 ^ 52 * 2 ^ kk) := by rw [Nat.pow_add, ← Nat.mul_assoc]
      rw [e4] at h2
      exact Nat.le_of_mul_le_mul_right (Nat.le_of_mul_le_mul_left h2 (by omega)) (pow_pos kk)
    -- the power is at least that of a unit
    have hkK : K ≤ kk := by
      by_cases c2 : K ≤ kk
      · exact c2
      · exfalso
        have hpk := pow_pos kk
        have hcase : 2 ^ 105 ≤ mag 52 r0 ∨ (mag 52 r0 < 2 ^ 105 ∧ r = r0 + 1) := by
          by_cases c3 : 2 ^ 105 ≤ mag 52 r0
          · exact .inl c3
          · right
            refine ⟨by omega, ?_⟩
            rcases hr01 with e | e
            · exfalso; rw [e] at h; exact c3 h
            · exact e
        obtain ⟨w, hw⟩ : ∃ w, K = w + kk + 1 := ⟨K - kk - 1, by omega⟩
        rcases hcase with c3 | ⟨c3, e⟩
        · have h5 : 2 ^ (105 + K) < 2 ^ (106 + kk) := by
            refine Nat.lt_of_le_of_lt ?_ hVlt
            refine Nat.le_trans ?_ a
            rw [← hM, Nat.pow_add]
            exact Nat.mul_le_mul_right _ c3
          have := pow_lt_iff.1 h5
          omega
        · -- the product was rounded up to 2 ^ 105 units: too near to it for two numbers of 53 bits
          have hl52 : l ≤ 52 := by
            by_cases c4 : l ≤ 52
            · exact c4
            · exfalso
              have h6 : 2 ^ 52 * 2 ^ 53 ≤ mag 52 r0 := by
                rw [em]
                exact Nat.mul_le_mul (by omega) (Nat.pow_le_pow_right (by omega) (by omega))
              omega
          have hup : 2 * M + G ≤ 2 * V := by
            by_cases c4 : 2 * M + G < 2 * V ∨ (2 * M + G = 2 * V ∧ r0 % 2 = 1)
            · omega
            · rw [if_neg c4] at hb; omega
          have hMG : 2 ^ 105 * 2 ^ K ≤ M + G := by
            have h7 : mv r * one = M + G := by
              rcases hMr with e2 | e2
              · exfalso
                rw [e, one_pow] at e2
                have h8 : mag 52 (r0 + 1) * 2 ^ K = M := e2
                rw [mag_succ, eg, Nat.add_mul, hM, hG] at h8
                have := pow_pos l
                have : 0 < G := by rw [eG]; exact pow_pos _
                omega
              · exact e2
            rw [← h7, one_pow]
            exact Nat.mul_le_mul_right _ h
          have hGle : G ≤ 2 ^ 52 * 2 ^ K := by
            rw [← hG]; exact Nat.mul_le_mul_right _ (Nat.pow_le_pow_right (by omega) hl52)
          -- in multiples of 2 ^ kk
          have e5 : 2 ^ K = 2 ^ w * 2 * 2 ^ kk := by rw [hw, show w + kk + 1 = w + 1 + kk by omega, Nat.pow_add, Nat.pow_succ]
          rw [e5] at hMG hGle
          rw [eV] at hup
          exact too_near (2 ^ w) (2 ^ kk) g M G (pow_pos w) hpk hαβ hMG hGle hup
    obtain ⟨t, ht⟩ := rep 52 ((g : Int) - (D : Int)).natAbs (kk - K) (by omega)
    refine ⟨t, ?_⟩
    rw [hE, Int.natAbs_mul, Int.natAbs_natCast, one_pow]
    show mag 52 t * 2 ^ K = _
    rw [ht, Nat.mul_assoc, ← Nat.pow_add, Nat.sub_add_cancel hkK]
  · -- the product is a multiple of the step: it is the rung itself
    obtain ⟨q, hq⟩ : ∃ q, kk = q + (l + K) := ⟨kk - (l + K), by omega⟩
    have hpl := pow_pos (l + K)
    have eV2 : V = g * 2 ^ q * 2 ^ (l + K) := by rw [eV, hq, Nat.pow_add, Nat.mul_assoc]
    rw [eV2, eM] at a
    rw [eV2, eM, eG] at b
    have a1 := Nat.le_of_mul_le_mul_right a hpl
    have b1 : g * 2 ^ q < 2 ^ 52 + r0 % 2 ^ 52 + 1 := by
      have : g * 2 ^ q * 2 ^ (l + K) < (2 ^ 52 + r0 % 2 ^ 52 + 1) * 2 ^ (l + K) := by rw [Nat.add_mul _ 1, Nat.one_mul]; exact b
      exact (Nat.mul_lt_mul_right hpl).1 this
    have e7 : g * 2 ^ q = 2 ^ 52 + r0 % 2 ^ 52 := Nat.le_antisymm (Nat.le_of_lt_succ b1) a1
    have e6 : V = M := by rw [eV2, eM, e7]
    have hG0 : 0 < G := by rw [eG]; exact hpl
    refine ⟨0, ?_⟩
    rw [mv_zero, Nat.zero_mul]
    rw [e6] at hErr ⊢
    rcases hMr with e | e
    · rw [e]; simp
    · exfalso
      rw [e] at hErr
      exact no_step M G hErr hG0
end Go.Proofs.YtjgbaenihkplpaaDoor

/-
  Rounded numbers in units of 2 ^ -1074: which are doubles, and how far rounding goes, by plain numbers (no program).
-/
namespace Go.Proofs.YtjgbaenihkplpaaDoor
open Tf

/-- a number of units that is a double's (or beyond them) -/
def isD (v : Int) : Prop := ∃ r, mv r = v.natAbs
/-- the rounded number, overflow aside -/
def rd (v : Int) : Int := if v < 0 then -(mv (rung 52 0 v.natAbs) : Int) else (mv (rung 52 0 v.natAbs) : Int)
/-- where the infinity begins -/
def top : Nat := mv 9218868437227405312

theorem rd_neg (v : Int) : rd (-v) = -rd v := by
  unfold rd
  rw [Int.natAbs_neg]
  by_cases c0 : v = 0
  · subst c0
    rw [Int.natAbs_zero, rung_zero, mv_zero]; rfl
  · by_cases c : v < 0
    · rw [if_pos c, if_neg (by omega)]; omega
    · rw [if_neg c, if_pos (by omega)]
theorem rd_abs (v : Int) : (rd v).natAbs = mv (rung 52 0 v.natAbs) := by
  unfold rd; split <;> omega
theorem rd_exact {v : Int} (h : isD v) : rd v = v := by
  obtain ⟨r, hr⟩ := h
  unfold rd
  rw [← hr, rung_mv, hr]
  split <;> omega
theorem isD_rd (v : Int) : isD (rd v) := ⟨_, (rd_abs v).symm⟩
theorem isD_neg {v : Int} (h : isD v) : isD (-v) := by
  obtain ⟨r, hr⟩ := h; exact ⟨r, by rw [Int.natAbs_neg]; exact hr⟩
theorem isD_sv (x : Nat) : isD (sv x) := ⟨mg x, by unfold sv; split <;> omega⟩
theorem isD_zero : isD 0 := ⟨0, by rw [mv_zero]; rfl⟩

theorem isD_of (v q : Int) (s c : Nat) (h : v * ((2 ^ s : Nat) : Int) = q * ((2 ^ c : Nat) : Int)) (hq : q.natAbs ≤ 2 ^ 53) : isD v := by
  have h' : v.natAbs * 2 ^ s = q.natAbs * 2 ^ c := by
    have := congrArg Int.natAbs h
    rwa [Int.natAbs_mul, Int.natAbs_mul, Int.natAbs_natCast, Int.natAbs_natCast] at this
  unfold isD
  generalize v.natAbs = n at *
  have key : ∃ r, mv r = n := by
    by_cases c1 : s ≤ c
    · have e : n = q.natAbs * 2 ^ (c - s) := by
        apply Nat.eq_of_mul_eq_mul_right (pow_pos s)
        rw [h', Nat.mul_assoc, ← Nat.pow_add, Nat.sub_add_cancel c1]
      rw [e]
      exact rep 52 _ _ hq
    · have e : n * 2 ^ (s - c) = q.natAbs := by
        apply Nat.eq_of_mul_eq_mul_right (pow_pos c)
        rw [← h', Nat.mul_assoc, ← Nat.pow_add, Nat.sub_add_cancel (by omega)]
      have hn : n ≤ 2 ^ 53 := by
        have := Nat.le_mul_of_pos_right n (pow_pos (s - c))
        omega
      obtain ⟨r, hr⟩ := rep 52 n 0 hn
      exact ⟨r, by rw [Nat.pow_zero, Nat.mul_one] at hr; exact hr⟩
  exact key

theorem rn_fin (z : Bool) (v : Int) (h : (rd v).natAbs < top) : mg (rn z v) < 9218868437227405312 ∧ sv (rn z v) = rd v := by
  rw [rd_abs] at h
  have h1 : rung 52 0 v.natAbs < 9218868437227405312 := mv_lt.1 h
  have h2 : mg (rn z v) < 9218868437227405312 := by
    rw [rn_mg]
    generalize rung 52 0 v.natAbs = r at *
    omega
  exact ⟨h2, sv_rn z v h2⟩
theorem rn_exact (z : Bool) (v : Int) (h : isD v) (ht : v.natAbs < top) : mg (rn z v) < 9218868437227405312 ∧ sv (rn z v) = v := by
  have := rn_fin z v (by rw [rd_exact h]; exact ht)
  rwa [rd_exact h] at this
theorem rn_fin' (z : Bool) (v : Int) (h : mg (rn z v) < 9218868437227405312) : sv (rn z v) = rd v := sv_rn z v h
theorem sv_top (x : Nat) (h : mg x < 9218868437227405312) : (sv x).natAbs < top := by
  have : mv (mg x) < top := mv_lt.2 h
  unfold sv; split <;> omega

/-- the form of a rung: few bits times a power of two -/
theorem norm (r : Nat) (h : 0 < r) : ∃ μ s k, mv r * 2 ^ s = μ * 2 ^ k ∧ 2 ^ 52 ≤ μ ∧ μ < 2 ^ 53 ∧ (∃ m, m < 2 ^ 53 ∧ mv r = m * 2 ^ k) ∧ k = r / 2 ^ 52 - 1 ∧ (s = 0 ∨ k = 0) := by
  by_cases c : r < 2 ^ 52
  · have e : mv r = r := by unfold mv mag; rw [if_pos c]
    have e0 : r / 2 ^ 52 - 1 = 0 := by omega
    have h1 : 2 ^ r.log2 ≤ r := Nat.log2_self_le (by omega)
    have h2 : r < 2 ^ (r.log2 + 1) := Nat.lt_log2_self
    have h3 : r.log2 ≤ 51 := log2_small (by omega)
    refine ⟨r * 2 ^ (52 - r.log2), 52 - r.log2, 0, by rw [e]; simp, ?_, ?_, ⟨r, by omega, by rw [e]; simp⟩, e0.symm, .inr rfl⟩
    · have : 2 ^ r.log2 * 2 ^ (52 - r.log2) ≤ r * 2 ^ (52 - r.log2) := Nat.mul_le_mul_right _ h1
      rwa [← Nat.pow_add, show r.log2 + (52 - r.log2) = 52 by omega] at this
    · have : r * 2 ^ (52 - r.log2) < 2 ^ (r.log2 + 1) * 2 ^ (52 - r.log2) := (Nat.mul_lt_mul_right (pow_pos _)).2 h2
      rwa [← Nat.pow_add, show r.log2 + 1 + (52 - r.log2) = 53 by omega] at this
  · have e : mv r = (2 ^ 52 + r % 2 ^ 52) * 2 ^ (r / 2 ^ 52 - 1) := by unfold mv mag; rw [if_neg c]
    refine ⟨2 ^ 52 + r % 2 ^ 52, 0, r / 2 ^ 52 - 1, by rw [e]; simp, by omega, by omega, ⟨2 ^ 52 + r % 2 ^ 52, by omega, e⟩, rfl, .inl rfl⟩

theorem close_step (V S P D0 : Nat) (h : D0 * P ≤ V) (h' : V < (D0 + 1) * P) (n0 : ((V : Int) - (S : Int)).natAbs ≤ ((V : Int) - ((D0 * P : Nat) : Int)).natAbs) (n1 : ((V : Int) - (S : Int)).natAbs ≤ ((V : Int) - (((D0 + 1) * P : Nat) : Int)).natAbs) : 2 * ((V : Int) - (S : Int)).natAbs ≤ P := by
  rw [Nat.add_mul, Nat.one_mul] at h' n1
  generalize D0 * P = M at *
  omega

/-- A NUMBER BETWEEN TWO POWERS OF TWO is rounded to a multiple of the step there, by at most half of it. -/
theorem round_step0 (g V : Nat) (h1 : 2 ^ (52 + g) ≤ V) (h2 : V ≤ 2 ^ (53 + g)) :
    ∃ D, mv (rung 52 0 V) = D * 2 ^ g ∧ 2 ^ 52 ≤ D ∧ D ≤ 2 ^ 53 ∧ 2 * ((V : Int) - ((D * 2 ^ g : Nat) : Int)).natAbs ≤ 2 ^ g := by
  have hp := pow_pos g
  have lo : 2 ^ 52 * 2 ^ g ≤ mv (rung 52 0 V) := by
    obtain ⟨t, ht⟩ := rep 52 (2 ^ 52) g (by omega)
    have : t ≤ rung 52 0 V := rung_ge (by omega) (by rw [ht, Nat.pow_zero, Nat.mul_one, ← Nat.pow_add]; exact h1)
    have := mv_le.2 this
    unfold mv at this ⊢
    rwa [ht] at this
  have hi : mv (rung 52 0 V) ≤ 2 ^ 53 * 2 ^ g := by
    obtain ⟨t, ht⟩ := rep 52 (2 ^ 53) g (by omega)
    have : rung 52 0 V ≤ t := rung_le (by omega) (by rw [ht, Nat.pow_zero, Nat.mul_one, ← Nat.pow_add]; exact h2)
    have := mv_le.2 this
    unfold mv at this ⊢
    rwa [ht] at this
  obtain ⟨m, k, hm, hk⟩ := mv_form (rung 52 0 V)
  have hgk : g ≤ k := by
    have h3 : 2 ^ (52 + g) < 2 ^ (53 + k) := by
      rw [Nat.pow_add, Nat.pow_add]
      rw [hk] at lo
      exact Nat.lt_of_le_of_lt lo ((Nat.mul_lt_mul_right (pow_pos k)).2 hm)
    have := pow_lt_iff.1 h3
    omega
  have hS : mv (rung 52 0 V) = m * 2 ^ (k - g) * 2 ^ g := by rw [hk, Nat.mul_assoc, ← Nat.pow_add, Nat.sub_add_cancel hgk]
  refine ⟨m * 2 ^ (k - g), hS, ?_, ?_, ?_⟩
  · rw [hS] at lo; exact Nat.le_of_mul_le_mul_right lo hp
  · rw [hS] at hi; exact Nat.le_of_mul_le_mul_right hi hp
  · rw [← hS]
    have hV1 : V / 2 ^ g * 2 ^ g ≤ V := Nat.div_mul_le_self _ _
    have hV2 : V < (V / 2 ^ g + 1) * 2 ^ g := by
      have := Nat.lt_div_mul_add hp (a := V)
      rw [Nat.add_mul, Nat.one_mul]; exact this
    have near : ∀ t, t ≤ 2 ^ 53 → ((V : Int) - (mv (rung 52 0 V) : Int)).natAbs ≤ ((V : Int) - ((t * 2 ^ g : Nat) : Int)).natAbs := by
      intro t ht
      obtain ⟨r, hr⟩ := rep 52 t g ht
      rw [← hr]
      exact rung_nearest 52 V r (by omega)
    have hD : V / 2 ^ g ≤ 2 ^ 53 := by
      rw [Nat.pow_add] at h2
      exact Nat.le_of_mul_le_mul_right (Nat.le_trans hV1 h2) hp
    by_cases c : V / 2 ^ g = 2 ^ 53
    · have e : V = 2 ^ 53 * 2 ^ g := by
        rw [c] at hV1
        rw [Nat.pow_add] at h2
        exact Nat.le_antisymm h2 hV1
      have n := near (2 ^ 53) (by omega)
      rw [← e] at n
      have z : ((V : Int) - (V : Int)).natAbs = 0 := by rw [Int.sub_self]; rfl
      rw [z] at n
      have n' : ((V : Int) - (mv (rung 52 0 V) : Int)).natAbs = 0 := Nat.le_zero.1 n
      rw [n']
      exact Nat.zero_le _
    · exact close_step V _ (2 ^ g) (V / 2 ^ g) hV1 hV2 (near _ hD) (near _ (by omega))

theorem round_step (s g V : Nat) (h1 : 2 ^ (52 + g) ≤ V * 2 ^ s) (h2 : V * 2 ^ s ≤ 2 ^ (53 + g)) :
    ∃ D, mv (rung 52 0 V) * 2 ^ s = D * 2 ^ g ∧ 2 ^ 52 ≤ D ∧ D ≤ 2 ^ 53 ∧ 2 * (((V * 2 ^ s : Nat) : Int) - ((D * 2 ^ g : Nat) : Int)).natAbs ≤ 2 ^ g := by
  have hp := pow_pos g
  have hs := pow_pos s
  by_cases c : g ≤ s
  · have hV : V ≤ 2 ^ 53 := by
      have h3 : V * 2 ^ s ≤ 2 ^ 53 * 2 ^ s := Nat.le_trans h2 (by rw [Nat.pow_add]; exact Nat.mul_le_mul_left _ (Nat.pow_le_pow_right (by omega) c))
      exact Nat.le_of_mul_le_mul_right h3 hs
    obtain ⟨r, hr⟩ := rep 52 V 0 hV
    rw [Nat.pow_zero, Nat.mul_one] at hr
    have e : mv (rung 52 0 V) = V := by
      have hr' : mv r = V := hr
      rw [← hr', rung_mv]
    have e2 : V * 2 ^ s = V * 2 ^ (s - g) * 2 ^ g := by rw [Nat.mul_assoc, ← Nat.pow_add, Nat.sub_add_cancel c]
    refine ⟨V * 2 ^ (s - g), by rw [e, e2], ?_, ?_, ?_⟩
    · rw [e2, Nat.pow_add] at h1; exact Nat.le_of_mul_le_mul_right h1 hp
    · rw [e2, Nat.pow_add] at h2; exact Nat.le_of_mul_le_mul_right h2 hp
    · rw [← e2, Int.sub_self]; exact Nat.zero_le _
  · obtain ⟨f, hf⟩ : ∃ f, g = f + s := ⟨g - s, by omega⟩
    subst hf
    have a1 : 2 ^ (52 + f) ≤ V := by
      rw [← Nat.add_assoc, Nat.pow_add] at h1
      exact Nat.le_of_mul_le_mul_right h1 hs
    have a2 : V ≤ 2 ^ (53 + f) := by
      rw [← Nat.add_assoc, Nat.pow_add] at h2
      exact Nat.le_of_mul_le_mul_right h2 hs
    obtain ⟨D, e, d1, d2, d3⟩ := round_step0 f V a1 a2
    refine ⟨D, by rw [e, Nat.mul_assoc, ← Nat.pow_add], d1, d2, ?_⟩
    rw [Nat.pow_add, ← Nat.mul_assoc, Int.natCast_mul, Int.natCast_mul (D * 2 ^ f), ← Int.sub_mul, Int.natAbs_mul, Int.natAbs_natCast, ← Nat.mul_assoc]
    exact Nat.mul_le_mul_right _ d3

theorem rd_step (s g : Nat) (v : Int) (h1 : 2 ^ (52 + g) ≤ v.natAbs * 2 ^ s) (h2 : v.natAbs * 2 ^ s ≤ 2 ^ (53 + g)) :
    ∃ D : Int, rd v * ((2 ^ s : Nat) : Int) = D * ((2 ^ g : Nat) : Int) ∧ 2 ^ 52 ≤ D.natAbs ∧ D.natAbs ≤ 2 ^ 53 ∧ 2 * (v * ((2 ^ s : Nat) : Int) - D * ((2 ^ g : Nat) : Int)).natAbs ≤ 2 ^ g := by
  obtain ⟨D, e, d1, d2, d3⟩ := round_step s g v.natAbs h1 h2
  have e' : ((mv (rung 52 0 v.natAbs) : Nat) : Int) * ((2 ^ s : Nat) : Int) = (D : Int) * ((2 ^ g : Nat) : Int) := by rw [← Int.natCast_mul, e, Int.natCast_mul]
  rw [Int.natCast_mul, Int.natCast_mul] at d3
  unfold rd
  by_cases c : v < 0
  · rw [if_pos c]
    have hv : ((v.natAbs : Nat) : Int) = -v := by omega
    rw [hv, Int.neg_mul] at d3
    refine ⟨-(D : Int), by rw [Int.neg_mul, Int.neg_mul, e'], by omega, by omega, ?_⟩
    rw [Int.neg_mul]
    generalize v * ((2 ^ s : Nat) : Int) = X at *
    generalize (D : Int) * ((2 ^ g : Nat) : Int) = Y at *
    omega
  · rw [if_neg c]
    have hv : ((v.natAbs : Nat) : Int) = v := by omega
    rw [hv] at d3
    exact ⟨(D : Int), e', by omega, by omega, d3⟩
end Go.Proofs.YtjgbaenihkplpaaDoor

/-
  Sums by the greater one, halves, and products of halves: nothing is rounded there, by plain numbers (no program).
-/
namespace Go.Proofs.YtjgbaenihkplpaaDoor
open Tf

theorem mv_form2 (r : Nat) : ∃ m, m < 2 ^ 53 ∧ mv r = m * 2 ^ (r / 2 ^ 52 - 1) := by
  unfold mv mag
  by_cases c : r < 2 ^ 52
  · exact ⟨r, by omega, by rw [if_pos c, show r / 2 ^ 52 - 1 = 0 by omega]; omega⟩
  · exact ⟨2 ^ 52 + r % 2 ^ 52, by omega, by rw [if_neg c]⟩
theorem sv_form2 (x : Nat) : ∃ A : Int, A.natAbs < 2 ^ 53 ∧ sv x = A * ((2 ^ (mg x / 2 ^ 52 - 1) : Nat) : Int) := by
  obtain ⟨m, h, e⟩ := mv_form2 (mg x)
  unfold sv
  rw [e, Int.natCast_mul]
  cases ng x
  · exact ⟨m, by omega, by simp⟩
  · exact ⟨-(m : Int), by omega, by simp [Int.neg_mul]⟩
theorem sv_abs (x : Nat) : (sv x).natAbs = mv (mg x) := by unfold sv; split <;> omega
theorem rd_nonneg {v : Int} (h : 0 ≤ v) : 0 ≤ rd v := by unfold rd; rw [if_neg (by omega)]; omega
theorem rd_nonpos {v : Int} (h : v ≤ 0) : rd v ≤ 0 := by
  have := rd_nonneg (v := -v) (by omega)
  rw [rd_neg] at this; omega
theorem mul_up (X : Int) {k t : Nat} (h : k ≤ t) : X * ((2 ^ t : Nat) : Int) = X * ((2 ^ (t - k) : Nat) : Int) * ((2 ^ k : Nat) : Int) := by
  rw [Int.mul_assoc, ← Int.natCast_mul, ← Nat.pow_add, Nat.sub_add_cancel h]
theorem cancel_le {a b p : Nat} (hp : 0 < p) (h : a * p ≤ b * p) : a ≤ b := Nat.le_of_mul_le_mul_right h hp

theorem fast_a (Q : Nat) (q D E B : Int) (hQ : 0 < Q) (e : q * (Q : Int) = B - E) (hB : B.natAbs ≤ 2 ^ 52 * Q) (hE : 2 * E.natAbs ≤ Q) (_ : D = D) : q.natAbs ≤ 2 ^ 53 := by
  have h1 : (q.natAbs * Q) = (B - E).natAbs := by rw [← e, Int.natAbs_mul, Int.natAbs_natCast]
  have h2 : q.natAbs * Q ≤ 2 ^ 53 * Q := by rw [h1]; omega
  exact cancel_le hQ h2
theorem fast_b (Q : Nat) (q α E B : Int) (hQ : 0 < Q) (e : q * (Q : Int) = B - E) (hα : α.natAbs < 2 ^ 53) (hB : B.natAbs ≤ α.natAbs * Q) (hE : E.natAbs ≤ Q) : q.natAbs ≤ 2 ^ 53 := by
  have h1 : (q.natAbs * Q) = (B - E).natAbs := by rw [← e, Int.natAbs_mul, Int.natAbs_natCast]
  have h2 : q.natAbs * Q ≤ 2 ^ 53 * Q := by
    rw [h1]
    have h3 : (α.natAbs + 1) * Q ≤ 2 ^ 53 * Q := Nat.mul_le_mul_right _ (by omega)
    rw [Nat.add_mul, Nat.one_mul] at h3
    generalize α.natAbs * Q = Z at *
    omega
  exact cancel_le hQ h2

/-- THE ROUNDED SUM LESS THE GREATER ONE is a double. -/
theorem fast2 (a b : Nat) (h : mg b ≤ mg a) : isD (rd (sv a + sv b) - sv a) := by
  obtain ⟨α, hα, eA⟩ := sv_form2 a
  obtain ⟨β, hβ, eB⟩ := sv_form2 b
  have hle : (sv b).natAbs ≤ (sv a).natAbs := by rw [sv_abs, sv_abs]; exact mv_le.2 h
  have hij : mg b / 2 ^ 52 - 1 ≤ mg a / 2 ^ 52 - 1 := Nat.sub_le_sub_right (Nat.div_le_div_right h) 1
  have hDB := isD_sv b
  generalize mg b / 2 ^ 52 - 1 = j at *
  generalize mg a / 2 ^ 52 - 1 = i at *
  generalize sv a = A at *
  generalize sv b = B at *
  have hAabs : A.natAbs = α.natAbs * 2 ^ i := by rw [eA, Int.natAbs_mul, Int.natAbs_natCast]
  have hBabs : B.natAbs = β.natAbs * 2 ^ j := by rw [eB, Int.natAbs_mul, Int.natAbs_natCast]
  have hpi := pow_pos i
  have hpj := pow_pos j
  by_cases c : (A + B).natAbs ≤ 2 ^ 53 * 2 ^ j
  · have e : A + B = (α * ((2 ^ (i - j) : Nat) : Int) + β) * ((2 ^ j : Nat) : Int) := by rw [Int.add_mul, ← mul_up α hij, ← eA, ← eB]
    have hD : isD (A + B) := by
      refine isD_of _ _ 0 j (by rw [Nat.pow_zero]; rw [show ((1 : Nat) : Int) = 1 from rfl, Int.mul_one]; exact e) ?_
      rw [e, Int.natAbs_mul, Int.natAbs_natCast] at c
      exact cancel_le hpj c
    rw [rd_exact hD]
    rwa [show A + B - A = B by omega]
  · obtain ⟨n, hn⟩ : ∃ n, (A + B).natAbs = n := ⟨_, rfl⟩
    have hn0 : n ≠ 0 := by
      intro h0
      have : 0 < 2 ^ 53 * 2 ^ j := Nat.mul_pos (by omega) hpj
      omega
    have h1 : 2 ^ n.log2 ≤ n := Nat.log2_self_le hn0
    have h2 : n < 2 ^ (n.log2 + 1) := Nat.lt_log2_self
    have h3 : 53 + j < n.log2 + 1 := pow_lt_iff.1 (by rw [Nat.pow_add]; exact Nat.lt_trans (Nat.lt_of_not_le (by rw [← hn]; exact c)) h2)
    have h4 : n.log2 < 54 + i := by
      apply pow_lt_iff.1
      have h5 : n ≤ 2 * A.natAbs := by omega
      have h6 : α.natAbs * 2 ^ i < 2 ^ 53 * 2 ^ i := (Nat.mul_lt_mul_right hpi).2 hα
      have h7 : 2 ^ (54 + i) = 2 * (2 ^ 53 * 2 ^ i) := by rw [Nat.pow_add, ← Nat.mul_assoc]
      rw [h7]
      generalize 2 ^ 53 * 2 ^ i = Z at *
      generalize 2 ^ n.log2 = Z2 at *
      omega
    obtain ⟨g, hg⟩ : ∃ g, n.log2 = 52 + g := ⟨n.log2 - 52, by omega⟩
    rw [hg] at h1 h2 h3 h4
    have hjg : j + 1 ≤ g := by omega
    obtain ⟨D, eD, _, _, d3⟩ := rd_step 0 g (A + B) (by rw [hn, Nat.pow_zero, Nat.mul_one]; exact h1) (by rw [hn, Nat.pow_zero, Nat.mul_one, show 53 + g = 52 + g + 1 by omega]; omega)
    have e1 : ((2 ^ 0 : Nat) : Int) = 1 := rfl
    rw [e1, Int.mul_one] at eD d3
    rw [← eD] at d3
    have eR : rd (A + B) - A = B - (A + B - rd (A + B)) := by omega
    have hB52 : B.natAbs ≤ 2 ^ 52 * 2 ^ g := by
      rw [hBabs]
      have h8 : 2 ^ (j + 1) ≤ 2 ^ g := Nat.pow_le_pow_right (by omega) hjg
      have h9 : β.natAbs * 2 ^ j ≤ 2 ^ 53 * 2 ^ j := Nat.mul_le_mul_right _ (by omega)
      rw [Nat.pow_succ] at h8
      generalize β.natAbs * 2 ^ j = Z at *
      generalize 2 ^ j = Z2 at *
      generalize 2 ^ g = Z3 at *
      omega
    by_cases c2 : g ≤ i
    · have e : (D - α * ((2 ^ (i - g) : Nat) : Int)) * ((2 ^ g : Nat) : Int) = rd (A + B) - A := by
        rw [Int.sub_mul, ← mul_up α c2, ← eA, ← eD]
      refine isD_of _ (D - α * ((2 ^ (i - g) : Nat) : Int)) 0 g (by rw [e1, Int.mul_one, e]) ?_
      exact fast_a (2 ^ g) _ D (A + B - rd (A + B)) B (pow_pos g) (by rw [e, eR]) hB52 d3 rfl
    · have hgi : g = i + 1 := by omega
      subst hgi
      have e2 : ((2 ^ (i + 1) : Nat) : Int) = 2 * ((2 ^ i : Nat) : Int) := by rw [Nat.pow_succ, Nat.mul_comm, Int.natCast_mul]; rfl
      have e : (D * 2 - α) * ((2 ^ i : Nat) : Int) = rd (A + B) - A := by
        rw [Int.sub_mul, ← eA, eD, e2, Int.mul_assoc]
      refine isD_of _ (D * 2 - α) 0 i (by rw [e1, Int.mul_one, e]) ?_
      refine fast_b (2 ^ i) _ α (A + B - rd (A + B)) B hpi (by rw [e, eR]) hα (by rw [← hAabs]; exact hle) ?_
      rw [Nat.pow_succ] at d3
      generalize 2 ^ i = Z at *
      omega

/-- the step of rounding for a number in scaled form -/
theorem rd_step2 (s k j : Nat) (v y : Int) (e : v * ((2 ^ s : Nat) : Int) = y * ((2 ^ k : Nat) : Int)) (h1 : 2 ^ (52 + j) ≤ y.natAbs) (h2 : y.natAbs ≤ 2 ^ (53 + j)) :
    ∃ D : Int, rd v * ((2 ^ s : Nat) : Int) = D * ((2 ^ j : Nat) : Int) * ((2 ^ k : Nat) : Int) ∧ 2 ^ 52 ≤ D.natAbs ∧ D.natAbs ≤ 2 ^ 53 ∧ 2 * (y - D * ((2 ^ j : Nat) : Int)).natAbs ≤ 2 ^ j := by
  have hk := pow_pos k
  have ea : v.natAbs * 2 ^ s = y.natAbs * 2 ^ k := by
    have := congrArg Int.natAbs e
    rwa [Int.natAbs_mul, Int.natAbs_mul, Int.natAbs_natCast, Int.natAbs_natCast] at this
  obtain ⟨D, d0, d1, d2, d3⟩ := rd_step s (j + k) v (by rw [ea, ← Nat.add_assoc, Nat.pow_add]; exact Nat.mul_le_mul_right _ h1) (by rw [ea, ← Nat.add_assoc, Nat.pow_add]; exact Nat.mul_le_mul_right _ h2)
  have e2 : D * ((2 ^ (j + k) : Nat) : Int) = D * ((2 ^ j : Nat) : Int) * ((2 ^ k : Nat) : Int) := by rw [Nat.pow_add, Int.natCast_mul, Int.mul_assoc]
  refine ⟨D, by rw [d0, e2], d1, d2, ?_⟩
  rw [e, e2, ← Int.sub_mul, Int.natAbs_mul, Int.natAbs_natCast, Nat.pow_add, ← Nat.mul_assoc] at d3
  exact cancel_le hk d3

/-- the upper half -/
def hiV (X : Int) : Int := rd (134217729 * X) - rd (rd (134217729 * X) - X)
theorem hiV_neg (X : Int) : hiV (-X) = -hiV X := by
  unfold hiV
  have e1 : 134217729 * -X = -(134217729 * X) := by omega
  rw [e1, rd_neg]
  have e2 : -rd (134217729 * X) - -X = -(rd (134217729 * X) - X) := by omega
  rw [e2, rd_neg]; omega

/-- a number and its upper half in scaled form -/
structure Sp (X : Int) (s k : Nat) (μ η : Int) : Prop where
  eX : X * ((2 ^ s : Nat) : Int) = μ * ((2 ^ k : Nat) : Int)
  lo : 2 ^ 52 ≤ μ.natAbs
  hi : μ.natAbs < 2 ^ 53
  eH : hiV X * ((2 ^ s : Nat) : Int) = η * 134217728 * ((2 ^ k : Nat) : Int)
  hη : η.natAbs ≤ 67108864
  hl : (μ - η * 134217728).natAbs ≤ 67108864
  mX : ∃ m : Int, X = m * ((2 ^ k : Nat) : Int)
  mH : ∃ m : Int, hiV X = m * ((2 ^ k : Nat) : Int)

theorem Sp.neg {X : Int} {s k : Nat} {μ η : Int} (h : Sp X s k μ η) : Sp (-X) s k (-μ) (-η) := by
  obtain ⟨m, hm⟩ := h.mX
  obtain ⟨n, hn⟩ := h.mH
  refine ⟨?_, ?_, ?_, ?_, ?_, ?_, ⟨-m, ?_⟩, ⟨-n, ?_⟩⟩
  · rw [Int.neg_mul, Int.neg_mul, h.eX]
  · rw [Int.natAbs_neg]; exact h.lo
  · rw [Int.natAbs_neg]; exact h.hi
  · rw [hiV_neg, Int.neg_mul, Int.neg_mul, Int.neg_mul, h.eH]
  · rw [Int.natAbs_neg]; exact h.hη
  · have := h.hl; omega
  · rw [Int.neg_mul, ← hm]
  · rw [hiV_neg, Int.neg_mul, ← hn]

theorem sp_pos (r : Nat) (hr : 0 < r) : ∃ s μ η, Sp (mv r : Int) s (r / 2 ^ 52 - 1) μ η := by
  obtain ⟨μ, s, k, e, h1, h2, ⟨m, _, hm⟩, hk, hsk⟩ := norm r hr
  rw [← hk]
  generalize mv r = X at *
  have eX : (X : Int) * ((2 ^ s : Nat) : Int) = (μ : Int) * ((2 ^ k : Nat) : Int) := by rw [← Int.natCast_mul, e, Int.natCast_mul]
  have eV : 134217729 * (X : Int) * ((2 ^ s : Nat) : Int) = 134217729 * (μ : Int) * ((2 ^ k : Nat) : Int) := by rw [Int.mul_assoc, eX, Int.mul_assoc]
  have hc : ∃ G : Int, rd (134217729 * (X : Int)) * ((2 ^ s : Nat) : Int) = G * 134217728 * ((2 ^ k : Nat) : Int) ∧ ((134217729 * (μ : Int) ≤ 1208925819614629174706176 ∧ 2 * (134217729 * (μ : Int) - G * 134217728).natAbs ≤ 134217728) ∨ (1208925819614629174706176 < 134217729 * (μ : Int) ∧ 2 * (134217729 * (μ : Int) - G * 134217728).natAbs ≤ 268435456)) := by
    by_cases c : 134217729 * (μ : Int) ≤ 1208925819614629174706176
    · obtain ⟨D, d0, _, _, d3⟩ := rd_step2 s k 27 _ _ eV (by omega) (by omega)
      exact ⟨D, d0, .inl ⟨c, d3⟩⟩
    · obtain ⟨D, d0, _, _, d3⟩ := rd_step2 s k 28 _ _ eV (by omega) (by omega)
      have e28 : D * ((2 ^ 28 : Nat) : Int) = D * 2 * 134217728 := by rw [Int.mul_assoc]; rfl
      rw [e28] at d0 d3
      exact ⟨D * 2, d0, .inr ⟨by omega, d3⟩⟩
  obtain ⟨G, g0, g1⟩ := hc
  have eC : (rd (134217729 * (X : Int)) - (X : Int)) * ((2 ^ s : Nat) : Int) = (G * 134217728 - μ) * ((2 ^ k : Nat) : Int) := by
    rw [Int.sub_mul, g0, eX, ← Int.sub_mul]
  have hlo : 604462909807314587353088 ≤ G * 134217728 - (μ : Int) ∧ G * 134217728 - (μ : Int) ≤ 1208925819614629174706176 := by
    clear g0 eV eX e hm hsk
    by_cases cμ : μ = 4503599627370496
    · subst cμ
      have : G = 4503599660924928 := by omega
      subst this
      constructor <;> omega
    · constructor <;> omega
  obtain ⟨D, d0, _, _, d3⟩ := rd_step2 s k 27 _ _ eC (by omega) (by omega)
  have e27 : D * ((2 ^ 27 : Nat) : Int) = D * 134217728 := rfl
  rw [e27] at d0 d3
  have eH : hiV X * ((2 ^ s : Nat) : Int) = (G - D) * 134217728 * ((2 ^ k : Nat) : Int) := by
    unfold hiV
    rw [Int.sub_mul, g0, d0, ← Int.sub_mul, ← Int.sub_mul]
  refine ⟨s, μ, G - D, eX, by omega, by omega, eH, by omega, by omega, ⟨m, ?_⟩, ?_⟩
  · rw [← Int.natCast_mul, ← hm]
  · rcases hsk with rfl | rfl
    · exact ⟨(G - D) * 134217728, by rw [← eH]; simp⟩
    · exact ⟨hiV X, by simp⟩
theorem sp_any (x : Nat) (h : mg x ≠ 0) : ∃ s μ η, Sp (sv x) s (mg x / 2 ^ 52 - 1) μ η := by
  obtain ⟨s, μ, η, p⟩ := sp_pos (mg x) (by omega)
  unfold sv
  cases ng x
  · rw [if_neg (by decide)]; exact ⟨s, μ, η, p⟩
  · rw [if_pos rfl]; exact ⟨s, -μ, -η, p.neg⟩

/-- both halves are doubles -/
theorem Sp.isH {X : Int} {s k : Nat} {μ η : Int} (h : Sp X s k μ η) : isD (hiV X) := by
  refine isD_of _ (η * 134217728) s k h.eH ?_
  have := h.hη
  omega
theorem Sp.eL {X : Int} {s k : Nat} {μ η : Int} (h : Sp X s k μ η) : (X - hiV X) * ((2 ^ s : Nat) : Int) = (μ - η * 134217728) * ((2 ^ k : Nat) : Int) := by
  rw [Int.sub_mul, h.eX, h.eH, ← Int.sub_mul]
theorem Sp.isL {X : Int} {s k : Nat} {μ η : Int} (h : Sp X s k μ η) : isD (X - hiV X) := by
  refine isD_of _ _ s k h.eL ?_
  have := h.hl
  omega
theorem Sp.mL {X : Int} {s k : Nat} {μ η : Int} (h : Sp X s k μ η) : ∃ m : Int, X - hiV X = m * ((2 ^ k : Nat) : Int) := by
  obtain ⟨m, hm⟩ := h.mX
  obtain ⟨n, hn⟩ := h.mH
  exact ⟨m - n, by rw [Int.sub_mul, ← hm, ← hn]⟩
end Go.Proofs.YtjgbaenihkplpaaDoor
