/-
  Some of the texts of this proof, one behind the other.
-/
import Derived.Test.YtdigecacmibkpaaGreatDoorRows
import Derived.Deep.Draws
import Derived.Test.YtdigecacmibkpaaGreatDoorSq03
set_option maxRecDepth 100000
set_option maxHeartbeats 400000000
namespace Go.Proofs.YtdigecacmibkpaaGreatDoor.Tf
open Ieee
theorem rep (p m c : Nat) (h : m <= 2 ^ (p + 1)) : ∃ r, mag p r = m * 2 ^ c := by
  have hp := pow_pos p
  have hp1 : 2 ^ (p + 1) = 2 * 2 ^ p := by rw [Nat.pow_succ]; omega
  by_cases h1 : m * 2 ^ c < 2 ^ p
  · refine ⟨m * 2 ^ c, ?_⟩
    unfold mag; rw [if_pos h1]
  · by_cases h2 : m = 2 ^ (p + 1)
    · refine ⟨(c + 2) * 2 ^ p, ?_⟩
      unfold mag
      have : ¬ (c + 2) * 2 ^ p < 2 ^ p := by
        have : 1 * 2 ^ p <= (c + 2) * 2 ^ p := Nat.mul_le_mul_right _ (by omega)
        omega
      rw [if_neg this, Nat.mul_mod_left, Nat.mul_div_cancel _ hp, Nat.add_zero, h2, <- Nat.pow_add, <- Nat.pow_add]
      congr 1; omega
    · have hm0 : m ≠ 0 := by intro h0; subst h0; rw [Nat.zero_mul] at h1; omega
      have hl1 := Nat.log2_self_le hm0
      have hl2 : m < 2 ^ (m.log2 + 1) := Nat.lt_log2_self
      have hlp : m.log2 <= p := log2_small (show m < 2 ^ (p + 1) by omega)
      have hlc : p <= m.log2 + c := by
        by_cases c' : p <= m.log2 + c
        · exact c'
        · exfalso
          have : m * 2 ^ c < 2 ^ (m.log2 + 1) * 2 ^ c := (Nat.mul_lt_mul_right (pow_pos c)).2 hl2
          rw [<- Nat.pow_add] at this
          have h3 : 2 ^ (m.log2 + 1 + c) <= 2 ^ p := Nat.pow_le_pow_right (by omega) (by omega)
          omega
      obtain ⟨k, hk⟩ : ∃ k, m.log2 + c = p + k := ⟨m.log2 + c - p, by omega⟩
      have hM1 : 2 ^ p <= m * 2 ^ (p - m.log2) := by
        have : 2 ^ p = 2 ^ m.log2 * 2 ^ (p - m.log2) := by rw [<- Nat.pow_add]; congr 1; omega
        rw [this]; exact Nat.mul_le_mul_right _ hl1
      have hM2 : m * 2 ^ (p - m.log2) < 2 * 2 ^ p := by
        have : 2 * 2 ^ p = 2 ^ (m.log2 + 1) * 2 ^ (p - m.log2) := by rw [<- hp1, <- Nat.pow_add]; congr 1; omega
        rw [this]; exact (Nat.mul_lt_mul_right (pow_pos _)).2 hl2
      have hMk : m * 2 ^ (p - m.log2) * 2 ^ k = m * 2 ^ c := by
        rw [Nat.mul_assoc, <- Nat.pow_add]; congr 2; omega
      generalize m * 2 ^ (p - m.log2) = M at *
      refine ⟨(M - 2 ^ p) + 2 ^ p * (k + 1), ?_⟩
      unfold mag
      have hge : ¬ (M - 2 ^ p) + 2 ^ p * (k + 1) < 2 ^ p := by
        have : 2 ^ p * 1 <= 2 ^ p * (k + 1) := Nat.mul_le_mul_left _ (by omega)
        omega
      rw [if_neg hge, Nat.add_mul_mod_self_left, Nat.add_mul_div_left _ _ hp, Nat.mod_eq_of_lt (show M - 2 ^ p < 2 ^ p by omega), Nat.div_eq_of_lt (show M - 2 ^ p < 2 ^ p by omega)]
      rw [show 2 ^ p + (M - 2 ^ p) = M by omega, show 0 + (k + 1) - 1 = k by omega, hMk]
def cutq (way : Toward) (neg : Bool) (n g : Nat) : Nat :=
  n / g + (match way with
    | .even => decide (g < 2 * (n % g) \/ (g = 2 * (n % g) /\ n / g % 2 = 1))
    | .down => neg && decide (n % g ≠ 0)
    | .up => !neg && decide (n % g ≠ 0)
    | .zero => false).toNat
theorem cutq_even (neg : Bool) (n g : Nat) : cutq .even neg n g = rne n g := by
  unfold cutq rne
  by_cases h : g < 2 * (n % g) \/ (g = 2 * (n % g) /\ n / g % 2 = 1)
  · rw [if_pos h, decide_eq_true h]; rfl
  · rw [if_neg h, decide_eq_false h]; rfl
theorem cutq_zero (neg : Bool) (n g : Nat) : cutq .zero neg n g = n / g := rfl
theorem cut_gen (way : Toward) (neg : Bool) (n d : Nat) : way.cut neg n d = cutq way neg n (2 ^ d) := by
  cases way
  · rw [cut_even, cutq_even]
  all_goals
    unfold Toward.cut cutq
    try simp only [Bool.toNat_false, Nat.add_zero]
    simp only [shl_one]
    by_cases h : d <= n.log2 + 2
    · rw [Nat.min_eq_left h]
      try simp [bne, BEq.beq]
    · rw [Nat.min_eq_right (by omega)]
      have h1 : n < 2 ^ (n.log2 + 1) := Nat.lt_log2_self
      have h2 : 2 ^ (n.log2 + 2) = 2 * 2 ^ (n.log2 + 1) := by rw [Nat.pow_succ]; omega
      have h3 : 2 ^ (n.log2 + 2) <= 2 ^ d := Nat.pow_le_pow_right (by omega) (by omega)
      have q1 : n / 2 ^ (n.log2 + 2) = 0 := Nat.div_eq_of_lt (by omega)
      have q2 : n / 2 ^ d = 0 := Nat.div_eq_of_lt (by omega)
      have r1 : n % 2 ^ (n.log2 + 2) = n := Nat.mod_eq_of_lt (by omega)
      have r2 : n % 2 ^ d = n := Nat.mod_eq_of_lt (by omega)
      rw [q1, q2]
      try rw [r1, r2]
      try simp [bne, BEq.beq]
theorem cutq_mul (way : Toward) (neg : Bool) (q g : Nat) (hg : 0 < g) : cutq way neg (q * g) g = q := by
  unfold cutq
  rw [Nat.mul_mod_left, Nat.mul_div_cancel _ hg]
  have : ¬ (g < 2 * 0 \/ g = 2 * 0 /\ q % 2 = 1) := by omega
  cases way
  · rw [decide_eq_false this]; rfl
  all_goals simp
theorem cutq_scale (way : Toward) (neg : Bool) (n g c : Nat) (hc : 0 < c) : cutq way neg (n * c) (g * c) = cutq way neg n g := by
  unfold cutq
  rw [Nat.mul_div_mul_right _ _ hc, Nat.mul_mod_mul_right]
  have e1 : (g * c < 2 * (n % g * c)) ↔ g < 2 * (n % g) := by
    rw [<- Nat.mul_assoc]; exact Nat.mul_lt_mul_right hc
  have e2 : (g * c = 2 * (n % g * c)) ↔ g = 2 * (n % g) := by
    rw [<- Nat.mul_assoc]; exact Nat.mul_left_inj (by omega)
  have e3 : (n % g * c ≠ 0) ↔ n % g ≠ 0 := by
    rw [Ne, Nat.mul_eq_zero]; omega
  simp only [e1, e2, e3]
theorem cutq_le (way : Toward) (neg : Bool) (n g : Nat) : cutq way neg n g <= n / g + 1 := by
  unfold cutq
  generalize (match way with
    | .even => decide (g < 2 * (n % g) \/ (g = 2 * (n % g) /\ n / g % 2 = 1))
    | .down => neg && decide (n % g ≠ 0)
    | .up => !neg && decide (n % g ≠ 0)
    | .zero => false) = b
  cases b <;> simp
theorem integral_fin (f : Format) (way : Toward) (x d : Nat) (hd : f.leastPlace = -(d : Int)) (hx : rg f x < f.infRung) :
    (f.read x).integral way = .number (sg f x) (cutq way (sg f x) (mag f.fractionBits (rg f x)) (2 ^ d)) 0 := by
  obtain ⟨m, a, e, v⟩ := read_fin f x hx
  rw [e, <- v]
  simp only [Datum.integral, cut_gen, shl]
  congr 1
  rw [hd]
  by_cases c : d <= a
  · have h1 : (-(d : Int) + (a : Int)).toNat = a - d := by omega
    have h2 : (-(-(d : Int) + (a : Int))).toNat = 0 := by omega
    rw [h1, h2]
    have : m * 2 ^ a = m * 2 ^ (a - d) * 2 ^ d := by rw [Nat.mul_assoc, <- Nat.pow_add]; congr 2; omega
    rw [this, cutq_mul _ _ _ _ (pow_pos d), Nat.pow_zero]
    have := cutq_mul way (sg f x) (m * 2 ^ (a - d)) 1 (by omega)
    rwa [Nat.mul_one] at this
  · have h1 : (-(d : Int) + (a : Int)).toNat = 0 := by omega
    have h2 : (-(-(d : Int) + (a : Int))).toNat = d - a := by omega
    rw [h1, h2, Nat.pow_zero, Nat.mul_one]
    have : 2 ^ d = 2 ^ (d - a) * 2 ^ a := by rw [<- Nat.pow_add]; congr 1; omega
    rw [this, cutq_scale _ _ _ _ _ (pow_pos a)]
theorem nearest_up (f : Format) (neg : Bool) (q d : Nat) (place : Int) (hp : place = f.leastPlace + d) : f.nearest neg q place = f.word neg (min (rung f.fractionBits 0 (q * 2 ^ d)) f.infRung) := by
  have := nearest_rung f neg (q * 2 ^ d) 0
  rw [show f.leastPlace - ((0 : Nat) : Int) = f.leastPlace from by omega, nearest_scale] at this
  rw [hp, this]
def one : Nat := mv 4607182418800017408
theorem mv_exp (e f : Nat) (h : f < 2 ^ 52) : mv ((e + 1) * 2 ^ 52 + f) = (2 ^ 52 + f) * 2 ^ e := by
  have hp := pow_pos 52
  unfold mv mag
  rw [if_neg (by omega), Nat.add_comm ((e + 1) * 2 ^ 52) f, Nat.add_mul_mod_self_right, Nat.add_mul_div_right _ _ hp, Nat.mod_eq_of_lt h, Nat.div_eq_of_lt h]
  congr 2; omega
theorem mv_two_pow (e r : Nat) (h : r = (e + 1) * 2 ^ 52) : mv r = 2 ^ (52 + e) := by
  have := mv_exp e 0 (pow_pos 52)
  simp only [Nat.add_zero] at this
  rwa [<- h, <- Nat.pow_add] at this
def K : Nat := 1074
theorem K_eq : K = 1074 := rfl
theorem lp_K : double.leastPlace = -(K : Int) := by rw [K_eq]; decide
theorem one_pow : one = 2 ^ K := by
  have h := mv_two_pow (K - 52) 4607182418800017408 (by rw [K_eq])
  have e : 52 + (K - 52) = K := by rw [K_eq]
  rw [e] at h; exact h
theorem one_pos : 0 < one := by rw [one_pow]; exact pow_pos _
theorem mv_from_one (k r : Nat) (h : r = (k + 1023) * 2 ^ 52) : mv r = 2 ^ k * one := by
  have hK := K_eq
  have e : 52 + (k + (K - 52)) = k + K := by omega
  have e2 : k + 1023 = k + (K - 52) + 1 := by omega
  rw [e2] at h
  have := mv_two_pow (k + (K - 52)) r h
  rw [this, e, Nat.pow_add, one_pow]
theorem whole_great (r : Nat) (h : 4841369599423283200 <= r) : ∃ q, mv r = q * one := by
  have hK := K_eq
  refine ⟨(2 ^ 52 + r % 2 ^ 52) * 2 ^ (r / 2 ^ 52 - (K + 1)), ?_⟩
  unfold mv mag
  have h1 : ¬ r < 2 ^ 52 := by omega
  have h2 : 1075 <= r / 2 ^ 52 := (Nat.le_div_iff_mul_le (pow_pos 52)).2 (by omega)
  rw [if_neg h1, one_pow, Nat.mul_assoc, <- Nat.pow_add]
  congr 2; omega
theorem rep_one (q : Nat) (h : q <= 9007199254740992) : ∃ r, mv r = q * one /\ r <= 4845873199050653696 := by
  obtain ⟨r, hr⟩ := rep 52 q K (by omega)
  rw [<- one_pow] at hr
  refine ⟨r, hr, ?_⟩
  have e : mv 4845873199050653696 = 2 ^ 53 * one := mv_from_one 53 _ (by decide)
  have : mv r <= mv 4845873199050653696 := by
    show mag 52 r <= _
    rw [hr, e]; exact Nat.mul_le_mul_right _ (by omega)
  exact mv_le.1 this
theorem integral_d (way : Toward) (x : Nat) (hx : x < 18446744073709551616) (fx : mg x < 9218868437227405312) :
    ∃ r, r < 9218868437227405312 /\ mv r = cutq way (ng x) (mv (mg x)) one * one /\ double.write ((double.read x).integral way) = if ng x then 9223372036854775808 + r else r := by
  have ei := d_inf
  have h1 : ∃ r, r < 9218868437227405312 /\ mv r = cutq way (ng x) (mv (mg x)) one * one := by
    by_cases c : 4841369599423283200 <= mg x
    · obtain ⟨q, hq⟩ := whole_great (mg x) c
      refine ⟨mg x, fx, ?_⟩
      rw [hq, cutq_mul _ _ _ _ one_pos]
    · have e : mv 4841369599423283200 = 2 ^ 52 * one := mv_from_one 52 _ (by decide)
      have hl : mv (mg x) < 2 ^ 52 * one := by rw [<- e]; exact mv_lt.2 (by omega)
      have hq : mv (mg x) / one < 2 ^ 52 := (Nat.div_lt_iff_lt_mul one_pos).2 hl
      have hc := cutq_le way (ng x) (mv (mg x)) one
      obtain ⟨r, e', hr⟩ := rep_one (cutq way (ng x) (mv (mg x)) one) (by omega)
      exact ⟨r, by omega, e'⟩
  obtain ⟨r, hr, e⟩ := h1
  refine ⟨r, hr, e, ?_⟩
  rw [integral_fin double way x K lp_K (by rw [rg_d]; omega), sg_d x hx, rg_d]
  simp only [Format.write]
  rw [nearest_up double _ _ K 0 (by rw [lp_K]; omega), <- one_pow, d_inf, d_word, d_fb]
  have : cutq way (ng x) (mag 52 (mg x)) one * one = mv r := e.symm
  rw [this, rung_mv, Nat.min_eq_left (by omega)]
theorem toInt_d (x : Nat) (hx : x < 18446744073709551616) (fx : mg x < 9218868437227405312) :
    (double.read x).toInt .zero = some (if ng x then -((mv (mg x) / one : Nat) : Int) else ((mv (mg x) / one : Nat) : Int)) := by
  have ei := d_inf
  unfold Datum.toInt
  rw [integral_fin double .zero x K lp_K (by rw [rg_d]; omega), sg_d x hx, rg_d, d_fb, cutq_zero, <- one_pow]
  simp only [Ieee.signed, shl, Nat.pow_zero, Nat.mul_one]
  rfl
theorem ofInt_d (n : Int) : double.write (.number (n < 0) n.natAbs 0) = rn false (n * one) := by
  simp only [Format.write]
  rw [nearest_up double _ _ K 0 (by rw [lp_K]; omega), <- one_pow, d_inf, d_word, d_fb]
  unfold rn
  have h1 : (n * (one : Int)).natAbs = n.natAbs * one := by rw [Int.natAbs_mul, Int.natAbs_natCast]
  have hp : (0 : Int) < one := by exact_mod_cast one_pos
  have h2 : (if n * (one : Int) = 0 then false else decide (n * (one : Int) < 0)) = decide (n < 0) := by
    by_cases c : n = 0
    · subst c; simp
    · have c' : ¬ n * (one : Int) = 0 := by rw [Int.mul_eq_zero]; omega
      rw [if_neg c']
      have : n * (one : Int) < 0 ↔ n < 0 := by
        have : n * (one : Int) < 0 * (one : Int) ↔ n < 0 := Int.mul_lt_mul_right hp
        rwa [Int.zero_mul] at this
      exact decide_eq_decide.2 this
  rw [h1, h2]
end Go.Proofs.YtdigecacmibkpaaGreatDoor.Tf

namespace Go.Proofs.YtdigecacmibkpaaGreatDoor
open Tf
def isD (v : Int) : Prop := ∃ r, mv r = v.natAbs
def rd (v : Int) : Int := if v < 0 then -(mv (rung 52 0 v.natAbs) : Int) else (mv (rung 52 0 v.natAbs) : Int)
theorem rd_neg (v : Int) : rd (-v) = -rd v := by
  unfold rd
  rw [Int.natAbs_neg]
  by_cases c0 : v = 0
  · subst c0
    rw [Int.natAbs_zero, rung_zero, mv_zero]; rfl
  · by_cases c : v < 0
    · rw [if_pos c, if_neg (by omega)]; omega
    · rw [if_neg c, if_pos (by omega)]
theorem isD_of (v q : Int) (s c : Nat) (h : v * ((2 ^ s : Nat) : Int) = q * ((2 ^ c : Nat) : Int)) (hq : q.natAbs <= 2 ^ 53) : isD v := by
  have h' : v.natAbs * 2 ^ s = q.natAbs * 2 ^ c := by
    have := congrArg Int.natAbs h
    rwa [Int.natAbs_mul, Int.natAbs_mul, Int.natAbs_natCast, Int.natAbs_natCast] at this
  unfold isD
  generalize v.natAbs = n at *
  have key : ∃ r, mv r = n := by
    by_cases c1 : s <= c
    · have e : n = q.natAbs * 2 ^ (c - s) := by
        apply Nat.eq_of_mul_eq_mul_right (pow_pos s)
        rw [h', Nat.mul_assoc, <- Nat.pow_add, Nat.sub_add_cancel c1]
      rw [e]
      exact rep 52 _ _ hq
    · have e : n * 2 ^ (s - c) = q.natAbs := by
        apply Nat.eq_of_mul_eq_mul_right (pow_pos c)
        rw [<- h', Nat.mul_assoc, <- Nat.pow_add, Nat.sub_add_cancel (by omega)]
      have hn : n <= 2 ^ 53 := by
        have := Nat.le_mul_of_pos_right n (pow_pos (s - c))
        omega
      obtain ⟨r, hr⟩ := rep 52 n 0 hn
      exact ⟨r, by rw [Nat.pow_zero, Nat.mul_one] at hr; exact hr⟩
  exact key
end Go.Proofs.YtdigecacmibkpaaGreatDoor

namespace Go.Proofs.YtdigecacmibkpaaGreatDoor
open Tf
def hiV (X : Int) : Int := rd (134217729 * X) - rd (rd (134217729 * X) - X)
theorem hiV_neg (X : Int) : hiV (-X) = -hiV X := by
  unfold hiV
  have e1 : 134217729 * -X = -(134217729 * X) := by omega
  rw [e1, rd_neg]
  have e2 : -rd (134217729 * X) - -X = -(rd (134217729 * X) - X) := by omega
  rw [e2, rd_neg]; omega
structure Sp (X : Int) (s k : Nat) (μ η : Int) : Prop where
  eX : X * ((2 ^ s : Nat) : Int) = μ * ((2 ^ k : Nat) : Int)
  lo : 2 ^ 52 <= μ.natAbs
  hi : μ.natAbs < 2 ^ 53
  eH : hiV X * ((2 ^ s : Nat) : Int) = η * 134217728 * ((2 ^ k : Nat) : Int)
  hη : η.natAbs <= 67108864
  hl : (μ - η * 134217728).natAbs <= 67108864
  mX : ∃ m : Int, X = m * ((2 ^ k : Nat) : Int)
  mH : ∃ m : Int, hiV X = m * ((2 ^ k : Nat) : Int)
theorem Sp.neg {X : Int} {s k : Nat} {μ η : Int} (h : Sp X s k μ η) : Sp (-X) s k (-μ) (-η) := by
  obtain ⟨m, hm⟩ := h.mX
  obtain ⟨n, hn⟩ := h.mH
  refine ⟨?_, ?_, ?_, ?_, ?_, ?_, ⟨-m, ?_⟩, ⟨-n, ?_⟩⟩
  · rw [Int.neg_mul, Int.neg_mul, h.eX]
  · rw [Int.natAbs_neg]; exact h.lo
  · rw [Int.natAbs_neg]; exact h.hi
  · rw [hiV_neg, Int.neg_mul, Int.neg_mul, Int.neg_mul, h.eH]
  · rw [Int.natAbs_neg]; exact h.hη
  · have := h.hl; omega
  · rw [Int.neg_mul, <- hm]
  · rw [hiV_neg, Int.neg_mul, <- hn]
theorem Sp.eL {X : Int} {s k : Nat} {μ η : Int} (h : Sp X s k μ η) : (X - hiV X) * ((2 ^ s : Nat) : Int) = (μ - η * 134217728) * ((2 ^ k : Nat) : Int) := by
  rw [Int.sub_mul, h.eX, h.eH, <- Int.sub_mul]
theorem Sp.isL {X : Int} {s k : Nat} {μ η : Int} (h : Sp X s k μ η) : isD (X - hiV X) := by
  refine isD_of _ _ s k h.eL ?_
  have := h.hl
  omega
end Go.Proofs.YtdigecacmibkpaaGreatDoor

namespace Go.Proofs.YtdigecacmibkpaaGreatDoor
open Tf
def infW (s : Bool) : Nat := if s then 18442240474082181120 else 9218868437227405312
theorem infW_lt (s : Bool) : infW s < 18446744073709551616 := by cases s <;> decide
theorem infW_mg (s : Bool) : mg (infW s) = 9218868437227405312 := by cases s <;> decide
theorem infW_canon (s : Bool) : canonB (infW s) = infW s := by cases s <;> decide
section ops
open Ieee
theorem wr_inf (s : Bool) : double.write (.infinity s) = infW s := by cases s <;> decide
theorem add_nan (x y : Nat) (h : isN x = true \/ isN y = true) : double.add x y = none := by
  rw [isN_true, isN_true] at h
  have ei := d_inf
  unfold Format.add
  rcases h with h | h
  · rw [read_nan double x d_he (by rw [rg_d]; omega)]; rfl
  · rw [read_nan double y d_he (by rw [rg_d]; omega)]; cases double.read x <;> rfl
theorem mul_nan (x y : Nat) (h : isN x = true \/ isN y = true) : double.mul x y = none := by
  rw [isN_true, isN_true] at h
  have ei := d_inf
  unfold Format.mul
  rcases h with h | h
  · rw [read_nan double x d_he (by rw [rg_d]; omega)]; rfl
  · rw [read_nan double y d_he (by rw [rg_d]; omega)]; cases double.read x <;> rfl
theorem add_if (x y : Nat) (hx : x < 18446744073709551616) (fx : mg x = 9218868437227405312) (fy : mg y < 9218868437227405312) : double.add x y = some (infW (ng x)) := by
  have ei := d_inf
  obtain ⟨m, a, e, _⟩ := read_fin double y (by rw [rg_d]; omega)
  unfold Format.add
  rw [read_inf double x d_he (by rw [rg_d]; omega), e, sg_d x hx]
  simp only [Datum.sum, Option.map, wr_inf]
theorem add_fi (x y : Nat) (hy : y < 18446744073709551616) (fx : mg x < 9218868437227405312) (fy : mg y = 9218868437227405312) : double.add x y = some (infW (ng y)) := by
  have ei := d_inf
  obtain ⟨m, a, e, _⟩ := read_fin double x (by rw [rg_d]; omega)
  unfold Format.add
  rw [read_inf double y d_he (by rw [rg_d]; omega), e, sg_d y hy]
  simp only [Datum.sum, Option.map, wr_inf]
theorem add_ii (x y : Nat) (hx : x < 18446744073709551616) (hy : y < 18446744073709551616) (fx : mg x = 9218868437227405312) (fy : mg y = 9218868437227405312) :
    double.add x y = if ng x = ng y then some (infW (ng x)) else none := by
  have ei := d_inf
  unfold Format.add
  rw [read_inf double x d_he (by rw [rg_d]; omega), read_inf double y d_he (by rw [rg_d]; omega), sg_d x hx, sg_d y hy]
  simp only [Datum.sum]
  by_cases c : ng x = ng y
  · rw [if_pos c, if_pos c]; simp only [Option.map, wr_inf]
  · rw [if_neg c, if_neg c]; rfl
theorem fin_zero (x : Nat) (fx : mg x < 9218868437227405312) : ∃ m a, double.read x = .number (sg double x) m a /\ (m = 0 ↔ mg x = 0) := by
  have ei := d_inf
  obtain ⟨m, a, e, v⟩ := read_fin double x (by rw [rg_d]; omega)
  refine ⟨m, _, e, ?_⟩
  rw [rg_d] at v
  have hp := pow_pos a
  constructor
  · intro h
    subst h
    rw [Nat.zero_mul] at v
    have : mag 52 (mg x) = mag 52 0 := by rw [mag_zero]; exact v.symm
    exact mag_inj.1 this
  · intro h
    have hv : m * 2 ^ a = 0 := by
      rw [v, h]; exact mag_zero _
    rcases Nat.mul_eq_zero.1 hv with h1 | h1
    · exact h1
    · omega
theorem mul_if (x y : Nat) (hx : x < 18446744073709551616) (hy : y < 18446744073709551616) (fx : mg x = 9218868437227405312) (fy : mg y < 9218868437227405312) :
    double.mul x y = if mg y = 0 then none else some (infW (ng x ^^ ng y)) := by
  have ei := d_inf
  obtain ⟨m, a, e, hz⟩ := fin_zero y fy
  unfold Format.mul
  rw [read_inf double x d_he (by rw [rg_d]; omega), e, sg_d x hx, sg_d y hy]
  simp only [Datum.product]
  by_cases c : mg y = 0
  · rw [if_pos c, if_pos (hz.2 c)]; rfl
  · rw [if_neg c, if_neg (fun h => c (hz.1 h))]; simp only [Option.map, wr_inf]
theorem mul_fi (x y : Nat) (hx : x < 18446744073709551616) (hy : y < 18446744073709551616) (fx : mg x < 9218868437227405312) (fy : mg y = 9218868437227405312) :
    double.mul x y = if mg x = 0 then none else some (infW (ng x ^^ ng y)) := by
  have ei := d_inf
  obtain ⟨m, a, e, hz⟩ := fin_zero x fx
  unfold Format.mul
  rw [read_inf double y d_he (by rw [rg_d]; omega), e, sg_d x hx, sg_d y hy]
  simp only [Datum.product]
  by_cases c : mg x = 0
  · rw [if_pos c, if_pos (hz.2 c)]; rfl
  · rw [if_neg c, if_neg (fun h => c (hz.1 h))]
    simp only [Option.map, wr_inf]
    cases ng x <;> cases ng y <;> rfl
theorem mul_ii (x y : Nat) (hx : x < 18446744073709551616) (hy : y < 18446744073709551616) (fx : mg x = 9218868437227405312) (fy : mg y = 9218868437227405312) :
    double.mul x y = some (infW (ng x ^^ ng y)) := by
  have ei := d_inf
  unfold Format.mul
  rw [read_inf double x d_he (by rw [rg_d]; omega), read_inf double y d_he (by rw [rg_d]; omega), sg_d x hx, sg_d y hy]
  simp only [Datum.product, Option.map, wr_inf]
end ops
theorem rn_ne (z z' : Bool) (v : Int) (h : v ≠ 0) : rn z v = rn z' v := by
  unfold rn; rw [if_neg h, if_neg h]
theorem canon_rn (z : Bool) (v : Int) : canonB (rn z v) = rn false v := by
  unfold canonB
  rw [isN_rn, if_neg (by decide)]
  by_cases c : v = 0
  · subst c
    have : mg (rn z 0) = 0 := by rw [rn_zero]; cases z <;> decide
    rw [if_pos this, rn_zero]; rfl
  · have hm : mg (rn z v) ≠ 0 := by
      rw [rn_mg]
      have h1 : 1 <= rung 52 0 v.natAbs := by
        have e1 : mag 52 1 = 1 := by decide
        exact rung_ge (by omega) (by rw [Nat.pow_zero, Nat.mul_one, e1]; omega)
      generalize rung 52 0 v.natAbs = r at *
      omega
    rw [if_neg hm]
    exact rn_ne z false v c
theorem rn_negv (v : Int) : canonB (negB (rn false v)) = rn false (-v) := by
  by_cases c : v = 0
  · subst c; rw [Int.neg_zero, rn_zero]; decide
  · have e : negB (rn false v) = rn false (-v) := by
      unfold rn negB
      rw [if_neg c, if_neg (show ¬ -v = 0 by omega), Int.natAbs_neg]
      have hl : min (rung 52 0 v.natAbs) 9218868437227405312 < 9223372036854775808 := by
        generalize rung 52 0 v.natAbs = r
        omega
      generalize min (rung 52 0 v.natAbs) 9218868437227405312 = r at *
      by_cases c2 : v < 0
      · have d2 : decide (-v < 0) = false := decide_eq_false (by omega)
        rw [decide_eq_true c2, d2]
        simp only [if_true, Bool.false_eq_true, if_false]
        rw [ng_of_ge (by omega), if_pos rfl]; omega
      · have d2 : decide (-v < 0) = true := decide_eq_true (by omega)
        rw [decide_eq_false c2, d2]
        simp only [if_true, Bool.false_eq_true, if_false]
        rw [ng_of_lt (by omega), if_neg (by decide)]; omega
    rw [e, canon_rn]
def addB (a b : Nat) : Nat := match Ieee.double.add a b with | some r => canonB r | none => quiet
theorem addB_some {a b r : Nat} (h : Ieee.double.add a b = some r) : addB a b = canonB r := by unfold addB; rw [h]
theorem addB_none {a b : Nat} (h : Ieee.double.add a b = none) : addB a b = quiet := by unfold addB; rw [h]
theorem addB_fin (a b : Nat) (ha : a < 18446744073709551616) (hb : b < 18446744073709551616) (fa : mg a < 9218868437227405312) (fb : mg b < 9218868437227405312) : addB a b = rn false (sv a + sv b) := by
  rw [addB_some (add_d a b ha hb fa fb), canon_rn]
theorem three (x : Nat) : mg x < 9218868437227405312 \/ mg x = 9218868437227405312 \/ isN x = true := by
  rw [isN_true]; omega
theorem add_cases (a b : Nat) (ha : a < 18446744073709551616) (hb : b < 18446744073709551616) :
    (mg a < 9218868437227405312 /\ mg b < 9218868437227405312) \/ Ieee.double.add a b = none \/ ∃ s, Ieee.double.add a b = some (infW s) := by
  rcases three a with h1 | h1 | h1
  · rcases three b with h2 | h2 | h2
    · exact .inl ⟨h1, h2⟩
    · exact .inr (.inr ⟨_, add_fi a b hb h1 h2⟩)
    · exact .inr (.inl (add_nan a b (.inr h2)))
  · rcases three b with h2 | h2 | h2
    · exact .inr (.inr ⟨_, add_if a b ha h1 h2⟩)
    · rw [add_ii a b ha hb h1 h2]
      by_cases c : ng a = ng b
      · rw [if_pos c]; exact .inr (.inr ⟨_, rfl⟩)
      · rw [if_neg c]; exact .inr (.inl rfl)
    · exact .inr (.inl (add_nan a b (.inr h2)))
  · exact .inr (.inl (add_nan a b (.inl h1)))
theorem mul_cases (a b : Nat) (ha : a < 18446744073709551616) (hb : b < 18446744073709551616) :
    (mg a < 9218868437227405312 /\ mg b < 9218868437227405312) \/ Ieee.double.mul a b = none \/ ∃ s, Ieee.double.mul a b = some (infW s) := by
  rcases three a with h1 | h1 | h1
  · rcases three b with h2 | h2 | h2
    · exact .inl ⟨h1, h2⟩
    · rw [mul_fi a b ha hb h1 h2]
      by_cases c : mg a = 0
      · rw [if_pos c]; exact .inr (.inl rfl)
      · rw [if_neg c]; exact .inr (.inr ⟨_, rfl⟩)
    · exact .inr (.inl (mul_nan a b (.inr h2)))
  · rcases three b with h2 | h2 | h2
    · rw [mul_if a b ha hb h1 h2]
      by_cases c : mg b = 0
      · rw [if_pos c]; exact .inr (.inl rfl)
      · rw [if_neg c]; exact .inr (.inr ⟨_, rfl⟩)
    · exact .inr (.inr ⟨_, mul_ii a b ha hb h1 h2⟩)
    · exact .inr (.inl (mul_nan a b (.inr h2)))
  · exact .inr (.inl (mul_nan a b (.inl h1)))
theorem addB_lt (a b : Nat) (ha : a < 18446744073709551616) (hb : b < 18446744073709551616) : addB a b < 18446744073709551616 := by
  rcases add_cases a b ha hb with ⟨h1, h2⟩ | h | ⟨s, h⟩
  · rw [addB_fin a b ha hb h1 h2]; exact rn_lt _ _
  · rw [addB_none h]; decide
  · rw [addB_some h, infW_canon]; exact infW_lt s
end Go.Proofs.YtdigecacmibkpaaGreatDoor

namespace Go.Proofs.YtdigecacmibkpaaGreatDoor
open Tf
def qB (x : Nat) : Nat := if isN x = true then quiet else x
def plB (a b : Nat) : Nat := match Ieee.double.add a b with | some r => r | none => quiet
theorem plB_some {a b r : Nat} (h : Ieee.double.add a b = some r) : plB a b = r := by unfold plB; rw [h]
theorem plB_none {a b : Nat} (h : Ieee.double.add a b = none) : plB a b = quiet := by unfold plB; rw [h]
theorem quiet_N : isN quiet = true := by decide
theorem qB_of {x : Nat} (h : isN x = false) : qB x = x := by unfold qB; rw [h]; rfl
theorem qB_N {x : Nat} (h : isN x = true) : qB x = quiet := by unfold qB; rw [h]; rfl
theorem qB_lt {x : Nat} (h : x < 18446744073709551616) : qB x < 18446744073709551616 := by
  unfold qB; split
  · exact quiet_lt
  · exact h
theorem qB_isN (x : Nat) : isN (qB x) = isN x := by
  cases h : isN x
  · rw [qB_of h, h]
  · rw [qB_N h, quiet_N]
theorem qB_qB (x : Nat) : qB (qB x) = qB x := by
  cases h : isN x
  · rw [qB_of h, qB_of h]
  · rw [qB_N h]; decide
theorem add_facts {a b r : Nat} (ha : a < 18446744073709551616) (hb : b < 18446744073709551616) (h : Ieee.double.add a b = some r) : r < 18446744073709551616 /\ isN r = false := by
  rcases add_cases a b ha hb with ⟨h1, h2⟩ | h' | ⟨s, h'⟩
  · rw [add_d a b ha hb h1 h2] at h; obtain rfl := Option.some.inj h; exact ⟨rn_lt _ _, isN_rn _ _⟩
  · rw [h'] at h; cases h
  · rw [h'] at h; obtain rfl := Option.some.inj h; exact ⟨infW_lt s, by cases s <;> decide⟩
theorem add_ql (a b : Nat) : Ieee.double.add (qB a) b = Ieee.double.add a b := by
  cases h : isN a
  · rw [qB_of h]
  · rw [qB_N h, add_nan a b (.inl h), add_nan quiet b (.inl quiet_N)]
theorem add_qr (a b : Nat) : Ieee.double.add a (qB b) = Ieee.double.add a b := by
  cases h : isN b
  · rw [qB_of h]
  · rw [qB_N h, add_nan a b (.inr h), add_nan a quiet (.inr quiet_N)]
theorem plB_ql (a b : Nat) : plB (qB a) b = plB a b := by unfold plB; rw [add_ql]
theorem plB_qr (a b : Nat) : plB a (qB b) = plB a b := by unfold plB; rw [add_qr]
def IsQ (s q : Nat) : Prop := s < 18446744073709551616 /\ qB s = q
theorem IsQ.self {x : Nat} (h : x < 18446744073709551616) : IsQ x (qB x) := ⟨h, rfl⟩
theorem IsQ.lt {s q : Nat} (h : IsQ s q) : q < 18446744073709551616 := by rw [<- h.2]; exact qB_lt h.1
theorem IsQ.add {s q x y r : Nat} (h : IsQ s q) (k : IsQ x y) (e : Ieee.double.add s x = some r) : IsQ r (plB q y) := by
  refine ⟨(add_facts h.1 k.1 e).1, ?_⟩
  rw [<- h.2, <- k.2, plB_ql, plB_qr, plB_some e, qB_of (add_facts h.1 k.1 e).2]
theorem IsQ.nan {s q x y n : Nat} (h : IsQ s q) (k : IsQ x y) (e : Ieee.double.add s x = none) (n1 : n < 18446744073709551616) (n2 : isN n = true) : IsQ n (plB q y) := by
  refine ⟨n1, ?_⟩
  rw [<- h.2, <- k.2, plB_ql, plB_qr, plB_none e, qB_N n2]
def lfF (xs : Nat -> Nat) : Nat -> Nat
  | 0 => qB (xs 0)
  | k + 1 => plB (lfF xs k) (xs (k + 1))
def leftB (xs : Nat -> Nat) (n : Nat) : Nat := if n = 0 then 0 else lfF xs (n - 1)
def key (x : Nat) : Nat := 2 * mg x + (if ng x then 0 else 1)
def loB (a b : Nat) : Nat := if key b < key a then b else a
def hiB (a b : Nat) : Nat := if key b < key a then a else b
def thB (a b c : Nat) : Nat := plB (plB (loB (loB a b) (loB (hiB a b) c)) (hiB (loB a b) (loB (hiB a b) c))) (hiB (hiB a b) c)
end Go.Proofs.YtdigecacmibkpaaGreatDoor

namespace Go.Proofs.YtdigecacmibkpaaGreatDoor
open Tf Ieee
theorem th_perm (a b c : Nat) : ∃ u v z, thB a b c = plB (plB u v) z /\ ((u = a /\ v = b /\ z = c) \/ (u = a /\ v = c /\ z = b) \/ (u = b /\ v = a /\ z = c) \/ (u = b /\ v = c /\ z = a) \/ (u = c /\ v = a /\ z = b) \/ (u = c /\ v = b /\ z = a)) := by
  unfold thB
  by_cases k1 : key b < key a
  · have lk1 : loB a b = b := by unfold loB; rw [if_pos k1]
    have gk1 : hiB a b = a := by unfold hiB; rw [if_pos k1]
    rw [lk1, gk1]
    by_cases k2 : key c < key a
    · have lk2 : loB a c = c := by unfold loB; rw [if_pos k2]
      have gk2 : hiB a c = a := by unfold hiB; rw [if_pos k2]
      rw [lk2, gk2]
      by_cases k3 : key c < key b
      · have lk3 : loB b c = c := by unfold loB; rw [if_pos k3]
        have gk3 : hiB b c = b := by unfold hiB; rw [if_pos k3]
        rw [lk3, gk3]
        exact ⟨_, _, _, rfl, by simp⟩
      · have lk3 : loB b c = b := by unfold loB; rw [if_neg k3]
        have gk3 : hiB b c = c := by unfold hiB; rw [if_neg k3]
        rw [lk3, gk3]
        exact ⟨_, _, _, rfl, by simp⟩
    · have lk2 : loB a c = a := by unfold loB; rw [if_neg k2]
      have gk2 : hiB a c = c := by unfold hiB; rw [if_neg k2]
      rw [lk2, gk2]
      by_cases k3 : key a < key b
      · have lk3 : loB b a = a := by unfold loB; rw [if_pos k3]
        have gk3 : hiB b a = b := by unfold hiB; rw [if_pos k3]
        rw [lk3, gk3]
        exact ⟨_, _, _, rfl, by simp⟩
      · have lk3 : loB b a = b := by unfold loB; rw [if_neg k3]
        have gk3 : hiB b a = a := by unfold hiB; rw [if_neg k3]
        rw [lk3, gk3]
        exact ⟨_, _, _, rfl, by simp⟩
  · have lk1 : loB a b = a := by unfold loB; rw [if_neg k1]
    have gk1 : hiB a b = b := by unfold hiB; rw [if_neg k1]
    rw [lk1, gk1]
    by_cases k2 : key c < key b
    · have lk2 : loB b c = c := by unfold loB; rw [if_pos k2]
      have gk2 : hiB b c = b := by unfold hiB; rw [if_pos k2]
      rw [lk2, gk2]
      by_cases k3 : key c < key a
      · have lk3 : loB a c = c := by unfold loB; rw [if_pos k3]
        have gk3 : hiB a c = a := by unfold hiB; rw [if_pos k3]
        rw [lk3, gk3]
        exact ⟨_, _, _, rfl, by simp⟩
      · have lk3 : loB a c = a := by unfold loB; rw [if_neg k3]
        have gk3 : hiB a c = c := by unfold hiB; rw [if_neg k3]
        rw [lk3, gk3]
        exact ⟨_, _, _, rfl, by simp⟩
    · have lk2 : loB b c = b := by unfold loB; rw [if_neg k2]
      have gk2 : hiB b c = c := by unfold hiB; rw [if_neg k2]
      rw [lk2, gk2]
      by_cases k3 : key b < key a
      · have lk3 : loB a b = b := by unfold loB; rw [if_pos k3]
        have gk3 : hiB a b = a := by unfold hiB; rw [if_pos k3]
        rw [lk3, gk3]
        exact ⟨_, _, _, rfl, by simp⟩
      · have lk3 : loB a b = a := by unfold loB; rw [if_neg k3]
        have gk3 : hiB a b = b := by unfold hiB; rw [if_neg k3]
        rw [lk3, gk3]
        exact ⟨_, _, _, rfl, by simp⟩
theorem negB_lt' {x : Nat} (hx : x < 18446744073709551616) : negB x < 18446744073709551616 := by
  unfold negB
  cases h : ng x
  · have := lt_of_ng h; simp; omega
  · simp; omega
theorem negB_mg {x : Nat} (hx : x < 18446744073709551616) : mg (negB x) = mg x := by
  unfold negB
  cases h : ng x
  · have := lt_of_ng h; simp [mg]
  · have := ge_of_ng h; simp [mg]; omega
theorem negB_ng {x : Nat} (hx : x < 18446744073709551616) : ng (negB x) = !ng x := by
  unfold negB
  cases h : ng x
  · simp [ng]
  · have := ge_of_ng h; simp [ng]; omega
theorem negB_sv {x : Nat} (hx : x < 18446744073709551616) : sv (negB x) = -sv x := by
  unfold sv
  rw [negB_ng hx, negB_mg hx]
  cases ng x <;> simp
theorem negB_isN {x : Nat} (hx : x < 18446744073709551616) : isN (negB x) = isN x := by unfold isN; rw [negB_mg hx]
theorem read_neg (x : Nat) (hx : x < 18446744073709551616) : double.read (negB x) = (double.read x).opposite := by
  have h1 : negB x % 9223372036854775808 = x % 9223372036854775808 := negB_mg hx
  have h2 : (negB x / 9223372036854775808 % 2 == 1) = !(x / 9223372036854775808 % 2 == 1) := by
    unfold negB
    cases k : ng x
    · have := lt_of_ng k
      rw [show x / 9223372036854775808 = 0 by omega]
      simp only [Bool.false_eq_true, if_false]
      rw [show (x + 9223372036854775808) / 9223372036854775808 = 1 by omega]
      rfl
    · have := ge_of_ng k
      rw [show x / 9223372036854775808 = 1 by omega]
      simp only [if_true]
      rw [show (x - 9223372036854775808) / 9223372036854775808 = 0 by omega]
      rfl
  unfold Format.read
  simp only [d_sw]
  rw [h1, h2]
  generalize x % 9223372036854775808 = r
  generalize (x / 9223372036854775808 % 2 == 1) = s
  by_cases a : r < double.binade
  · rw [if_pos a, if_pos a]; rfl
  · rw [if_neg a, if_neg a]
    by_cases b : r < double.infRung
    · rw [if_pos b, if_pos b]; rfl
    · rw [if_neg b, if_neg b]
      by_cases c : r = double.infRung
      · rw [if_pos c, if_pos c]; rfl
      · rw [if_neg c, if_neg c]; rfl
theorem sub_add (a b : Nat) (hb : b < 18446744073709551616) : double.sub a b = double.add a (negB b) := by
  unfold Format.sub Format.add; rw [read_neg b hb]
theorem mul_comm (a b : Nat) : double.mul a b = double.mul b a := by
  unfold Format.mul
  cases double.read a <;> cases double.read b <;> simp [Datum.product, Bool.xor_comm, Nat.mul_comm, Int.add_comm]
def sbB (a b : Nat) : Nat := addB a (negB b)
theorem sbB_lt {a b : Nat} (ha : a < 18446744073709551616) (hb : b < 18446744073709551616) : sbB a b < 18446744073709551616 := addB_lt a _ ha (negB_lt' hb)
def mlB (a b : Nat) : Nat := match Ieee.double.mul a b with | some r => r | none => quiet
theorem mlB_some {a b r : Nat} (h : Ieee.double.mul a b = some r) : mlB a b = r := by unfold mlB; rw [h]
theorem mlB_none {a b : Nat} (h : Ieee.double.mul a b = none) : mlB a b = quiet := by unfold mlB; rw [h]
theorem mul_fact {a b r : Nat} (h : Ieee.double.mul a b = some r) (ha : a < 18446744073709551616) (hb : b < 18446744073709551616) : r < 18446744073709551616 /\ isN r = false := by
  rcases mul_cases a b ha hb with ⟨h1, h2⟩ | h' | ⟨s, h'⟩
  · have e := mul_d a b ha hb h1 h2
    rw [h] at e
    injection e with e
    generalize rung 52 1074 (mv (mg a) * mv (mg b)) = q at e
    have hm : min q 9218868437227405312 <= 9218868437227405312 := Nat.min_le_right _ _
    generalize min q 9218868437227405312 = z at e hm
    rw [isN_false]
    subst e
    cases (ng a ^^ ng b)
    · simp only [Bool.false_eq_true, if_false]; exact ⟨by omega, by unfold mg; omega⟩
    · simp only [if_true]; exact ⟨by omega, by unfold mg; omega⟩
  · rw [h] at h'; cases h'
  · rw [h] at h'
    injection h' with h'
    subst h'
    exact ⟨infW_lt s, by rw [isN_false, infW_mg]; omega⟩
theorem mlB_lt {a b : Nat} (ha : a < 18446744073709551616) (hb : b < 18446744073709551616) : mlB a b < 18446744073709551616 := by
  cases h : Ieee.double.mul a b with
  | none => rw [mlB_none h]; decide
  | some r => rw [mlB_some h]; exact (mul_fact h ha hb).1
def sqB (x : Nat) : Nat := mlB x x
theorem plB_nan {a b : Nat} (h : isN a = true \/ isN b = true) : plB a b = quiet := plB_none (add_nan a b h)
theorem thB_nan {a b c : Nat} (h : isN a = true \/ isN b = true \/ isN c = true) : thB a b c = quiet := by
  obtain ⟨u, v, z, e, hp⟩ := th_perm a b c
  rw [e]
  have hn : isN u = true \/ isN v = true \/ isN z = true := by
    rcases hp with ⟨rfl, rfl, rfl⟩ | ⟨rfl, rfl, rfl⟩ | ⟨rfl, rfl, rfl⟩ | ⟨rfl, rfl, rfl⟩ | ⟨rfl, rfl, rfl⟩ | ⟨rfl, rfl, rfl⟩ <;> rcases h with h | h | h <;> simp [h]
  rcases hn with k | k | k
  · rw [plB_nan (.inl k)]; exact plB_nan (.inl quiet_N)
  · rw [plB_nan (.inr k)]; exact plB_nan (.inl quiet_N)
  · exact plB_nan (.inr k)
theorem thB_q (a b c : Nat) : thB a b c = thB (qB a) (qB b) (qB c) := by
  cases h1 : isN a
  · cases h2 : isN b
    · cases h3 : isN c
      · rw [qB_of h1, qB_of h2, qB_of h3]
      · rw [thB_nan (.inr (.inr h3)), thB_nan (.inr (.inr (by rw [qB_isN]; exact h3)))]
    · rw [thB_nan (.inr (.inl h2)), thB_nan (.inr (.inl (by rw [qB_isN]; exact h2)))]
  · rw [thB_nan (.inl h1), thB_nan (.inl (by rw [qB_isN]; exact h1))]
def rtB (x : Nat) : Nat := match Ieee.double.sqrt x with | some r => canonB r | none => quiet
def dvB (a b : Nat) : Nat := match Ieee.double.div a b with | some r => canonB r | none => quiet
theorem rtB_some {x r : Nat} (h : Ieee.double.sqrt x = some r) : rtB x = canonB r := by unfold rtB; rw [h]
theorem rtB_none {x : Nat} (h : Ieee.double.sqrt x = none) : rtB x = quiet := by unfold rtB; rw [h]
theorem dvB_some {a b r : Nat} (h : Ieee.double.div a b = some r) : dvB a b = canonB r := by unfold dvB; rw [h]
theorem dvB_none {a b : Nat} (h : Ieee.double.div a b = none) : dvB a b = quiet := by unfold dvB; rw [h]
theorem canon_lt {x : Nat} (hx : x < 18446744073709551616) : canonB x < 18446744073709551616 := by
  unfold canonB; split
  · decide
  · split
    · decide
    · exact hx
def lnB (x y z : Nat) : Nat := rtB (thB (sqB x) (sqB y) (sqB z))
end Go.Proofs.YtdigecacmibkpaaGreatDoor

namespace Go.Proofs.YtdigecacmibkpaaGreatDoor
open Tf Ieee
def Md (x : Nat) : Prop := mg x = 0 \/ (4503599627370496 <= mg x /\ mg x + 4503599627370496 < 9218868437227405312)
theorem Md.w {x : Nat} (h : Md x) : mg x = 0 \/ mg x + 4503599627370496 < 9223372036854775808 := by rcases h with h | h; exact .inl h; exact .inr (by omega)
theorem Md.fin {x : Nat} (h : Md x) : mg x < 9218868437227405312 := by rcases h with h | h <;> omega
theorem Md.neg {x : Nat} (h : Md x) (hx : x < 18446744073709551616) : Md (negB x) := by unfold Md; rw [negB_mg hx]; exact h
end Go.Proofs.YtdigecacmibkpaaGreatDoor

namespace Go.Proofs.YtdigecacmibkpaaGreatDoor
open Tf Ieee
theorem mul_w {x y : Nat} (hx : x < 18446744073709551616) (hy : y < 18446744073709551616) (fx : mg x < 9218868437227405312) (fy : mg y < 9218868437227405312) :
    mlB x y = if (ng x ^^ ng y) then 9223372036854775808 + min (rung 52 1074 (mv (mg x) * mv (mg y))) 9218868437227405312 else min (rung 52 1074 (mv (mg x) * mv (mg y))) 9218868437227405312 :=
  mlB_some (mul_d x y hx hy fx fy)
theorem rung_none (d : Nat) : rung 52 d 0 = 0 := by
  have := rung_mag 52 d 0 (by omega)
  rwa [mag_zero, Nat.zero_mul] at this
def wd (s : Bool) (r : Nat) : Nat := if s then 9223372036854775808 + r else r
theorem wd_mg {s : Bool} {r : Nat} (h : r < 9223372036854775808) : mg (wd s r) = r := by unfold wd mg; cases s <;> simp <;> omega
def Far (x y : Nat) : Prop := (mg x = 0 \/ mg y = 0) \/ (52 + 1074 <= (mv (mg x) * mv (mg y)).log2 /\ rung 52 1074 (mv (mg x) * mv (mg y)) + 4503599627370496 < 9218868437227405312)
end Go.Proofs.YtdigecacmibkpaaGreatDoor

namespace Go.Proofs.YtdigecacmibkpaaGreatDoor
open Tf Ieee
def sgn (x : Nat) : Bool := x / 9223372036854775808 % 2 == 1
theorem read_zero {x : Nat} (h : mg x = 0) : double.read x = .number (sgn x) 0 double.leastPlace := by
  unfold Format.read
  simp only [d_sw, d_bin, d_inf]
  have hmg : x % 9223372036854775808 = mg x := rfl
  rw [hmg, if_pos (by omega), h]
  rfl
end Go.Proofs.YtdigecacmibkpaaGreatDoor

namespace Go.Proofs.YtdigecacmibkpaaGreatDoor
open Tf Ieee
theorem mv_parts {r : Nat} (h : 4503599627370496 <= r) : mv r = (4503599627370496 + r % 4503599627370496) * 2 ^ (r / 4503599627370496 - 1) := by
  unfold mv mag
  have e : (2 : Nat) ^ 52 = 4503599627370496 := by decide
  rw [if_neg (by omega), e]
end Go.Proofs.YtdigecacmibkpaaGreatDoor

namespace Go.Proofs.YtdigecacmibkpaaGreatDoor
open Go.RowKit Tf
theorem run_bits (b : Nat) (w : World) : (callFunc 78 #[.float .f64 b]).run Tryz.prog w = .ok (.value (.int .u64 b)) w := by
  rw [run_callFunc_extern (e := Extern.MathFloatBits.float64bits) Tryz.func78 (by kernel_rfl) (by kernel_rfl) (by kernel_rfl) (by kernel_rfl)]
  rfl
theorem run_from (n : Int) (w : World) : (callFunc 80 #[.int .u64 n]).run Tryz.prog w = .ok (.value (.float .f64 n.toNat)) w := by
  rw [run_callFunc_extern (e := Extern.MathFloatBits.float64frombits) Tryz.func80 (by kernel_rfl) (by kernel_rfl) (by kernel_rfl) (by kernel_rfl)]
  rfl
theorem raw_feq (a b : Nat) : (FloatKind.f64.format.order a b == some Ordering.eq) = feq a b := rfl
theorem raw_fne (a b : Nat) : (FloatKind.f64.format.order a b != some Ordering.eq) = !feq a b := rfl
theorem raw_flt (a b : Nat) : (FloatKind.f64.format.order a b == some Ordering.lt) = flt a b := rfl
theorem raw_fgt (a b : Nat) : (FloatKind.f64.format.order a b == some Ordering.gt) = fgt a b := rfl
attribute [local go_sem] run_bits run_from raw_feq raw_fne raw_flt raw_fgt
theorem ret_int {k : IntKind} {a b : Int} (h : a = b) : Ending.returned (.int k a) = .returned (.int k b) := by rw [h]
theorem ret_bool {a b : Bool} (h : a = b) : Ending.returned (.bool a) = .returned (.bool b) := by rw [h]
theorem ret_flt {a b : Nat} (h : a = b) : Ending.returned (.float .f64 a) = .returned (.float .f64 b) := by rw [h]
theorem magnitudeBits_any (x : Nat) (w : World) (hx : x < 18446744073709551616) :
    Calls Tryz.prog 128 #[.float .f64 x] w fun e w' => e = .returned (.int .u64 (mg x : Nat)) /\ w' = w := by
  go_enter Tryz.func128, Tryz.ntmps128
  go_wp2
  go_ret
  exact ⟨ret_int (andNot_sign x hx), rfl⟩
theorem place_any (x : Nat) (w : World) (hx : x < 18446744073709551616) :
    Calls Tryz.prog 192 #[.float .f64 x] w fun e w' => e = .returned (.int .u64 (placeB x : Nat)) /\ w' = w := by
  have hs := and_sign x hx
  cases hn : ng x
  · rw [hn] at hs
    have hl := lt_of_ng hn
    have ho : Hid (bits .or .u64 (x : Int) 9223372036854775808 = ((x + 9223372036854775808 : Nat) : Int)) := or_sign x hl
    have hp : Hid (placeB x = x + 9223372036854775808) := by unfold placeB; rw [hn]; rfl
    go_enter Tryz.func192, Tryz.ntmps192
    go_wp2
    go_ret
    exact ⟨ret_int (by rw [ho.out, hp.out]), rfl⟩
  · rw [hn] at hs
    have ho : Hid (bits .xor .u64 IntKind.u64.max (x : Int) = ((18446744073709551615 - x : Nat) : Int)) := not_all x hx
    have hp : Hid (placeB x = 18446744073709551615 - x) := by unfold placeB; rw [hn]; rfl
    go_enter Tryz.func192, Tryz.ntmps192
    go_wp2
    go_ret
    exact ⟨ret_int (by rw [hp.out]; exact ho.out), rfl⟩
theorem isNaN_any (x : Nat) (w : World) (hx : x < 18446744073709551616) :
    Calls Tryz.prog 93 #[.float .f64 x] w fun e w' => e = .returned (.bool (isN x)) /\ w' = w := by
  go_enter Tryz.func93, Tryz.ntmps93
  go_wp2_with (go_at_call 128; refine (magnitudeBits_any _ _ hx).mono ?_; rintro e w' ⟨rfl, rfl⟩)
  go_ret
  exact ⟨ret_bool (by unfold isN; exact decide_eq_decide.2 (by omega)), rfl⟩
theorem quietNaN_any (w : World) :
    Calls Tryz.prog 94 #[] w fun e w' => e = .returned (.float .f64 quiet) /\ w' = w := by
  go_enter Tryz.func94, Tryz.ntmps94
  go_wp2
  go_ret
  exact ⟨rfl, rfl⟩
theorem feq_zero (x : Nat) (hx : x < 18446744073709551616) : feq x 0 = decide (mg x = 0) := by
  have h := feq_rk x 0 hx (by omega)
  have e : rk 0 = 0 := by decide
  have n : isN 0 = false := by decide
  rw [h, e, n]
  cases hN : isN x
  · unfold rk
    cases ng x <;> simp
  · have := isN_true.1 hN
    have : ¬ mg x = 0 := by omega
    simp [this]
theorem magnitudeBits_at (x m : Nat) (w : World) (hx : x < 18446744073709551616) (hm : Hid (mg x = m)) :
    Calls Tryz.prog 128 #[.float .f64 x] w fun e w' => e = .returned (.int .u64 (m : Nat)) /\ w' = w := by
  have := magnitudeBits_any x w hx
  rwa [hm.out] at this
theorem class_at (x m : Nat) (c : Int) (w : World) (hx : x < 18446744073709551616) (hm : Hid (mg x = m)) (hc : Hid ((if m = 0 then 0 else if m < 4503599627370496 then 1 else if m < 9218868437227405312 then 2 else if m = 9218868437227405312 then 3 else 4) = c)) :
    Calls Tryz.prog 147 #[.float .f64 x] w fun e w' => e = .returned (.int .i64 c) /\ w' = w := by
  by_cases c0 : m = 0
  · subst c0
    go_enter Tryz.func147, Tryz.ntmps147
    go_wp2_with (go_at_call 128; refine (magnitudeBits_at x _ _ hx hm).mono ?_; rintro e w' ⟨rfl, rfl⟩)
    go_ret
    exact ⟨ret_int hc.out, rfl⟩
  · have e0 : ((m : Int) == 0) = false := by simp; omega
    by_cases c1 : m < 4503599627370496
    · have h := hc.out
      rw [if_neg c0, if_pos c1] at h
      subst h
      have e1 : decide ((m : Int) < 4503599627370496) = true := by simp; omega
      clear hc c0 c1
      go_enter Tryz.func147, Tryz.ntmps147
      go_wp2_with (go_at_call 128; refine (magnitudeBits_at x _ _ hx hm).mono ?_; rintro e w' ⟨rfl, rfl⟩)
      go_ret
      exact ⟨rfl, rfl⟩
    · by_cases c2 : m < 9218868437227405312
      · have h := hc.out
        rw [if_neg c0, if_neg c1, if_pos c2] at h
        subst h
        have e1 : decide ((m : Int) < 4503599627370496) = false := by simp; omega
        have e2 : decide ((m : Int) < 9218868437227405312) = true := by simp; omega
        clear hc c0 c1 c2
        go_enter Tryz.func147, Tryz.ntmps147
        go_wp2_with (go_at_call 128; refine (magnitudeBits_at x _ _ hx hm).mono ?_; rintro e w' ⟨rfl, rfl⟩)
        go_ret
        exact ⟨rfl, rfl⟩
      · by_cases c3 : m = 9218868437227405312
        · have h := hc.out
          rw [if_neg c0, if_neg c1, if_neg c2, if_pos c3] at h
          subst h
          clear hc
          subst c3
          go_enter Tryz.func147, Tryz.ntmps147
          go_wp2_with (go_at_call 128; refine (magnitudeBits_at x _ _ hx hm).mono ?_; rintro e w' ⟨rfl, rfl⟩)
          go_ret
          exact ⟨rfl, rfl⟩
        · have e3 : ((m : Int) == 9218868437227405312) = false := by simp; omega
          have h := hc.out
          rw [if_neg c0, if_neg c1, if_neg c2, if_neg c3] at h
          subst h
          have e1 : decide ((m : Int) < 4503599627370496) = false := by simp; omega
          have e2 : decide ((m : Int) < 9218868437227405312) = false := by simp; omega
          clear hc c0 c1 c2 c3
          go_enter Tryz.func147, Tryz.ntmps147
          go_wp2_with (go_at_call 128; refine (magnitudeBits_at x _ _ hx hm).mono ?_; rintro e w' ⟨rfl, rfl⟩)
          go_ret
          exact ⟨rfl, rfl⟩
theorem class_any (x : Nat) (w : World) (hx : x < 18446744073709551616) :
    Calls Tryz.prog 147 #[.float .f64 x] w fun e w' => e = .returned (.int .i64 (classB x)) /\ w' = w :=
  class_at x (mg x) (classB x) w hx rfl rfl
theorem canon_any (x : Nat) (w : World) (hx : x < 18446744073709551616) :
    Calls Tryz.prog 52 #[.float .f64 x] w fun e w' => e = .returned (.float .f64 (canonB x)) /\ w' = w := by
  have hc : Hid (canonB x = if isN x then quiet else if mg x = 0 then 0 else x) := rfl
  have hz := feq_zero x hx
  cases hN : isN x
  · have HN := hid hN
    by_cases c : mg x = 0
    · have H : Hid (mg x = 0) := c
      rw [c] at hz; simp only [decide_true] at hz
      clear c
      go_enter Tryz.func52, Tryz.ntmps52
      go_wp2_with (first | (go_at_call 93; refine (isNaN_any _ _ hx).mono ?_; rintro e w' ⟨rfl, rfl⟩) | (go_at_call 94; refine (quietNaN_any _).mono ?_; rintro e w' ⟨rfl, rfl⟩))
      go_ret
      exact ⟨ret_flt (by rw [hc.out, HN.out, H.out]; rfl), rfl⟩
    · simp only [c, decide_false] at hz
      go_enter Tryz.func52, Tryz.ntmps52
      go_wp2_with (first | (go_at_call 93; refine (isNaN_any _ _ hx).mono ?_; rintro e w' ⟨rfl, rfl⟩) | (go_at_call 94; refine (quietNaN_any _).mono ?_; rintro e w' ⟨rfl, rfl⟩))
      go_ret
      exact ⟨ret_flt (by rw [hc.out, HN.out, if_neg c]; rfl), rfl⟩
  · have HN := hid hN
    go_enter Tryz.func52, Tryz.ntmps52
    go_wp2_with (first | (go_at_call 93; refine (isNaN_any _ _ hx).mono ?_; rintro e w' ⟨rfl, rfl⟩) | (go_at_call 94; refine (quietNaN_any _).mono ?_; rintro e w' ⟨rfl, rfl⟩))
    go_ret
    exact ⟨ret_flt (by rw [hc.out, HN.out]; rfl), rfl⟩
end Go.Proofs.YtdigecacmibkpaaGreatDoor

namespace Go.Proofs.YtdigecacmibkpaaGreatDoor
open Go.RowKit Tf
attribute [local go_sem] run_bits run_from raw_feq raw_fne raw_flt raw_fgt
theorem xor_lt (x : Nat) (h : x < 2 ^ 63) : x ^^^ 2 ^ 63 = x + 2 ^ 63 := by
  apply Nat.eq_of_testBit_eq
  intro i
  rw [Nat.testBit_xor, Nat.testBit_two_pow, Nat.add_comm x]
  by_cases c : i = 63
  · subst c
    rw [Nat.testBit_two_pow_add_eq]
    have : x.testBit 63 = false := Nat.testBit_lt_two_pow h
    simp [this]
  · by_cases c2 : i < 63
    · rw [Nat.testBit_two_pow_add_gt c2]
      have : ¬ 63 = i := by omega
      simp [this]
    · have h1 : x.testBit i = false := Nat.testBit_lt_two_pow (Nat.lt_of_lt_of_le h (Nat.pow_le_pow_right (by omega) (by omega)))
      have h2 : (2 ^ 63 + x).testBit i = false := Nat.testBit_lt_two_pow (Nat.lt_of_lt_of_le (show 2 ^ 63 + x < 2 ^ 64 by omega) (Nat.pow_le_pow_right (by omega) (by omega)))
      have : ¬ 63 = i := by omega
      rw [h1, h2]; simp [this]
theorem negFloat_eq (x : Nat) (hx : x < 18446744073709551616) : Op.negFloat .f64 x = negB x := by
  unfold Op.negFloat negB
  rw [show FloatKind.f64.format.exponentBits + FloatKind.f64.format.fractionBits = 63 from rfl]
  cases h : ng x
  · have := lt_of_ng h
    rw [xor_lt x (by omega)]; simp only [Bool.false_eq_true, if_false]
  · have := ge_of_ng h
    have e := xor_lt (x - 9223372036854775808) (by omega)
    rw [show x - 9223372036854775808 + 2 ^ 63 = x by omega] at e
    have e2 : x ^^^ 2 ^ 63 = x - 9223372036854775808 := by
      rw (occs := .pos [1]) [<- e]
      rw [Nat.xor_assoc, Nat.xor_self, Nat.xor_zero]
    rw [e2]; simp only [if_true]
theorem run_neg (b : Nat) : Op.unary .neg (.float .f64 b) = pure (.float .f64 (Op.negFloat .f64 b)) := rfl
attribute [local go_sem] run_neg
end Go.Proofs.YtdigecacmibkpaaGreatDoor

namespace Go.Proofs.YtdigecacmibkpaaGreatDoor
open Go.RowKit Tf
attribute [local go_sem] run_bits run_from raw_feq raw_fne raw_flt raw_fgt run_neg
def sameB (a b : Nat) : Bool := decide (a = b)
theorem rawSame_any (a b : Nat) (w : World) :
    Calls Tryz.prog 79 #[.float .f64 a, .float .f64 b] w fun e w' => e = .returned (.bool (sameB a b)) /\ w' = w := by
  go_enter Tryz.func79, Tryz.ntmps79
  go_wp2
  go_ret
  refine ⟨ret_bool ?_, rfl⟩
  unfold sameB
  by_cases h : a = b
  · subst h; simp
  · have : ¬ (a : Int) = (b : Int) := by omega
    simp only [h, decide_false, beq_eq_false_iff_ne, ne_eq, this, not_false_eq_true]
theorem from_any (a : Int) (w : World) :
    Calls Tryz.prog 48 #[.int .u64 a] w fun e w' => e = .returned (.float .f64 a.toNat) /\ w' = w := by
  go_enter Tryz.func48, Tryz.ntmps48
  go_wp2
  go_ret
  exact ⟨rfl, rfl⟩
theorem order_at (a b p q : Nat) (w : World) (ha : a < 18446744073709551616) (hb : b < 18446744073709551616) (hp : Hid (placeB a = p)) (hq : Hid (placeB b = q)) :
    Calls Tryz.prog 190 #[.float .f64 a, .float .f64 b] w fun e w' => e = .returned (.int .i64 (if p < q then -1 else if q < p then 1 else 0)) /\ w' = w := by
  have pa : ∀ w, Calls Tryz.prog 192 #[.float .f64 a] w fun e w' => e = .returned (.int .u64 (p : Nat)) /\ w' = w := by
    intro w; rw [<- hp.out]; exact place_any a w ha
  have pb : ∀ w, Calls Tryz.prog 192 #[.float .f64 b] w fun e w' => e = .returned (.int .u64 (q : Nat)) /\ w' = w := by
    intro w; rw [<- hq.out]; exact place_any b w hb
  have PA := hid pa
  have PB := hid pb
  clear pa pb
  by_cases c1 : p < q
  · rw [if_pos c1]
    go_enter Tryz.func190, Tryz.ntmps190
    go_wp2_with fail
    refine (PA.out _).mono ?_
    rintro e w' ⟨rfl, rfl⟩
    go_wp2_with fail
    refine (PB.out _).mono ?_
    rintro e w' ⟨rfl, rfl⟩
    go_wp2
    go_ret
    exact ⟨rfl, rfl⟩
  · rw [if_neg c1]
    by_cases c2 : q < p
    · rw [if_pos c2]
      go_enter Tryz.func190, Tryz.ntmps190
      go_wp2_with fail
      refine (PA.out _).mono ?_
      rintro e w' ⟨rfl, rfl⟩
      go_wp2_with fail
      refine (PB.out _).mono ?_
      rintro e w' ⟨rfl, rfl⟩
      go_wp2
      go_ret
      exact ⟨rfl, rfl⟩
    · rw [if_neg c2]
      go_enter Tryz.func190, Tryz.ntmps190
      go_wp2_with fail
      refine (PA.out _).mono ?_
      rintro e w' ⟨rfl, rfl⟩
      go_wp2_with fail
      refine (PB.out _).mono ?_
      rintro e w' ⟨rfl, rfl⟩
      go_wp2
      go_ret
      exact ⟨rfl, rfl⟩
theorem order_any (a b : Nat) (w : World) (ha : a < 18446744073709551616) (hb : b < 18446744073709551616) :
    Calls Tryz.prog 190 #[.float .f64 a, .float .f64 b] w fun e w' => e = .returned (.int .i64 (orderB a b)) /\ w' = w :=
  order_at a b (placeB a) (placeB b) w ha hb rfl rfl
theorem orderB_at (a b : Nat) (o : Int) (w : World) (ha : a < 18446744073709551616) (hb : b < 18446744073709551616) (ho : Hid (orderB a b = o)) :
    Calls Tryz.prog 190 #[.float .f64 a, .float .f64 b] w fun e w' => e = .returned (.int .i64 o) /\ w' = w := by
  rw [<- ho.out]; exact order_any a b w ha hb
theorem orderB_lt (a b : Nat) : orderB a b < 0 ↔ placeB a < placeB b := by
  unfold orderB; split
  · simp_all
  · split <;> simp_all
theorem orderB_gt (a b : Nat) : 0 < orderB a b ↔ placeB b < placeB a := by
  unfold orderB; split
  · simp; omega
  · split <;> simp_all
theorem rk_bound (x : Nat) (h : isN x = false) : -9218868437227405312 <= rk x /\ rk x <= 9218868437227405312 := by
  have := isN_false.1 h
  unfold rk; split <;> omega
def nanOf (w : World) (x y : Nat) : Nat := (Question.nanBits .f64 x y).cut (w.tape w.drawn (.nanBits .f64 x y))
theorem nanOf_lt (w : World) (x y : Nat) : nanOf w x y < 18446744073709551616 := by
  unfold nanOf Question.cut
  simp only []
  omega
theorem isN_nanOf (w : World) (x y : Nat) : isN (nanOf w x y) = true := by
  rw [isN_true]
  unfold nanOf Question.cut mg
  simp only []
  generalize w.tape w.drawn (Question.nanBits FloatKind.f64 x y) = t
  have hb : t / 2 % (2 ^ 52 - 1) < 2 ^ 52 - 1 := Nat.mod_lt _ (by omega)
  generalize t / 2 % (2 ^ 52 - 1) = b at *
  have ha : t % 2 = 0 \/ t % 2 = 1 := by omega
  rcases ha with h | h <;> rw [h] <;> omega
theorem run_nan_sub {P : Program} (w : World) (t : TypeId) (x y : Nat) (h : Ieee.double.sub x y = none) :
    (binOp .sub t (.float .f64 x) (.float .f64 y)).run P w = .ok (.float .f64 (nanOf w x y)) w.drew := by
  have h' : FloatKind.f64.format.sub x y = none := h
  simp [binOp, Op.floatArith, h', nanOf, Question.forced]
end Go.Proofs.YtdigecacmibkpaaGreatDoor

namespace Go.Proofs.YtdigecacmibkpaaGreatDoor
open Go.RowKit Tf
attribute [local go_sem] run_bits run_from raw_feq raw_fne raw_flt raw_fgt
theorem run_nan_add {P : Program} (w : World) (t : TypeId) (x y : Nat) (h : Ieee.double.add x y = none) :
    (binOp .add t (.float .f64 x) (.float .f64 y)).run P w = .ok (.float .f64 (nanOf w x y)) w.drew := by
  have h' : FloatKind.f64.format.add x y = none := h
  simp [binOp, Op.floatArith, h', nanOf, Question.forced]
theorem run_nan_mul {P : Program} (w : World) (t : TypeId) (x y : Nat) (h : Ieee.double.mul x y = none) :
    (binOp .mul t (.float .f64 x) (.float .f64 y)).run P w = .ok (.float .f64 (nanOf w x y)) w.drew := by
  have h' : FloatKind.f64.format.mul x y = none := h
  simp [binOp, Op.floatArith, h', nanOf, Question.forced]
theorem abs_any (x : Nat) (w : World) (hx : x < 18446744073709551616) :
    Calls Tryz.prog 191 #[.float .f64 x] w fun e w' => e = .returned (.float .f64 (mg x)) /\ w' = w := by
  go_enter Tryz.func191, Tryz.ntmps191
  go_wp2
  go_ret
  refine ⟨ret_flt ?_, rfl⟩
  rw [andNot_sign x hx]; rfl
theorem rk_pos (m : Nat) (h : m < 9223372036854775808) : rk m = m := by
  unfold rk; rw [ng_of_lt h, if_neg (by decide), mg_of_lt h]
end Go.Proofs.YtdigecacmibkpaaGreatDoor

namespace Go.Proofs.YtdigecacmibkpaaGreatDoor
open Go.RowKit Tf
attribute [local go_sem] run_bits run_from raw_feq raw_fne raw_flt raw_fgt run_neg
theorem canon_at (x : Nat) (r : Nat) (w : World) (hx : x < 18446744073709551616) (hr : canonB x = r) :
    Calls Tryz.prog 52 #[.float .f64 x] w fun e w' => e = .returned (.float .f64 r) /\ w' = w := by
  subst hr; exact canon_any x w hx
end Go.Proofs.YtdigecacmibkpaaGreatDoor
