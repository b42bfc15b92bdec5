/-
  A length is no less than the parts, by plain numbers (no program).
-/
import Derived.Test.YtgbaaafikphafaaNu
import Derived.Test.YtgbaaafikphafaaNk
namespace Go.Proofs.Ytgbaaafikphafaa
open Tf Ieee
theorem rung_ge2 {d r V : Nat} (h : mv r * 2 ^ d ≤ V) : r ≤ rung 52 d V := rung_ge (by omega) h
theorem rung_le2 {d r V : Nat} (h : V ≤ mv r * 2 ^ d) : rung 52 d V ≤ r := rung_le (by omega) h
/-- how far a rounded number is off -/
theorem near_err {d V R : Nat} (hR : rung 52 d V = R) (h : 4503599627370496 ≤ R) :
    9007199254740992 * V ≤ 9007199254740993 * (mv R * 2 ^ d) ∧ 9007199254740991 * (mv R * 2 ^ d) ≤ 9007199254740992 * V := by
  obtain ⟨q, h1, h2⟩ := floor_ex 52 d V
  have hb := rung_between 52 d q V (by omega) h1 h2
  rw [hR] at hb
  have e1 : mag 52 q = mv q := rfl
  have e2 : mag 52 (q + 1) = mv (q + 1) := rfl
  rw [e1, e2] at hb
  rw [e1] at h1
  rw [e2] at h2
  have hn := mv_next q
  have hbig : ∀ r, 4503599627370496 ≤ r → 4503599627370496 * 2 ^ (r / 4503599627370496 - 1) ≤ mv r := by
    intro r hr
    rw [mv_parts hr]
    exact Nat.mul_le_mul_right _ (by omega)
  have hmono : 2 ^ (q / 4503599627370496 - 1) ≤ 2 ^ ((q + 1) / 4503599627370496 - 1) := Nat.pow_le_pow_right (by omega) (by
    have : q / 4503599627370496 ≤ (q + 1) / 4503599627370496 := Nat.div_le_div_right (by omega)
    omega)
  have key : 4503599627370496 * 2 ^ (q / 4503599627370496 - 1) ≤ mv R := by
    split at hb
    · rw [hb]
      exact Nat.le_trans (Nat.mul_le_mul_left _ hmono) (hbig (q + 1) (by omega))
    · rw [hb]; exact hbig q (by omega)
  clear hbig hmono
  generalize 2 ^ (q / 4503599627370496 - 1) = g at *
  generalize 2 ^ d = b at *
  have kb := Nat.mul_le_mul_right b key
  rw [Nat.mul_assoc] at kb
  rw [hn, Nat.add_mul] at h2
  split at hb
  · next c =>
    rw [hb, hn] at kb ⊢
    rw [hn] at c
    rw [Nat.add_mul] at kb ⊢
    rw [Nat.add_mul, Nat.add_mul] at c
    generalize mv q * b = A at *
    generalize g * b = G at *
    omega
  · next c =>
    rw [hb] at kb ⊢
    rw [hn] at c
    rw [Nat.add_mul, Nat.add_mul] at c
    generalize mv q * b = A at *
    generalize g * b = G at *
    omega
/-- a number whose square is normal -/
def Gn (x : Nat) : Prop := 4503599627370496 ≤ mg (sqB x) ∧ mg (sqB x) < 9218868437227405312
theorem sq_word {x : Nat} (hx : x < 18446744073709551616) (fx : mg x < 9218868437227405312) : sqB x = min (rung 52 1074 (mv (mg x) * mv (mg x))) 9218868437227405312 := by
  unfold sqB
  rw [mlB_some (mul_d x x hx hx fx fx), Bool.xor_self]
  simp
theorem sq_inf {x : Nat} (hx : x < 18446744073709551616) (h : mg x = 9218868437227405312) : sqB x = 9218868437227405312 := by
  unfold sqB
  rw [mlB_some (mul_ii x x hx hx h h), Bool.xor_self]
  rfl
theorem Gn.fin {x : Nat} (hx : x < 18446744073709551616) (h : Gn x) : mg x < 9218868437227405312 := by
  rcases three x with k | k | k
  · exact k
  · exfalso
    have := h.2
    rw [sq_inf hx k] at this
    exact absurd this (by decide)
  · exfalso
    have := h.2
    unfold sqB at this
    rw [mlB_none (mul_nan _ _ (.inl k))] at this
    exact absurd this (by decide)
theorem sub_small : 4503599627370496 * 4503599627370496 ≤ mv 1 * 2 ^ K := by decide +kernel
theorem Gn.norm {x : Nat} (hx : x < 18446744073709551616) (h : Gn x) : 4503599627370496 ≤ mg x := by
  rcases Nat.lt_or_ge (mg x) 4503599627370496 with k | k
  · exfalso
    have h1 := h.1
    have e0 : mg x < 2 ^ 52 := by
      have e : (2 : Nat) ^ 52 = 4503599627370496 := by decide
      omega
    have e : mv (mg x) = mg x := by unfold mv mag; rw [if_pos e0]
    have h2 : mv (mg x) * mv (mg x) ≤ mv 1 * 2 ^ K := by
      rw [e]
      exact Nat.le_trans (Nat.mul_le_mul (by omega) (by omega)) sub_small
    have h3 : rung 52 1074 (mv (mg x) * mv (mg x)) ≤ 1 := rung_le2 (d := K) h2
    rw [sq_word hx (by omega)] at h1
    generalize rung 52 1074 (mv (mg x) * mv (mg x)) = r at *
    rw [mg_of_lt (by omega)] at h1
    omega
  · exact k
/-- the square in units, and how far it is off -/
theorem Gn.err {x : Nat} (hx : x < 18446744073709551616) (h : Gn x) :
    9007199254740992 * (mv (mg x) * mv (mg x)) ≤ 9007199254740993 * (mv (mg (sqB x)) * 2 ^ K) ∧ 9007199254740991 * (mv (mg (sqB x)) * 2 ^ K) ≤ 9007199254740992 * (mv (mg x) * mv (mg x)) := by
  have hf := h.fin hx
  have e := sq_word hx hf
  obtain ⟨h1, h2⟩ := h
  have hr : rung 52 1074 (mv (mg x) * mv (mg x)) = mg (sqB x) := by
    rw [e] at h2 ⊢
    generalize rung 52 1074 (mv (mg x) * mv (mg x)) = r at *
    have hm : mg (min r 9218868437227405312) = min r 9218868437227405312 := mg_of_lt (Nat.lt_of_le_of_lt (Nat.min_le_right _ _) (by decide))
    rw [hm] at h2 ⊢
    omega
  exact near_err (d := K) hr h1
theorem mul_sq (m g : Nat) : m * g * (m * g) = m * m * (g * g) := Nat.mul_mul_mul_comm m g m g
theorem sq_plus (t : Nat) : (2 * t + 1) * (2 * t + 1) = 4 * (t * t) + 4 * t + 1 := by
  rw [Nat.add_mul, Nat.mul_add, Nat.mul_mul_mul_comm]
  omega
theorem sq_minus (t : Nat) : (2 * t + 1) * (2 * t + 1) + 4 * (t + 1) = 4 * ((t + 1) * (t + 1)) + 1 := by
  have h1 := sq_plus t
  have h5 : (t + 1) * (t + 1) = t * t + 2 * t + 1 := by rw [Nat.add_mul, Nat.mul_add]; omega
  omega
/-- halfway below x, squared, is less than its rounded square; halfway above, more -/
theorem Gn.mid {x : Nat} (hx : x < 18446744073709551616) (h : Gn x) :
    (mv (mg x - 1) + mv (mg x)) * (mv (mg x - 1) + mv (mg x)) < 4 * (mv (mg (sqB x)) * 2 ^ K) ∧ 4 * (mv (mg (sqB x)) * 2 ^ K) < (mv (mg x) + mv (mg x + 1)) * (mv (mg x) + mv (mg x + 1)) := by
  have hn := h.norm hx
  obtain ⟨e1, e2⟩ := h.err hx
  generalize mv (mg (sqB x)) * 2 ^ K = N at *
  generalize mg x = r at *
  have hp := mv_parts hn
  have hq : r % 4503599627370496 < 4503599627370496 := Nat.mod_lt _ (by omega)
  have hnx := mv_next r
  have hpv := mv_next (r - 1)
  rw [show r - 1 + 1 = r by omega] at hpv
  by_cases c : r % 4503599627370496 = 0
  · -- a power of two: below it the numbers lie closer
    rw [c, Nat.add_zero] at hp
    have hg : 2 ^ (r / 4503599627370496 - 1) ≤ 2 * 2 ^ ((r - 1) / 4503599627370496 - 1) := by
      rw [show (2 : Nat) * 2 ^ ((r - 1) / 4503599627370496 - 1) = 2 ^ (((r - 1) / 4503599627370496 - 1) + 1) by rw [Nat.pow_succ, Nat.mul_comm]]
      exact Nat.pow_le_pow_right (by omega) (by omega)
    have gp := Nat.two_pow_pos (r / 4503599627370496 - 1)
    generalize 2 ^ (r / 4503599627370496 - 1) = g at *
    generalize 2 ^ ((r - 1) / 4503599627370496 - 1) = f at *
    rw [hnx]
    generalize mv (r - 1) = A at *
    generalize mv r = X at *
    have hA : 2 * (A + X) ≤ 18014398509481983 * g := by omega
    have hA2 := Nat.mul_le_mul hA hA
    have hB : (X + (X + g)) = 9007199254740993 * g := by omega
    rw [hB, mul_sq]
    rw [hp, mul_sq] at e1 e2
    have zp : 0 < g * g := Nat.mul_pos gp gp
    have hS : 2 * (A + X) * (2 * (A + X)) = 4 * ((A + X) * (A + X)) := by rw [Nat.mul_mul_mul_comm]
    rw [hS, mul_sq 18014398509481983 g] at hA2
    generalize (A + X) * (A + X) = S at *
    generalize g * g = Z at *
    omega
  · have hd : (r - 1) / 4503599627370496 = r / 4503599627370496 := by omega
    rw [hd] at hpv
    have gp := Nat.two_pow_pos (r / 4503599627370496 - 1)
    generalize 2 ^ (r / 4503599627370496 - 1) = g at *
    obtain ⟨m, hm⟩ : ∃ m, 4503599627370496 + r % 4503599627370496 = m := ⟨_, rfl⟩
    rw [hm] at hp
    have m1 : 4503599627370496 ≤ m := by omega
    have m2 : m ≤ 9007199254740991 := by omega
    rw [hnx]
    generalize mv (r - 1) = A at *
    generalize mv r = X at *
    have hA : A + X = (2 * m - 1) * g := by
      rw [Nat.sub_mul, Nat.mul_assoc, ← hp, Nat.one_mul]
      omega
    have hB : X + (X + g) = (2 * m + 1) * g := by
      rw [Nat.add_mul, Nat.mul_assoc, ← hp, Nat.one_mul]
      omega
    rw [hA, hB, mul_sq, mul_sq]
    rw [hp, mul_sq] at e1 e2
    have zp : 0 < g * g := Nat.mul_pos gp gp
    generalize g * g = Z at *
    have q1 : (2 * m - 1) * (2 * m - 1) + 4 * m = 4 * (m * m) + 1 := by
      obtain ⟨t, rfl⟩ : ∃ t, m = t + 1 := ⟨m - 1, by omega⟩
      rw [show 2 * (t + 1) - 1 = 2 * t + 1 by omega]
      exact sq_minus t
    have q2 := sq_plus m
    have q3 : (2 * m - 1) * (2 * m - 1) * Z + 4 * (m * Z) = 4 * (m * m * Z) + Z := by
      have := congrArg (· * Z) q1
      simp only [Nat.add_mul, Nat.one_mul] at this
      rw [Nat.mul_assoc 4 m Z, Nat.mul_assoc 4 (m * m) Z] at this
      exact this
    have q4 : (2 * m + 1) * (2 * m + 1) * Z = 4 * (m * m * Z) + 4 * (m * Z) + Z := by
      rw [q2, Nat.add_mul, Nat.add_mul, Nat.one_mul, Nat.mul_assoc 4 m Z, Nat.mul_assoc 4 (m * m) Z]
    have q5 : m * m * Z ≤ 9007199254740991 * (m * Z) := by
      rw [Nat.mul_assoc]
      exact Nat.mul_le_mul_right _ m2
    have q6 : 4503599627370496 * Z ≤ m * Z := Nat.mul_le_mul_right _ m1
    rw [q4]
    generalize (2 * m - 1) * (2 * m - 1) * Z = S at *
    generalize m * m * Z = Q at *
    generalize m * Z = L at *
    omega
/-- the root of a sum that holds the square of x is no less than x -/
theorem Gn.low {x T : Nat} (hx : x < 18446744073709551616) (h : Gn x) (hT : T < 9218868437227405312) (hle : sqB x ≤ T) : mg x ≤ rtB T := by
  have hs : sqB x = mg (sqB x) := by
    have := h.fin hx
    have e := sq_word hx this
    rw [mg_of_lt]
    rw [e]
    exact Nat.lt_of_le_of_lt (Nat.min_le_right _ _) (by decide)
  have hm : mg T = T := mg_of_lt (by omega)
  have h0 := h.1
  obtain ⟨n, d, hN, hW, hr, _, _⟩ := sqrt_core (T := T) (by omega) (ng_of_lt (by omega)) (by omega) (by omega)
  rw [hr]
  have hm1 := (h.mid hx).1
  have hn := h.norm hx
  have h3 := rt_low (n := n) (d := d) (r := mg x - 1) hW (by
    rw [show mg x - 1 + 1 = mg x by omega]
    refine Nat.lt_of_lt_of_le hm1 ?_
    rw [← hN]
    refine Nat.mul_le_mul_left _ (Nat.mul_le_mul_right _ (mv_le.2 ?_))
    omega)
  omega
/-- the root of the square -/
theorem Gn.root {x : Nat} (hx : x < 18446744073709551616) (h : Gn x) : rtB (sqB x) = mg x := by
  have hf := h.fin hx
  have e := sq_word hx hf
  have hlt : sqB x < 9223372036854775808 := by rw [e]; exact Nat.lt_of_le_of_lt (Nat.min_le_right _ _) (by decide)
  have hs : mg (sqB x) = sqB x := mg_of_lt hlt
  have h0 := h.1
  have h2 := h.2
  have hlow := h.low hx (T := sqB x) (by omega) (Nat.le_refl _)
  obtain ⟨n, d, hN, hW, hr, _, _⟩ := sqrt_core (T := sqB x) (by omega) (ng_of_lt hlt) (by omega) (by omega)
  have hup := rt_up (n := n) (d := d) (r := mg x) hW (by rw [← hN]; exact (h.mid hx).2)
  rw [← hr] at hup
  omega
end Go.Proofs.Ytgbaaafikphafaa
