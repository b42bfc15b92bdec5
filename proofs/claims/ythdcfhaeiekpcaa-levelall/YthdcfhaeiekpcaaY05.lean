/-
  Some of the texts of this proof, one behind the other.
-/
import Derived.Test.YthdcfhaeiekpcaaY04
import Derived.Test.YthdcfhaeiekpcaaY03
/-
  A length is no less than the parts, by plain numbers (no program).
-/
namespace Go.Proofs.Ythdcfhaeiekpcaa
open Tf Ieee
theorem rung_ge2 {d r V : Nat} (h : mv r * 2 ^ d ≤ V) : r ≤ rung 52 d V := rung_ge (by omega) h
theorem rung_le2 {d r V : Nat} (h : V ≤ mv r * 2 ^ d) : rung 52 d V ≤ r := rung_le (by omega) h
/-- how far a rounded number is off -/
theorem near_err {d V R : Nat} (hR : rung 52 d V = R) (h : 4503599627370496 ≤ R) :
    9007199254740992 * V ≤ 9007199254740993 * (mv R * 2 ^ d) ∧ 9007199254740991 * (mv R * 2 ^ d) ≤ 9007199254740992 * V := by
  obtain ⟨q, h1, h2⟩ := floor_ex 52 d V
  have hb := rung_between 52 d q V (by omega) h1 h2
  rw [hR] at hb
  have e1 : mag 52 q = mv q := rfl
  have e2 : mag 52 (q + 1) = mv (q + 1) := rfl
  rw [e1, e2] at hb
  rw [e1] at h1
  rw [e2] at h2
  have hn := mv_next q
  have hbig : ∀ r, 4503599627370496 ≤ r → 4503599627370496 * 2 ^ (r / 4503599627370496 - 1) ≤ mv r := by
    intro r hr
    rw [mv_parts hr]
    exact Nat.mul_le_mul_right _ (by omega)
  have hmono : 2 ^ (q / 4503599627370496 - 1) ≤ 2 ^ ((q + 1) / 4503599627370496 - 1) := Nat.pow_le_pow_right (by omega) (by
    have : q / 4503599627370496 ≤ (q + 1) / 4503599627370496 := Nat.div_le_div_right (by omega)
    omega)
  have key : 4503599627370496 * 2 ^ (q / 4503599627370496 - 1) ≤ mv R := by
    split at hb
    · rw [hb]
      exact Nat.le_trans (Nat.mul_le_mul_left _ hmono) (hbig (q + 1) (by omega))
    · rw [hb]; exact hbig q (by omega)
  clear hbig hmono
  generalize 2 ^ (q / 4503599627370496 - 1) = g at *
  generalize 2 ^ d = b at *
  have kb := Nat.mul_le_mul_right b key
  rw [Nat.mul_assoc] at kb
  rw [hn, Nat.add_mul] at h2
  split at hb
  · next c =>
    rw [hb, hn] at kb ⊢
    rw [hn] at c
    rw [Nat.add_mul] at kb ⊢
    rw [Nat.add_mul, Nat.add_mul] at c
    generalize mv q * b = A at *
    generalize g * b = G at *
    omega
  · next c =>
    rw [hb] at kb ⊢
    rw [hn] at c
    rw [Nat.add_mul, Nat.add_mul] at c
    generalize mv q * b = A at *
    generalize g * b = G at *
    omega
/-- a number whose square is normal -/
def Gn (x : Nat) : Prop := 4503599627370496 ≤ mg (sqB x) ∧ mg (sqB x) < 9218868437227405312
theorem sq_word {x : Nat} (hx : x < 18446744073709551616) (fx : mg x < 9218868437227405312) : sqB x = min (rung 52 1074 (mv (mg x) * mv (mg x))) 9218868437227405312 := by
  unfold sqB
  rw [mlB_some (mul_d x x hx hx fx fx), Bool.xor_self]
  simp
theorem sq_inf {x : Nat} (hx : x < 18446744073709551616) (h : mg x = 9218868437227405312) : sqB x = 9218868437227405312 := by
  unfold sqB
  rw [mlB_some (mul_ii x x hx hx h h), Bool.xor_self]
  rfl
theorem Gn.fin {x : Nat} (hx : x < 18446744073709551616) (h : Gn x) : mg x < 9218868437227405312 := by
  rcases three x with k | k | k
  · exact k
  · exfalso
    have := h.2
    rw [sq_inf hx k] at this
    exact absurd this (by decide)
  · exfalso
    have := h.2
    unfold sqB at this
    rw [mlB_none (mul_nan _ _ (.inl k))] at this
    exact absurd this (by decide)
theorem sub_small : 4503599627370496 * 4503599627370496 ≤ mv 1 * 2 ^ K := by decide +kernel
theorem Gn.norm {x : Nat} (hx : x < 18446744073709551616) (h : Gn x) : 4503599627370496 ≤ mg x := by
  rcases Nat.lt_or_ge (mg x) 4503599627370496 with k | k
  · exfalso
    have h1 := h.1
    have e0 : mg x < 2 ^ 52 := by
      have e : (2 : Nat) ^ 52 = 4503599627370496 := by decide
      omega
    have e : mv (mg x) = mg x := by unfold mv mag; rw [if_pos e0]
    have h2 : mv (mg x) * mv (mg x) ≤ mv 1 * 2 ^ K := by
      rw [e]
      exact Nat.le_trans (Nat.mul_le_mul (by omega) (by omega)) sub_small
    have h3 : rung 52 1074 (mv (mg x) * mv (mg x)) ≤ 1 := rung_le2 (d := K) h2
    rw [sq_word hx (by omega)] at h1
    generalize rung 52 1074 (mv (mg x) * mv (mg x)) = r at *
    rw [mg_of_lt (by omega)] at h1
    omega
  · exact k
/-- the square in units, and how far it is off -/
theorem Gn.err {x : Nat} (hx : x < 18446744073709551616) (h : Gn x) :
    9007199254740992 * (mv (mg x) * mv (mg x)) ≤ 9007199254740993 * (mv (mg (sqB x)) * 2 ^ K) ∧ 9007199254740991 * (mv (mg (sqB x)) * 2 ^ K) ≤ 9007199254740992 * (mv (mg x) * mv (mg x)) := by
  have hf := h.fin hx
  have e := sq_word hx hf
  obtain ⟨h1, h2⟩ := h
  have hr : rung 52 1074 (mv (mg x) * mv (mg x)) = mg (sqB x) := by
    rw [e] at h2 ⊢
    generalize rung 52 1074 (mv (mg x) * mv (mg x)) = r at *
    have hm : mg (min r 9218868437227405312) = min r 9218868437227405312 := mg_of_lt (Nat.lt_of_le_of_lt (Nat.min_le_right _ _) (by decide))
    rw [hm] at h2 ⊢
    omega
  exact near_err (d := K) hr h1
theorem mul_sq (m g : Nat) : m * g * (m * g) = m * m * (g * g) := Nat.mul_mul_mul_comm m g m g
theorem sq_plus (t : Nat) : (2 * t + 1) * (2 * t + 1) = 4 * (t * t) + 4 * t + 1 := by
  rw [Nat.add_mul, Nat.mul_add, Nat.mul_mul_mul_comm]
  omega
theorem sq_minus (t : Nat) : (2 * t + 1) * (2 * t + 1) + 4 * (t + 1) = 4 * ((t + 1) * (t + 1)) + 1 := by
  have h1 := sq_plus t
  have h5 : (t + 1) * (t + 1) = t * t + 2 * t + 1 := by rw [Nat.add_mul, Nat.mul_add]; omega
  omega
/-- halfway below x, squared, is less than its rounded square; halfway above, more -/
theorem Gn.mid {x : Nat} (hx : x < 18446744073709551616) (h : Gn x) :
    (mv (mg x - 1) + mv (mg x)) * (mv (mg x - 1) + mv (mg x)) < 4 * (mv (mg (sqB x)) * 2 ^ K) ∧ 4 * (mv (mg (sqB x)) * 2 ^ K) < (mv (mg x) + mv (mg x + 1)) * (mv (mg x) + mv (mg x + 1)) := by
  have hn := h.norm hx
  obtain ⟨e1, e2⟩ := h.err hx
  generalize mv (mg (sqB x)) * 2 ^ K = N at *
  generalize mg x = r at *
  have hp := mv_parts hn
  have hq : r % 4503599627370496 < 4503599627370496 := Nat.mod_lt _ (by omega)
  have hnx := mv_next r
  have hpv := mv_next (r - 1)
  rw [show r - 1 + 1 = r by omega] at hpv
  by_cases c : r % 4503599627370496 = 0
  · -- a power of two: below it the numbers lie closer
    rw [c, Nat.add_zero] at hp
    have hg : 2 ^ (r / 4503599627370496 - 1) ≤ 2 * 2 ^ ((r - 1) / 4503599627370496 - 1) := by
      rw [show (2 : Nat) * 2 ^ ((r - 1) / 4503599627370496 - 1) = 2 ^ (((r - 1) / 4503599627370496 - 1) + 1) by rw [Nat.pow_succ, Nat.mul_comm]]
      exact Nat.pow_le_pow_right (by omega) (by omega)
    have gp := Nat.two_pow_pos (r / 4503599627370496 - 1)
    generalize 2 ^ (r / 4503599627370496 - 1) = g at *
    generalize 2 ^ ((r - 1) / 4503599627370496 - 1) = f at *
    rw [hnx]
    generalize mv (r - 1) = A at *
    generalize mv r = X at *
    have hA : 2 * (A + X) ≤ 18014398509481983 * g := by omega
    have hA2 := Nat.mul_le_mul hA hA
    have hB : (X + (X + g)) = 9007199254740993 * g := by omega
    rw [hB, mul_sq]
    rw [hp, mul_sq] at e1 e2
    have zp : 0 < g * g := Nat.mul_pos gp gp
    have hS : 2 * (A + X) * (2 * (A + X)) = 4 * ((A + X) * (A + X)) := by rw [Nat.mul_mul_mul_comm]
    rw [hS, mul_sq 18014398509481983 g] at hA2
    generalize (A + X) * (A + X) = S at *
    generalize g * g = Z at *
    omega
  · have hd : (r - 1) / 4503599627370496 = r / 4503599627370496 := by omega
    rw [hd] at hpv
    have gp := Nat.two_pow_pos (r / 4503599627370496 - 1)
    generalize 2 ^ (r / 4503599627370496 - 1) = g at *
    obtain ⟨m, hm⟩ : ∃ m, 4503599627370496 + r % 4503599627370496 = m := ⟨_, rfl⟩
    rw [hm] at hp
    have m1 : 4503599627370496 ≤ m := by omega
    have m2 : m ≤ 9007199254740991 := by omega
    rw [hnx]
    generalize mv (r - 1) = A at *
    generalize mv r = X at *
    have hA : A + X = (2 * m - 1) * g := by
      rw [Nat.sub_mul, Nat.mul_assoc, ← hp, Nat.one_mul]
      omega
    have hB : X + (X + g) = (2 * m + 1) * g := by
      rw [Nat.add_mul, Nat.mul_assoc, ← hp, Nat.one_mul]
      omega
    rw [hA, hB, mul_sq, mul_sq]
    rw [hp, mul_sq] at e1 e2
    have zp : 0 < g * g := Nat.mul_pos gp gp
    generalize g * g = Z at *
    have q1 : (2 * m - 1) * (2 * m - 1) + 4 * m = 4 * (m * m) + 1 := by
      obtain ⟨t, rfl⟩ : ∃ t, m = t + 1 := ⟨m - 1, by omega⟩
      rw [show 2 * (t + 1) - 1 = 2 * t + 1 by omega]
      exact sq_minus t
    have q2 := sq_plus m
    have q3 : (2 * m - 1) * (2 * m - 1) * Z + 4 * (m * Z) = 4 * (m * m * Z) + Z := by
      have := congrArg (· * Z) q1
      simp only [Nat.add_mul, Nat.one_mul] at this
      rw [Nat.mul_assoc 4 m Z, Nat.mul_assoc 4 (m * m) Z] at this
      exact this
    have q4 : (2 * m + 1) * (2 * m + 1) * Z = 4 * (m * m * Z) + 4 * (m * Z) + Z := by
      rw [q2, Nat.add_mul, Nat.add_mul, Nat.one_mul, Nat.mul_assoc 4 m Z, Nat.mul_assoc 4 (m * m) Z]
    have q5 : m * m * Z ≤ 9007199254740991 * (m * Z) := by
      rw [Nat.mul_assoc]
      exact Nat.mul_le_mul_right _ m2
    have q6 : 4503599627370496 * Z ≤ m * Z := Nat.mul_le_mul_right _ m1
    rw [q4]
    generalize (2 * m - 1) * (2 * m - 1) * Z = S at *
    generalize m * m * Z = Q at *
    generalize m * Z = L at *
    omega
/-- the root of a sum that holds the square of x is no less than x -/
theorem Gn.low {x T : Nat} (hx : x < 18446744073709551616) (h : Gn x) (hT : T < 9218868437227405312) (hle : sqB x ≤ T) : mg x ≤ rtB T := by
  have hs : sqB x = mg (sqB x) := by
    have := h.fin hx
    have e := sq_word hx this
    rw [mg_of_lt]
    rw [e]
    exact Nat.lt_of_le_of_lt (Nat.min_le_right _ _) (by decide)
  have hm : mg T = T := mg_of_lt (by omega)
  have h0 := h.1
  obtain ⟨n, d, hN, hW, hr, _, _⟩ := sqrt_core (T := T) (by omega) (ng_of_lt (by omega)) (by omega) (by omega)
  rw [hr]
  have hm1 := (h.mid hx).1
  have hn := h.norm hx
  have h3 := rt_low (n := n) (d := d) (r := mg x - 1) hW (by
    rw [show mg x - 1 + 1 = mg x by omega]
    refine Nat.lt_of_lt_of_le hm1 ?_
    rw [← hN]
    refine Nat.mul_le_mul_left _ (Nat.mul_le_mul_right _ (mv_le.2 ?_))
    omega)
  omega
/-- the root of the square -/
theorem Gn.root {x : Nat} (hx : x < 18446744073709551616) (h : Gn x) : rtB (sqB x) = mg x := by
  have hf := h.fin hx
  have e := sq_word hx hf
  have hlt : sqB x < 9223372036854775808 := by rw [e]; exact Nat.lt_of_le_of_lt (Nat.min_le_right _ _) (by decide)
  have hs : mg (sqB x) = sqB x := mg_of_lt hlt
  have h0 := h.1
  have h2 := h.2
  have hlow := h.low hx (T := sqB x) (by omega) (Nat.le_refl _)
  obtain ⟨n, d, hN, hW, hr, _, _⟩ := sqrt_core (T := sqB x) (by omega) (ng_of_lt hlt) (by omega) (by omega)
  have hup := rt_up (n := n) (d := d) (r := mg x) hW (by rw [← hN]; exact (h.mid hx).2)
  rw [← hr] at hup
  omega
end Go.Proofs.Ythdcfhaeiekpcaa

/-
  Sums of squares, and quotients by a length, by plain numbers (no program).
-/
namespace Go.Proofs.Ythdcfhaeiekpcaa
open Tf Ieee
theorem pl_word {a b : Nat} (ha : a < 9218868437227405312) (hb : b < 9218868437227405312) : plB a b = min (rung 52 0 (mv a + mv b)) 9218868437227405312 := by
  have ma : mg a = a := mg_of_lt (by omega)
  have mb : mg b = b := mg_of_lt (by omega)
  have na : ng a = false := ng_of_lt (by omega)
  have nb : ng b = false := ng_of_lt (by omega)
  have ea : sv a = (mv a : Int) := by unfold sv; rw [na, ma]; rfl
  have eb : sv b = (mv b : Int) := by unfold sv; rw [nb, mb]; rfl
  rw [plB_some (add_d a b (by omega) (by omega) (by omega) (by omega)), na, ea, eb]
  unfold rn
  have : ¬ ((mv a : Int) + (mv b : Int) < 0) := by omega
  rw [decide_eq_false this]
  simp only [Bool.false_and, ite_self, Bool.false_eq_true, if_false]
  rw [show ((mv a : Int) + (mv b : Int)).natAbs = mv a + mv b by omega]
theorem plB_nn {a b : Nat} (ha : a ≤ 9218868437227405312) (hb : b ≤ 9218868437227405312) : plB a b ≤ 9218868437227405312 ∧ a ≤ plB a b ∧ b ≤ plB a b := by
  by_cases ca : a = 9218868437227405312
  · by_cases cb : b = 9218868437227405312
    · subst ca; subst cb; decide
    · have e := add_if a b (by omega) (by rw [ca]; decide) (by rw [mg_of_lt (by omega)]; omega)
      rw [plB_some e, ng_of_lt (by omega)]
      show 9218868437227405312 ≤ _ ∧ _ ≤ 9218868437227405312 ∧ _ ≤ 9218868437227405312
      omega
  · by_cases cb : b = 9218868437227405312
    · have e := add_fi a b (by omega) (by rw [mg_of_lt (by omega)]; omega) (by rw [cb]; decide)
      rw [plB_some e, ng_of_lt (by omega)]
      show 9218868437227405312 ≤ _ ∧ _ ≤ 9218868437227405312 ∧ _ ≤ 9218868437227405312
      omega
    · rw [pl_word (by omega) (by omega)]
      have h1 : a ≤ rung 52 0 (mv a + mv b) := rung_ge2 (by rw [Nat.pow_zero, Nat.mul_one]; omega)
      have h2 : b ≤ rung 52 0 (mv a + mv b) := rung_ge2 (by rw [Nat.pow_zero, Nat.mul_one]; omega)
      omega
theorem thB_nn {a b c : Nat} (ha : a ≤ 9218868437227405312) (hb : b ≤ 9218868437227405312) (hc : c ≤ 9218868437227405312) : thB a b c ≤ 9218868437227405312 ∧ a ≤ thB a b c ∧ b ≤ thB a b c ∧ c ≤ thB a b c := by
  obtain ⟨u, v, z, e, hp⟩ := th_perm a b c
  rw [e]
  have hu : u ≤ 9218868437227405312 ∧ v ≤ 9218868437227405312 ∧ z ≤ 9218868437227405312 := by
    rcases hp with ⟨rfl, rfl, rfl⟩ | ⟨rfl, rfl, rfl⟩ | ⟨rfl, rfl, rfl⟩ | ⟨rfl, rfl, rfl⟩ | ⟨rfl, rfl, rfl⟩ | ⟨rfl, rfl, rfl⟩ <;> exact ⟨by assumption, by assumption, by assumption⟩
  obtain ⟨p1, p2, p3⟩ := plB_nn hu.1 hu.2.1
  obtain ⟨q1, q2, q3⟩ := plB_nn p1 hu.2.2
  clear e
  generalize plB u v = p at *
  generalize plB p z = q at *
  rcases hp with ⟨rfl, rfl, rfl⟩ | ⟨rfl, rfl, rfl⟩ | ⟨rfl, rfl, rfl⟩ | ⟨rfl, rfl, rfl⟩ | ⟨rfl, rfl, rfl⟩ | ⟨rfl, rfl, rfl⟩ <;> omega
theorem sq_nn {x : Nat} (hx : x < 18446744073709551616) (h : isN x = false) : sqB x ≤ 9218868437227405312 := by
  rcases three x with k | k | k
  · rw [sq_word hx k]; exact Nat.min_le_right _ _
  · rw [sq_inf hx k]; omega
  · rw [h] at k; cases k
theorem sq_nan {x : Nat} (h : isN x = true) : sqB x = quiet := by unfold sqB; exact mlB_none (mul_nan _ _ (.inl h))
theorem sq_zero {x : Nat} (hx : x < 18446744073709551616) (h : mg x = 0) : sqB x = 0 := by
  rw [sq_word hx (by omega), h, mv_zero, Nat.mul_zero, rung_none, Nat.zero_min]
theorem rt_zero : rtB 0 = 0 := by decide +kernel
theorem rt_inf : rtB 9218868437227405312 = 9218868437227405312 := by decide +kernel
theorem rt_quiet : rtB quiet = quiet := by decide +kernel
theorem rt_sub {T : Nat} (h0 : 0 < T) (h1 : T < 4503599627370496) : 0 < rtB T ∧ rtB T ≤ 9218868437227405312 := by
  have hm : mg T = T := mg_of_lt (by omega)
  have hr : double.read T = .number false T double.leastPlace := by
    unfold Format.read
    simp only [d_sw, d_bin, d_inf]
    have hmg : T % 9223372036854775808 = T := by omega
    rw [hmg, if_pos h1]
    have : (T / 9223372036854775808 % 2 == 1) = false := by rw [show T / 9223372036854775808 = 0 by omega]; rfl
    rw [this]
  have e1 : double.sqrt T = some (double.nearest false (rtW T (rtM T double.leastPlace)) ((double.leastPlace - (rtM T double.leastPlace : Nat)) / 2 - 1)) := by
    show ((double.read T).root 54).map double.write = _
    rw [hr, root_eq _ (by omega)]
    rfl
  have hlp := d_lp
  have hs : rtM T double.leastPlace ≤ 109 := by unfold rtM; omega
  generalize rtM T double.leastPlace = s at *
  have hW : 1 ≤ rtW T s := by
    obtain ⟨a, b⟩ := isq_spec (T <<< s)
    unfold rtW
    have hn : 1 ≤ T <<< s := by
      rw [Nat.shiftLeft_eq]
      exact Nat.mul_pos h0 (Nat.two_pow_pos s)
    generalize isq (T <<< s) = q at *
    rcases Nat.eq_zero_or_pos q with k | k
    · subst k; omega
    · omega
  generalize rtW T s = W at *
  obtain ⟨d, hd⟩ : ∃ d : Nat, (double.leastPlace - (s : Int)) / 2 - 1 = double.leastPlace + (d : Int) := ⟨((double.leastPlace - (s : Int)) / 2 - 1 - double.leastPlace).toNat, by omega⟩
  rw [nearest_up double false W d _ hd, d_word, d_inf] at e1
  have hfb : double.fractionBits = 52 := rfl
  rw [hfb] at e1
  have h2 : 1 ≤ rung 52 0 (W * 2 ^ d) := rung_ge2 (by
    rw [Nat.pow_zero, Nat.mul_one, show mv 1 = 1 by decide]
    exact Nat.mul_pos hW (Nat.two_pow_pos d))
  generalize rung 52 0 (W * 2 ^ d) = r at *
  simp only [Bool.false_eq_true, if_false] at e1
  have h3 : 1 ≤ min r 9218868437227405312 := by omega
  have h4 : min r 9218868437227405312 ≤ 9218868437227405312 := Nat.min_le_right _ _
  generalize min r 9218868437227405312 = q at *
  have hmq : mg q = q := mg_of_lt (by omega)
  have c1 : canonB q = q := by unfold canonB; rw [if_neg (by rw [isN_true]; omega), if_neg (by omega)]
  rw [rtB_some e1, c1]
  omega
/-- the root of a number that is no less than nothing -/
theorem rt_nn {T : Nat} (h : T ≤ 9218868437227405312) : rtB T ≤ 9218868437227405312 ∧ (rtB T = 0 → T = 0) ∧ (4503599627370496 ≤ T → 4503599627370496 ≤ rtB T) ∧ (4503599627370496 ≤ T → T < 9218868437227405312 → rtB T < 9218868437227405312) := by
  by_cases c0 : T = 0
  · subst c0; rw [rt_zero]; exact ⟨by omega, fun _ => rfl, by omega, by omega⟩
  · by_cases c1 : T < 4503599627370496
    · obtain ⟨a, b⟩ := rt_sub (T := T) (by omega) c1
      exact ⟨b, by omega, by omega, by omega⟩
    · by_cases c2 : T = 9218868437227405312
      · subst c2; rw [rt_inf]; exact ⟨by omega, by omega, by omega, by omega⟩
      · have hm : mg T = T := mg_of_lt (by omega)
        obtain ⟨_, _, _, _, _, a, b⟩ := sqrt_core (T := T) (by omega) (ng_of_lt (by omega)) (by omega) (by omega)
        exact ⟨by omega, by omega, fun _ => a, fun _ _ => by omega⟩
end Go.Proofs.Ythdcfhaeiekpcaa

/-
  A unit's parts, and what a length is, by plain numbers (no program).
-/
namespace Go.Proofs.Ythdcfhaeiekpcaa
open Tf Ieee
theorem mv_ONE : mv 4607182418800017408 = 2 ^ K := one_pow
theorem wd_word (s : Bool) (r : Nat) : double.word s r = wd s r := d_word s r
/-- the nearest word to no more than 1 -/
theorem near_one {s : Bool} {W e : Nat} {p : Int} (hp : p = -(e : Int)) (hW : W ≤ 2 ^ e) : ∃ r, r ≤ 4607182418800017408 ∧ double.nearest s W p = wd s r := by
  have hlp := lp_K
  have hfb : double.fractionBits = 52 := rfl
  by_cases c : e ≤ K
  · obtain ⟨d, hd⟩ : ∃ d, e + d = K := ⟨K - e, by omega⟩
    have e1 := nearest_up double s W d p (by rw [hlp, hp]; omega)
    rw [hfb, d_inf, wd_word] at e1
    have h1 : rung 52 0 (W * 2 ^ d) ≤ 4607182418800017408 := rung_le2 (by
      rw [mv_ONE, Nat.pow_zero, Nat.mul_one, ← hd, Nat.pow_add]
      exact Nat.mul_le_mul_right _ hW)
    exact ⟨min (rung 52 0 (W * 2 ^ d)) 9218868437227405312, Nat.le_trans (Nat.min_le_left _ _) h1, e1⟩
  · obtain ⟨d, hd⟩ : ∃ d, K + d = e := ⟨e - K, by omega⟩
    have e1 := nearest_rung double s W d
    rw [hfb, d_inf, wd_word] at e1
    have h1 : rung 52 d W ≤ 4607182418800017408 := rung_le2 (by
      rw [mv_ONE, ← Nat.pow_add, hd]
      exact hW)
    have e2 : p = double.leastPlace - (d : Int) := by rw [hlp, hp]; omega
    rw [← e2] at e1
    exact ⟨min (rung 52 d W) 9218868437227405312, Nat.le_trans (Nat.min_le_left _ _) h1, e1⟩
theorem quo_le {m n a b : Nat} (m1 : 4503599627370496 ≤ m) (m2 : m < 9007199254740992) (n1 : 4503599627370496 ≤ n) (hab : a < b ∨ (a = b ∧ m ≤ n)) :
    2 * (m <<< 54 / n) + (m <<< 54 % n != 0).toNat ≤ 2 ^ (55 + (b - a)) := by
  have hs : m <<< 54 = m * 18014398509481984 := by rw [Nat.shiftLeft_eq]
  have hdm := Nat.div_add_mod (m <<< 54) n
  have hml := Nat.mod_lt (m <<< 54) (show n > 0 by omega)
  have hc : (m <<< 54 % n != 0).toNat ≤ 1 := by cases (m <<< 54 % n != 0) <;> decide
  have hz : m <<< 54 % n = 0 → (m <<< 54 % n != 0).toNat = 0 := by intro h; rw [h]; rfl
  rw [hs] at *
  generalize (m * 18014398509481984 % n != 0).toNat = c at *
  generalize m * 18014398509481984 % n = r at *
  generalize m * 18014398509481984 / n = q at *
  have e55 : (2 : Nat) ^ 55 = 36028797018963968 := by decide
  have e56 : (2 : Nat) ^ 56 = 72057594037927936 := by decide
  rcases hab with h | ⟨h, hmn⟩
  · have hp : 2 ^ 56 ≤ 2 ^ (55 + (b - a)) := Nat.pow_le_pow_right (by omega) (by omega)
    have hq : q < 36028797018963968 := by
      rcases Nat.lt_or_ge q 36028797018963968 with k | k
      · exact k
      · exfalso
        have := Nat.mul_le_mul n1 k
        have h2 : n * 36028797018963968 ≤ n * q := Nat.mul_le_mul_left _ k
        omega
    omega
  · subst h
    rw [Nat.sub_self, Nat.add_zero, e55]
    rcases Nat.lt_or_ge q 18014398509481984 with k | k
    · omega
    · have h2 : n * 18014398509481984 ≤ n * q := Nat.mul_le_mul_left _ k
      rcases Nat.lt_or_ge 18014398509481984 q with k2 | k2
      · exfalso
        have h3 : n * 18014398509481985 ≤ n * q := Nat.mul_le_mul_left _ k2
        omega
      · have hq : q = 18014398509481984 := by omega
        rw [hq] at hdm
        have hr : r = 0 := by omega
        have h4 := hz hr
        omega
/-- a part over a length that is no less -/
theorem dv_one {x l : Nat} (hx : x < 18446744073709551616) (l1 : 4503599627370496 ≤ l) (l2 : l < 9218868437227405312) (hxl : mg x ≤ l) (hx0 : mg x = 0 ∨ 4503599627370496 ≤ mg x) :
    ∃ r, r ≤ 4607182418800017408 ∧ (dvB x l = 0 ∨ dvB x l = wd (ng x) r) ∧ (mg x = 0 → dvB x l = 0) := by
  have ml : mg l = l := mg_of_lt (by omega)
  have nl : ng l = false := ng_of_lt (by omega)
  have el := read_norm (x := l) (by omega) (by omega)
  rw [ml, sgn_ng (by omega), nl] at el
  have hn : 4503599627370496 + l % 4503599627370496 ≠ 0 := by omega
  rcases hx0 with h0 | h0
  · have hz : dvB x l = 0 := by
      have e1 : double.div x l = some (wd (ng x) 0) := by
        show ((double.read x).quotient 54 (double.read l)).map double.write = _
        rw [read_zero h0, el, sgn_ng hx]
        generalize 4503599627370496 + l % 4503599627370496 = n at *
        unfold Datum.quotient
        dsimp only
        rw [if_neg hn]
        simp only [Option.map_some, Format.write, Format.nearest, Nat.zero_shiftLeft, Nat.zero_div, Nat.zero_mod, Nat.mul_zero, Bool.xor_false]
        rw [wd_word]
        rfl
      rw [dvB_some e1]
      unfold canonB
      rw [wd_mg (by omega)]
      rw [if_neg (by unfold isN; rw [wd_mg (by omega)]; decide), if_pos rfl]
    exact ⟨0, by omega, .inl hz, fun _ => hz⟩
  · have ex := read_norm (x := x) h0 (by omega)
    rw [sgn_ng hx] at ex
    have lx : (4503599627370496 + mg x % 4503599627370496).log2 = 52 := log_m _ (Nat.mod_lt _ (by omega))
    have ll : (4503599627370496 + l % 4503599627370496).log2 = 52 := log_m _ (Nat.mod_lt _ (by omega))
    have hq := quo_le (m := 4503599627370496 + mg x % 4503599627370496) (n := 4503599627370496 + l % 4503599627370496) (a := mg x / 4503599627370496 - 1) (b := l / 4503599627370496 - 1) (by omega) (by have := Nat.mod_lt (mg x) (show 4503599627370496 > 0 by omega); omega) (by omega) (by omega)
    have hab : mg x / 4503599627370496 - 1 ≤ l / 4503599627370496 - 1 := by
      have := Nat.div_le_div_right (c := 4503599627370496) hxl
      omega
    have e1 : double.div x l = some (double.nearest (ng x) (2 * ((4503599627370496 + mg x % 4503599627370496) <<< 54 / (4503599627370496 + l % 4503599627370496)) + ((4503599627370496 + mg x % 4503599627370496) <<< 54 % (4503599627370496 + l % 4503599627370496) != 0).toNat) (double.leastPlace + ((mg x / 4503599627370496 - 1 : Nat) : Int) - (double.leastPlace + ((l / 4503599627370496 - 1 : Nat) : Int)) - (54 : Nat) - 1)) := by
      show ((double.read x).quotient 54 (double.read l)).map double.write = _
      rw [ex, el]
      unfold Datum.quotient
      dsimp only
      rw [if_neg hn, lx, ll]
      simp only [Bool.xor_false]
      rfl
    generalize mg x / 4503599627370496 - 1 = a at *
    generalize l / 4503599627370496 - 1 = b at *
    obtain ⟨r, r1, r2⟩ := near_one (s := ng x) (e := 55 + (b - a)) (p := double.leastPlace + (a : Int) - (double.leastPlace + (b : Int)) - (54 : Nat) - 1) (by omega) hq
    rw [r2] at e1
    refine ⟨r, r1, ?_, fun h => by omega⟩
    rw [dvB_some e1]
    unfold canonB
    rw [wd_mg (by omega), if_neg (by unfold isN; rw [wd_mg (by omega)]; simp; omega)]
    by_cases c : r = 0
    · rw [if_pos c]; exact .inl rfl
    · rw [if_neg c]; exact .inr rfl
/-- what is asked of a unit's part -/
theorem part_ok {u x r : Nat} (hx : x < 18446744073709551616) (nx : isN x = false) (hr : r ≤ 4607182418800017408) (h : u = 0 ∨ u = wd (ng x) r) (h0 : mg x = 0 → u = 0) :
    (fgt u 13830554455654793216 || feq u 13830554455654793216) = true ∧ (flt u 4607182418800017408 || feq u 4607182418800017408) = true ∧ ((flt u 0 || feq u 0) = true ∨ fgt x 0 = true) ∧ ((fgt u 0 || feq u 0) = true ∨ flt x 0 = true) := by
  have hu : u < 18446744073709551616 := by
    rcases h with h | h
    · omega
    · rw [h]; unfold wd; split <;> omega
  have hk : isN u = false ∧ -4607182418800017408 ≤ rk u ∧ rk u ≤ 4607182418800017408 ∧ (rk u ≤ 0 ∨ (ng x = false ∧ mg x ≠ 0)) ∧ (0 ≤ rk u ∨ (ng x = true ∧ mg x ≠ 0)) := by
    by_cases c : u = 0
    · subst c
      exact ⟨by decide, by decide, by decide, .inl (by decide), .inl (by decide)⟩
    · have hw := h.resolve_left c
      have hm : mg x ≠ 0 := fun e => c (h0 e)
      have hmu : mg u = r := by rw [hw]; exact wd_mg (by omega)
      have hN : isN u = false := by rw [isN_false, hmu]; omega
      have hng : ng u = ng x := by
        rw [hw]
        unfold wd
        cases ng x
        · exact ng_of_lt (by simp; omega)
        · exact ng_of_ge (by simp)
      unfold rk
      rw [hng, hmu]
      refine ⟨hN, ?_⟩
      cases k : ng x
      · simp; omega
      · simp; omega
  obtain ⟨hN, k1, k2, k3, k4⟩ := hk
  rw [fgt_rk u _ hu (by decide), feq_rk u _ hu (by decide), flt_rk u _ hu (by decide), feq_rk u 4607182418800017408 hu (by decide), flt_rk u 0 hu (by decide), feq_rk u 0 hu (by decide), fgt_rk u 0 hu (by decide), fgt_rk x 0 hx (by decide), flt_rk x 0 hx (by decide), hN, nx]
  rw [show rk 13830554455654793216 = -4607182418800017408 by decide, show rk 4607182418800017408 = 4607182418800017408 by decide, show rk 0 = 0 by decide, show isN 13830554455654793216 = false by decide, show isN 4607182418800017408 = false by decide, show isN 0 = false by decide]
  have ex : (ng x = false → rk x = mg x) ∧ (ng x = true → rk x = -(mg x : Int)) := by
    unfold rk
    exact ⟨fun h => by rw [h]; rfl, fun h => by rw [h]; rfl⟩
  simp
  refine ⟨by omega, by omega, ?_, ?_⟩
  · rcases k3 with k | ⟨k, k'⟩
    · left; omega
    · right; rw [ex.1 k]; omega
  · rcases k4 with k | ⟨k, k'⟩
    · left; omega
    · right; rw [ex.2 k]; omega
end Go.Proofs.Ythdcfhaeiekpcaa

/-
  Vectors doubled, by plain numbers (no program).
-/
namespace Go.Proofs.Ythdcfhaeiekpcaa
open Tf Ieee
def Hi (h x : Nat) : Prop := mg x = 0 ∨ (238690780250636288 ≤ mg x ∧ mg x ≤ h)
theorem Hi.md {h x : Nat} (k : Hi h x) (hh : h + 4503599627370496 < 9218868437227405312) : Md x := by
  rcases k with k | k
  · exact .inl k
  · exact .inr ⟨by omega, by omega⟩
theorem mv_52 {r : Nat} (h : 238690780250636288 ≤ r) : ∃ q, mv r = q * 4503599627370496 := by
  unfold mv mag
  have e : (2 : Nat) ^ 52 = 4503599627370496 := by decide
  rw [if_neg (by omega), e]
  obtain ⟨j, hj⟩ : ∃ j, r / 4503599627370496 - 1 = 52 + j := ⟨r / 4503599627370496 - 1 - 52, by omega⟩
  rw [hj, Nat.pow_add, e]
  exact ⟨(4503599627370496 + r % 4503599627370496) * 2 ^ j, by rw [← Nat.mul_assoc, Nat.mul_right_comm]⟩
theorem Hi.sv {h x : Nat} (k : Hi h x) : ∃ q : Int, sv x = q * 4503599627370496 := by
  unfold Tf.sv
  rcases k with k | k
  · rw [k, mv_zero]; exact ⟨0, by cases ng x <;> rfl⟩
  · obtain ⟨q, hq⟩ := mv_52 k.1
    rw [hq]
    cases ng x
    · exact ⟨q, by simp⟩
    · exact ⟨-q, by simp; omega⟩
theorem Hi.abs {h x : Nat} (k : Hi h x) : (Tf.sv x).natAbs ≤ mv h := by
  have : (Tf.sv x).natAbs = mv (mg x) := by unfold Tf.sv; cases ng x <;> simp
  rw [this]
  rcases k with k | k
  · rw [k, mv_zero]; omega
  · exact mv_le.2 k.2
theorem sum_ok {h a b : Nat} (ka : Hi h a) (kb : Hi h b) (h1 : 4503599627370496 ≤ h) (h2 : h + 9007199254740992 < 9218868437227405312) :
    (sv a + sv b = 0 ∨ (4503599627370496 ≤ (sv a + sv b).natAbs ∧ rung 52 0 (sv a + sv b).natAbs + 4503599627370496 ≤ 9218868437227405312)) ∧ rung 52 0 (sv a + sv b).natAbs ≤ h + 4503599627370496 := by
  obtain ⟨p, hp⟩ := ka.sv
  obtain ⟨q, hq⟩ := kb.sv
  have x1 := ka.abs
  have x2 := kb.abs
  have hle : rung 52 0 (sv a + sv b).natAbs ≤ h + 4503599627370496 := by
    refine rung_le (by omega) ?_
    rw [Nat.pow_zero, Nat.mul_one]
    have : mv (h + 4503599627370496) = 2 * mv h := mv_dbl h1
    show _ ≤ mv (h + 4503599627370496)
    omega
  refine ⟨?_, hle⟩
  by_cases c : sv a + sv b = 0
  · exact .inl c
  · refine .inr ⟨?_, by omega⟩
    rw [hp, hq] at c ⊢
    have : p + q ≠ 0 := by
      intro e
      have : p * 4503599627370496 + q * 4503599627370496 = (p + q) * 4503599627370496 := by rw [Int.add_mul]
      rw [this, e] at c
      exact c (by omega)
    omega
theorem addB_db {h a b : Nat} (ha : a < 18446744073709551616) (hb : b < 18446744073709551616) (ka : Hi h a) (kb : Hi h b) (h1 : 4503599627370496 ≤ h) (h2 : h + 9007199254740992 < 9218868437227405312) :
    addB (db a) (db b) = db (addB a b) ∧ Md (addB a b) := by
  have ma := ka.md (by omega)
  have mb := kb.md (by omega)
  obtain ⟨s1, s2⟩ := sum_ok ka kb h1 h2
  rw [addB_fin _ _ (db_lt ma.w ha) (db_lt mb.w hb) ma.dfin mb.dfin, addB_fin a b ha hb ma.fin mb.fin, db_sv ma ha, db_sv mb hb, ← Int.mul_add, rn_dbl false s1]
  refine ⟨rfl, ?_⟩
  unfold Md
  rw [rn_mg]
  rcases s1 with s1 | s1
  · rw [s1]; left; rw [show (0 : Int).natAbs = 0 from rfl, rung_none]; rfl
  · right
    have hb := rung_ge (p := 52) (d := 0) (r := 4503599627370496) (V := (sv a + sv b).natAbs) (by omega) (by
      rw [Nat.pow_zero, Nat.mul_one, show mag 52 4503599627370496 = 4503599627370496 by decide]; exact s1.1)
    generalize rung 52 0 (sv a + sv b).natAbs = r at *
    omega
theorem sbB_db {h a b : Nat} (ha : a < 18446744073709551616) (hb : b < 18446744073709551616) (ka : Hi h a) (kb : Hi h b) (h1 : 4503599627370496 ≤ h) (h2 : h + 9007199254740992 < 9218868437227405312) :
    sbB (db a) (db b) = db (sbB a b) ∧ Md (sbB a b) := by
  have mb := kb.md (by omega)
  have kn : Hi h (negB b) := by unfold Hi; rw [negB_mg hb]; exact kb
  unfold sbB
  rw [← db_neg mb hb]
  exact addB_db ha (negB_lt' hb) ka kn h1 h2
/-- a number that is no less than nothing -/
def Ps (h x : Nat) : Prop := Hi h x ∧ x < 9223372036854775808
theorem Ps.lt {h x : Nat} (k : Ps h x) : x < 18446744073709551616 := by have := k.2; omega
theorem Ps.ng {h x : Nat} (k : Ps h x) : Tf.ng x = false := ng_of_lt k.2
theorem Ps.mg {h x : Nat} (k : Ps h x) : Tf.mg x = x := mg_of_lt k.2
theorem Ps.up {h g x : Nat} (k : Ps h x) (hg : h ≤ g) : Ps g x := ⟨by rcases k.1 with a | a; exact .inl a; exact .inr ⟨a.1, by omega⟩, k.2⟩
theorem Ps.db {h x : Nat} (k : Ps h x) (hh : h + 4503599627370496 < 9218868437227405312) : Ps (h + 4503599627370496) (db x) := by
  have m := k.1.md hh
  have e := db_mg m.w
  have e2 := db_ng m.w k.lt
  rw [k.ng] at e2
  refine ⟨?_, lt_of_ng e2⟩
  unfold Hi
  rw [e]
  rcases k.1 with a | a
  · rw [if_pos a]; exact .inl rfl
  · rw [if_neg (by omega)]; exact .inr ⟨by omega, by omega⟩
theorem plB_db {h a b : Nat} (ka : Ps h a) (kb : Ps h b) (h1 : 4503599627370496 ≤ h) (h2 : h + 9007199254740992 < 9218868437227405312) :
    plB (db a) (db b) = db (plB a b) ∧ Ps (h + 4503599627370496) (plB a b) := by
  have ma := ka.1.md (by omega)
  have mb := kb.1.md (by omega)
  obtain ⟨s1, s2⟩ := sum_ok ka.1 kb.1 h1 h2
  rw [plB_some (add_d _ _ (db_lt ma.w ka.lt) (db_lt mb.w kb.lt) ma.dfin mb.dfin), plB_some (add_d a b ka.lt kb.lt ma.fin mb.fin), db_sv ma ka.lt, db_sv mb kb.lt, ← Int.mul_add, db_ng ma.w ka.lt, rn_dbl _ s1, db_ng mb.w kb.lt]
  refine ⟨rfl, ?_⟩
  have ea : sv a = (mv a : Int) := by unfold sv; rw [ka.ng, ka.mg]; rfl
  have eb : sv b = (mv b : Int) := by unfold sv; rw [kb.ng, kb.mg]; rfl
  have hlt : rn (ng a && ng b) (sv a + sv b) < 9223372036854775808 := by
    rw [ka.ng, ea, eb]
    unfold rn
    have : ¬ ((mv a : Int) + (mv b : Int) < 0) := by omega
    rw [decide_eq_false this]
    simp only [Bool.false_and, ite_self, Bool.false_eq_true, if_false]
    exact Nat.lt_of_le_of_lt (Nat.min_le_right _ _) (by decide)
  refine ⟨?_, hlt⟩
  unfold Hi
  rw [rn_mg]
  rw [Nat.min_eq_left (by omega)]
  rcases ka.1 with a0 | a1
  · rcases kb.1 with b0 | b1
    · left
      rw [ka.mg] at a0
      rw [kb.mg] at b0
      rw [ea, eb, a0, b0, mv_zero]
      exact rung_none 0
    · right
      refine ⟨rung_ge (by omega) ?_, s2⟩
      rw [kb.mg] at b1
      rw [Nat.pow_zero, Nat.mul_one]
      have : mv 238690780250636288 ≤ mv b := mv_le.2 b1.1
      show mv 238690780250636288 ≤ _
      omega
  · right
    refine ⟨rung_ge (by omega) ?_, s2⟩
    rw [ka.mg] at a1
    rw [Nat.pow_zero, Nat.mul_one]
    have : mv 238690780250636288 ≤ mv a := mv_le.2 a1.1
    show mv 238690780250636288 ≤ _
    omega
theorem key_db {h a b : Nat} (ka : Ps h a) (kb : Ps h b) (hh : h + 4503599627370496 < 9218868437227405312) : (key (db b) < key (db a)) = (key b < key a) := by
  have da := ka.db hh
  have db' := kb.db hh
  have ea := db_mg (ka.1.md hh).w
  have eb := db_mg (kb.1.md hh).w
  unfold key
  rw [da.ng, db'.ng, ka.ng, kb.ng, ea, eb]
  apply propext
  by_cases ca : mg a = 0
  · by_cases cb : mg b = 0
    · rw [if_pos ca, if_pos cb, ca, cb]
    · rw [if_pos ca, if_neg cb]; omega
  · by_cases cb : mg b = 0
    · rw [if_neg ca, if_pos cb]; simp; omega
    · rw [if_neg ca, if_neg cb]; simp
theorem lo_db {h a b : Nat} (ka : Ps h a) (kb : Ps h b) (hh : h + 4503599627370496 < 9218868437227405312) : loB (db a) (db b) = db (loB a b) ∧ hiB (db a) (db b) = db (hiB a b) ∧ Ps h (loB a b) ∧ Ps h (hiB a b) := by
  have e := key_db ka kb hh
  unfold loB hiB
  by_cases c : key b < key a
  · rw [if_pos (by rw [e]; exact c), if_pos c, if_pos (by rw [e]; exact c), if_pos c]
    exact ⟨rfl, rfl, kb, ka⟩
  · rw [if_neg (by rw [e]; exact c), if_neg c, if_neg (by rw [e]; exact c), if_neg c]
    exact ⟨rfl, rfl, ka, kb⟩
theorem thB_db {h a b c : Nat} (ka : Ps h a) (kb : Ps h b) (kc : Ps h c) (h1 : 4503599627370496 ≤ h) (h2 : h + 13510798882111488 < 9218868437227405312) :
    thB (db a) (db b) (db c) = db (thB a b c) ∧ Ps (h + 9007199254740992) (thB a b c) := by
  obtain ⟨e1, e2, k1, k2⟩ := lo_db ka kb (by omega)
  obtain ⟨e3, e4, k3, k4⟩ := lo_db k2 kc (by omega)
  obtain ⟨e5, e6, k5, k6⟩ := lo_db k1 k3 (by omega)
  obtain ⟨p1, p2⟩ := plB_db k5 k6 h1 (by omega)
  obtain ⟨g, hg⟩ : ∃ g, h + 4503599627370496 = g := ⟨_, rfl⟩
  rw [hg] at p2
  have k7 : Ps g (hiB (hiB a b) c) := k4.up (by omega)
  obtain ⟨p3, p4⟩ := plB_db p2 k7 (by omega) (by omega)
  have p5 : Ps (h + 9007199254740992) (plB (plB (loB (loB a b) (loB (hiB a b) c)) (hiB (loB a b) (loB (hiB a b) c))) (hiB (hiB a b) c)) := p4.up (by omega)
  unfold thB
  rw [e1, e2, e3, e4, e5, e6, p1, p3]
  exact ⟨rfl, p5⟩
/-- from 1e-100 to 1e100, or nought -/
def In1 (x : Nat) : Prop := mg x = 0 ∨ (3110860544497550640 ≤ mg x ∧ mg x ≤ 6103021453049119613)
theorem In1.hi {x : Nat} (k : In1 x) : Hi 6103021453049119613 x := by
  rcases k with k | k
  · exact .inl k
  · exact .inr ⟨by omega, k.2⟩
theorem In1.md {x : Nat} (k : In1 x) : Md x := k.hi.md (by omega)
theorem pr_lo : mv 1599789920352257571 * 2 ^ K ≤ mv 3110860544497550640 * mv 3110860544497550640 := by decide +kernel
theorem pr_hi : mv 6103021453049119613 * mv 6103021453049119613 ≤ mv 7613934262404594417 * 2 ^ K := by decide +kernel
theorem pr_lg : 2 ^ (52 + K) ≤ mv 3110860544497550640 * mv 3110860544497550640 := by decide +kernel
theorem rung_ge' {d r V : Nat} (h : mv r * 2 ^ d ≤ V) : r ≤ rung 52 d V := rung_ge (by omega) h
theorem rung_le' {d r V : Nat} (h : V ≤ mv r * 2 ^ d) : rung 52 d V ≤ r := rung_le (by omega) h
theorem pr_rung {V : Nat} (h1 : mv 3110860544497550640 * mv 3110860544497550640 ≤ V) (h2 : V ≤ mv 6103021453049119613 * mv 6103021453049119613) :
    52 + 1074 ≤ V.log2 ∧ 1599789920352257571 ≤ rung 52 1074 V ∧ rung 52 1074 V ≤ 7613934262404594417 := by
  have hV : 2 ^ (52 + K) ≤ V := Nat.le_trans pr_lg h1
  have h0 : V ≠ 0 := by have := Nat.two_pow_pos (52 + K); omega
  refine ⟨?_, ?_, ?_⟩
  · have := (Nat.le_log2 h0).2 hV
    exact this
  · exact rung_ge' (d := K) (Nat.le_trans pr_lo h1)
  · exact rung_le' (d := K) (Nat.le_trans h2 pr_hi)
theorem In1.far {x y : Nat} (kx : In1 x) (ky : In1 y) : Far x y := by
  rcases kx with kx | kx
  · exact .inl (.inl kx)
  · rcases ky with ky | ky
    · exact .inl (.inr ky)
    · obtain ⟨a, b, c⟩ := pr_rung (Nat.mul_le_mul (mv_le.2 kx.1) (mv_le.2 ky.1)) (Nat.mul_le_mul (mv_le.2 kx.2) (mv_le.2 ky.2))
      exact .inr ⟨a, by omega⟩
theorem In1.prod {x y : Nat} (hx : x < 18446744073709551616) (hy : y < 18446744073709551616) (kx : In1 x) (ky : In1 y) : Hi 7613934262404594417 (mlB x y) := by
  rw [mul_w hx hy kx.md.fin ky.md.fin]
  show Hi _ (wd (ng x ^^ ng y) _)
  unfold Hi
  have z : (mg x = 0 ∨ mg y = 0) → mv (mg x) * mv (mg y) = 0 := by
    intro h
    rcases h with h | h
    · rw [h, mv_zero, Nat.zero_mul]
    · rw [h, mv_zero, Nat.mul_zero]
  rcases kx with kx | kx
  · rw [z (.inl kx), rung_none, Nat.zero_min, wd_mg (by omega)]; exact .inl rfl
  · rcases ky with ky | ky
    · rw [z (.inr ky), rung_none, Nat.zero_min, wd_mg (by omega)]; exact .inl rfl
    · obtain ⟨a, b, c⟩ := pr_rung (Nat.mul_le_mul (mv_le.2 kx.1) (mv_le.2 ky.1)) (Nat.mul_le_mul (mv_le.2 kx.2) (mv_le.2 ky.2))
      generalize rung 52 1074 (mv (mg x) * mv (mg y)) = r at *
      rw [Nat.min_eq_left (by omega), wd_mg (by omega)]
      exact .inr ⟨by omega, c⟩
theorem In1.sq {x : Nat} (hx : x < 18446744073709551616) (k : In1 x) : Ps 7613934262404594417 (sqB x) := by
  refine ⟨k.prod hx hx k, ?_⟩
  unfold sqB
  rw [mul_w hx hx k.md.fin k.md.fin, Bool.xor_self]
  simp only [Bool.false_eq_true, if_false]
  exact Nat.lt_of_le_of_lt (Nat.min_le_right _ _) (by decide)
theorem In1.sq_db {x : Nat} (hx : x < 18446744073709551616) (k : In1 x) : sqB (db x) = db (db (sqB x)) := by
  have m := k.md
  have md : Md (db x) := by
    unfold Md
    rw [db_mg m.w]
    rcases k with k | k
    · rw [if_pos k]; exact .inl rfl
    · rw [if_neg (by omega)]; exact .inr ⟨by omega, by omega⟩
  have f : Far x (db x) := by
    unfold Far
    rw [db_mg m.w]
    rcases k with k | k
    · exact .inl (.inl k)
    · rw [if_neg (by omega)]
      obtain ⟨a, b, c⟩ := pr_rung (Nat.mul_le_mul (mv_le.2 k.1) (mv_le.2 k.1)) (Nat.mul_le_mul (mv_le.2 k.2) (mv_le.2 k.2))
      have h0 : mv (mg x) * mv (mg x) ≠ 0 := by intro e; rw [e] at a; simp at a
      rw [mv_dbl (by omega), show mv (mg x) * (2 * mv (mg x)) = mv (mg x) * mv (mg x) * 2 by rw [Nat.mul_left_comm, Nat.mul_comm]]
      have hl : (mv (mg x) * mv (mg x) * 2).log2 = (mv (mg x) * mv (mg x)).log2 + 1 := by
        have := log2_mul_pow (mv (mg x) * mv (mg x)) 1 h0
        rwa [Nat.pow_one] at this
      rw [rung_dbl h0 a, hl]
      exact .inr ⟨by omega, by omega⟩
  unfold sqB
  rw [mlB_db hx (db_lt m.w hx) m md f, mlB_dbr hx hx m m (k.far k)]
/-- how long a doubled vector is -/
theorem In1.ln {x y z : Nat} (hx : x < 18446744073709551616) (hy : y < 18446744073709551616) (hz : z < 18446744073709551616) (kx : In1 x) (ky : In1 y) (kz : In1 z) :
    lnB (db x) (db y) (db z) = db (lnB x y z) ∧ Md (lnB x y z) := by
  have s1 := kx.sq hx
  have s2 := ky.sq hy
  have s3 := kz.sq hz
  obtain ⟨t1, t2⟩ := thB_db s1 s2 s3 (by omega) (by omega)
  obtain ⟨t3, _⟩ := thB_db (s1.db (by omega)) (s2.db (by omega)) (s3.db (by omega)) (by omega) (by omega)
  unfold lnB
  rw [kx.sq_db hx, ky.sq_db hy, kz.sq_db hz, t3, t1]
  refine rtB_db t2.lt t2.ng ?_
  rcases t2.1 with h | h
  · exact .inl h
  · exact .inr ⟨by omega, by omega⟩
theorem lv_db {l : Nat} (hl : l < 18446744073709551616) (hn : ng l = false) (m : Md l) : lvB (db l) = lvB l := by
  rw [lv_class hl hn, lv_class (db_lt m.w hl) (by rw [db_ng m.w hl]; exact hn)]
  unfold classB
  rw [db_mg m.w]
  rcases m with h | h
  · rw [if_pos h, h]
  · rw [if_neg (show ¬ mg l = 0 by omega)]
    rw [if_neg (show ¬ mg l + 4503599627370496 = 0 by omega), if_neg (show ¬ mg l + 4503599627370496 < 4503599627370496 by omega), if_pos (show mg l + 4503599627370496 < 9218868437227405312 by omega), if_neg (show ¬ mg l = 0 by omega), if_neg (show ¬ mg l < 4503599627370496 by omega), if_pos (show mg l < 9218868437227405312 by omega)]
theorem un_db {x l : Nat} (hx : x < 18446744073709551616) (hl : l < 18446744073709551616) (hn : ng l = false) (mx : Md x) (ml : Md l) : unB (db l) (db x) = unB l x := by
  unfold unB
  rw [lv_db hl hn ml]
  by_cases c : lvB l = true
  · rw [if_pos c, if_pos c]
    refine dvB_db hx hl mx ml ?_
    intro h
    rw [lv_class hl hn] at c
    unfold classB at c
    rw [if_pos h] at c
    simp at c
  · rw [if_neg c, if_neg c]
theorem can_db {m : Nat} (hc : canonB m = m) (k : Md m) : canonB (db m) = db m := by
  have hN : ¬ isN (db m) = true := by have := k.dfin; rw [isN_true]; omega
  unfold canonB
  rw [if_neg hN, db_mg k.w]
  rcases k with k | k
  · rw [if_pos k, if_pos rfl]
    unfold canonB at hc
    rw [if_neg (by rw [isN_true]; omega), if_pos k] at hc
    rw [← hc]; decide
  · rw [if_neg (show ¬ mg m = 0 by omega), if_neg (by omega)]
end Go.Proofs.Ythdcfhaeiekpcaa

/-
  Doubled floats and products above nothing, by plain numbers (no program): for slopes that are kept small.
-/
namespace Go.Proofs.Ythdcfhaeiekpcaa
open Tf Ieee
theorem mv_2 : mv 4611686018427387904 = 2 * 2 ^ K := by rw [← mv_ONE]; exact mv_dbl (r := 4607182418800017408) (by omega)
/-- a product of two floats that aren't below nothing -/
theorem ml_word {a b : Nat} (ha : a < 9218868437227405312) (hb : b < 9218868437227405312) : mlB a b = min (rung 52 1074 (mv a * mv b)) 9218868437227405312 := by
  have ma : mg a = a := mg_of_lt (by omega)
  have mb : mg b = b := mg_of_lt (by omega)
  rw [mul_w (by omega) (by omega) (by omega) (by omega), ng_of_lt (by omega), ng_of_lt (by omega), ma, mb]
  simp only [Bool.xor_self, Bool.false_eq_true, if_false]
theorem mv_sm {r : Nat} (h : r < 9007199254740992) : mv r = r := by
  by_cases c : r < 4503599627370496
  · have := mv_zero
    unfold mv mag
    rw [if_pos c]
  · rw [mv_parts (by omega), show r % 4503599627370496 = r - 4503599627370496 by omega, show r / 4503599627370496 - 1 = 0 by omega, Nat.pow_zero, Nat.mul_one]
    omega
/-- doubling: a whole number of units that is a float's, or too great -/
theorem dbl_ex (a : Nat) : ∃ r, mv r = 2 * mv a ∧ a ≤ r ∧ (a ≠ 0 → a < r) := by
  by_cases h : 4503599627370496 ≤ a
  · exact ⟨a + 4503599627370496, mv_dbl h, by omega, fun _ => by omega⟩
  · refine ⟨2 * a, ?_, by omega, fun _ => by omega⟩
    rw [mv_sm (r := 2 * a) (by omega), mv_sm (r := a) (by omega)]
theorem d2_word {a : Nat} (ha : a < 9218868437227405312) : mlB 4611686018427387904 a = min (rung 52 0 (2 * mv a)) 9218868437227405312 := by
  rw [ml_word (by omega) ha, mv_2, show 2 * 2 ^ K * mv a = (2 * mv a) * 2 ^ K by rw [Nat.mul_right_comm]]
  have h := rung_scale 52 0 K (2 * mv a)
  rw [Nat.zero_add] at h
  exact congrArg (min · 9218868437227405312) h
/-- 2 * a of a that isn't below nothing: exact, or the infinity -/
theorem d2_facts {a : Nat} (ha : a ≤ 9218868437227405312) : mlB 4611686018427387904 a ≤ 9218868437227405312 ∧ a ≤ mlB 4611686018427387904 a ∧ (mlB 4611686018427387904 a < 9218868437227405312 → mv (mlB 4611686018427387904 a) = 2 * mv a) := by
  by_cases h : a < 9218868437227405312
  · obtain ⟨r, h1, h2, -⟩ := dbl_ex a
    rw [d2_word h, ← h1, rung_mv]
    refine ⟨Nat.min_le_right _ _, by omega, fun k => ?_⟩
    rw [Nat.min_eq_left (by omega), h1]
  · obtain rfl : a = 9218868437227405312 := by omega
    have e : mlB 4611686018427387904 9218868437227405312 = 9218868437227405312 := by decide +kernel
    rw [e]
    exact ⟨Nat.le_refl _, Nat.le_refl _, fun k => by omega⟩
theorem d2_mono {a b : Nat} (h : a ≤ b) (hb : b ≤ 9218868437227405312) : mlB 4611686018427387904 a ≤ mlB 4611686018427387904 b := by
  by_cases k : b < 9218868437227405312
  · rw [d2_word (by omega), d2_word k]
    have := rung_mono (p := 52) (d := 0) (V := 2 * mv a) (V' := 2 * mv b) (by omega) (Nat.mul_le_mul_left 2 (mv_le.2 h))
    omega
  · obtain rfl : b = 9218868437227405312 := by omega
    have e : mlB 4611686018427387904 9218868437227405312 = 9218868437227405312 := by decide +kernel
    rw [e]
    exact (d2_facts (by omega)).1
/-- the product of both, doubled: whichever is doubled first -/
theorem leer_comm {a b : Nat} (ha : a < 9218868437227405312) (hb : b < 9218868437227405312) (da : mlB 4611686018427387904 a < 9218868437227405312) (db : mlB 4611686018427387904 b < 9218868437227405312) :
    mlB (mlB 4611686018427387904 a) b = mlB (mlB 4611686018427387904 b) a := by
  rw [ml_word da hb, ml_word db ha, (d2_facts (by omega)).2.2 da, (d2_facts (by omega)).2.2 db, show 2 * mv a * mv b = 2 * mv b * mv a by rw [Nat.mul_right_comm]]
/-- Superbee above nothing -/
def sbee (a b : Nat) : Nat := max (min (mlB 4611686018427387904 a) b) (min a (mlB 4611686018427387904 b))
theorem sbee_comm (a b : Nat) : sbee a b = sbee b a := by unfold sbee; omega
theorem sbee_facts {a b : Nat} (ha : a ≤ 9218868437227405312) (hb : b ≤ 9218868437227405312) : min a b ≤ sbee a b ∧ sbee a b ≤ max a b ∧ sbee a b ≤ mlB 4611686018427387904 (min a b) := by
  have fa := d2_facts ha
  have fb := d2_facts hb
  have mono : ∀ x y, x ≤ y → y ≤ 9218868437227405312 → mlB 4611686018427387904 x ≤ mlB 4611686018427387904 y := fun x y h k => d2_mono h k
  unfold sbee
  rcases Nat.le_total a b with h | h
  · rw [Nat.min_eq_left h]
    omega
  · rw [Nat.min_eq_right h]
    omega
end Go.Proofs.Ythdcfhaeiekpcaa

/-
  A quotient of a doubled number, by plain numbers (no program).
-/
namespace Go.Proofs.Ythdcfhaeiekpcaa
open Tf Ieee
def Er17 : Nat := 2030
theorem mv_E17 : mv 9146810843189477376 = 2 ^ (52 + Er17) := mv_two_pow Er17 _ (by decide)
theorem le_E17 {W d : Nat} (hW : W ≤ 2 ^ 57) (hd : d ≤ 2025) : W * 2 ^ d ≤ mv 9146810843189477376 := by
  rw [mv_E17]
  have h1 : 2 ^ d ≤ 2 ^ (Er17 - 5) := Nat.pow_le_pow_right (by omega) (by unfold Er17; omega)
  have h2 := Nat.mul_le_mul hW h1
  have e : 2 ^ 57 * 2 ^ (Er17 - 5) = 2 ^ (52 + Er17) := by rw [← Nat.pow_add]; congr 1
  rw [e] at h2
  exact h2
theorem quo_lo {m n : Nat} (m1 : 4503599627370496 ≤ m) (m2 : m < 9007199254740992) (n1 : 4503599627370496 ≤ n) (n2 : n < 9007199254740992) : 9007199254740992 ≤ m <<< 54 / n ∧ m <<< 54 / n ≤ 36028797018963968 := by
  rw [Nat.shiftLeft_eq]
  constructor
  · rw [Nat.le_div_iff_mul_le (by omega)]
    have := Nat.mul_le_mul_right (2 ^ 54) m1
    omega
  · refine Nat.div_le_of_le_mul ?_
    omega
set_option maxRecDepth 100000 in
theorem div_pos {x l : Nat} (x1 : 4503599627370496 ≤ x) (x2 : x < 9218868437227405312) (l1 : 4503599627370496 ≤ l) (l2 : l < 9218868437227405312) :
    ∃ W, 18014398509481984 ≤ W ∧ W ≤ 2 ^ 57 ∧ W = 2 * ((4503599627370496 + x % 4503599627370496) <<< 54 / (4503599627370496 + l % 4503599627370496)) + ((4503599627370496 + x % 4503599627370496) <<< 54 % (4503599627370496 + l % 4503599627370496) != 0).toNat ∧ double.div x l = some (double.nearest false W (((x / 4503599627370496 - 1 : Nat) : Int) - ((l / 4503599627370496 - 1 : Nat) : Int) - 55)) := by
  have ml : mg l = l := mg_of_lt (by omega)
  have mx : mg x = x := mg_of_lt (by omega)
  have el := read_norm (x := l) (by omega) (by omega)
  rw [ml, sgn_ng (by omega), ng_of_lt (by omega)] at el
  have ex := read_norm (x := x) (by omega) (by omega)
  rw [mx, sgn_ng (by omega), ng_of_lt (by omega)] at ex
  have hn : 4503599627370496 + l % 4503599627370496 ≠ 0 := by omega
  have lx : (4503599627370496 + x % 4503599627370496).log2 = 52 := log_m _ (Nat.mod_lt _ (by omega))
  have ll : (4503599627370496 + l % 4503599627370496).log2 = 52 := log_m _ (Nat.mod_lt _ (by omega))
  have hq := quo_lo (m := 4503599627370496 + x % 4503599627370496) (n := 4503599627370496 + l % 4503599627370496) (by omega) (by omega) (by omega) (by omega)
  refine ⟨_, ?_, ?_, rfl, ?_⟩
  · omega
  · have : ((4503599627370496 + x % 4503599627370496) <<< 54 % (4503599627370496 + l % 4503599627370496) != 0).toNat ≤ 1 := by cases ((4503599627370496 + x % 4503599627370496) <<< 54 % (4503599627370496 + l % 4503599627370496) != 0) <;> simp
    omega
  · show ((double.read x).quotient 54 (double.read l)).map double.write = _
    rw [ex, el]
    unfold Datum.quotient
    dsimp only
    rw [if_neg hn, lx, ll]
    simp only [Bool.xor_false]
    show some (double.nearest false _ _) = some (double.nearest false _ _)
    congr 2
    omega
theorem rung_E17 {V : Nat} (h : V ≤ mv 9146810843189477376) : rung 52 0 V ≤ 9146810843189477376 := by
  refine rung_le (by omega) ?_
  rw [Nat.pow_zero, Nat.mul_one]
  exact h
set_option maxRecDepth 100000 in
/-- a doubled number over the same: the quotient doubled -/
theorem dvB_dbn {x l : Nat} (x1 : 4503599627370496 ≤ x) (x2 : x + 4503599627370496 < 9218868437227405312) (l1 : 4503599627370496 ≤ l) (l2 : l < 9218868437227405312)
    (h1 : l / 4503599627370496 ≤ x / 4503599627370496 + 1010) (h2 : x / 4503599627370496 ≤ l / 4503599627370496 + 1006) :
    dvB (db x) l = db (dvB x l) ∧ 4503599627370496 ≤ dvB x l ∧ dvB x l ≤ 9146810843189477376 := by
  have ex : db x = x + 4503599627370496 := by unfold db; rw [mg_of_lt (by omega), if_neg (by omega)]
  obtain ⟨W, w1, w2, w3, e1⟩ := div_pos x1 (by omega) l1 l2
  obtain ⟨W', _, _, w3', e2⟩ := div_pos (x := x + 4503599627370496) (by omega) x2 l1 l2
  have hWW : W' = W := by rw [w3', w3, show (x + 4503599627370496) % 4503599627370496 = x % 4503599627370496 by omega]
  rw [hWW, show (x + 4503599627370496) / 4503599627370496 - 1 = (x / 4503599627370496 - 1) + 1 by omega] at e2
  clear w3 w3' hWW
  have hlp := d_lp
  have ha : 1 ≤ x / 4503599627370496 ∧ 1 ≤ l / 4503599627370496 := by omega
  generalize x / 4503599627370496 = a at *
  generalize l / 4503599627370496 = c at *
  obtain ⟨d, hd⟩ : ∃ d : Nat, (((a - 1 : Nat) : Int) - ((c - 1 : Nat) : Int) - 55) = double.leastPlace + (d : Int) := ⟨((((a - 1 : Nat) : Int) - ((c - 1 : Nat) : Int) - 55) - double.leastPlace).toNat, by omega⟩
  have hd2 : (((a - 1 + 1 : Nat) : Int) - ((c - 1 : Nat) : Int) - 55) = double.leastPlace + ((d + 1 : Nat) : Int) := by omega
  have hdle : d ≤ 2025 := by omega
  rw [nearest_up double false W d _ hd, d_word, d_inf] at e1
  rw [nearest_up double false W (d + 1) _ hd2, d_word, d_inf, Nat.pow_succ, ← Nat.mul_assoc] at e2
  have h0 : W * 2 ^ d ≠ 0 := Nat.mul_ne_zero (by omega) (by have := Nat.two_pow_pos d; omega)
  have hlog : 52 + 0 ≤ (W * 2 ^ d).log2 := by
    refine (Nat.le_log2 h0).2 ?_
    have e : (2 : Nat) ^ (52 + 0) = 4503599627370496 := by decide
    rw [e]
    have := Nat.two_pow_pos d
    exact Nat.le_trans (by omega) (Nat.le_mul_of_pos_right W this)
  have hb := rung_big hlog h0
  have hr := rung_dbl h0 hlog
  have hle := rung_E17 (le_E17 w2 hdle)
  have hfb : double.fractionBits = 52 := rfl
  rw [hfb] at e1 e2
  rw [hr] at e2
  generalize rung 52 0 (W * 2 ^ d) = r at *
  simp only [Bool.false_eq_true, if_false] at e1 e2
  rw [Nat.min_eq_left (by omega)] at e1 e2
  have can : ∀ q, 4503599627370496 ≤ q → q < 9218868437227405312 → canonB q = q := by
    intro q q1 q2
    have mq : mg q = q := mg_of_lt (by omega)
    unfold canonB
    rw [mq, if_neg (by unfold isN; rw [mq]; simp; omega), if_neg (by omega)]
  rw [ex, dvB_some e1, dvB_some e2, can r hb (by omega), can (r + 4503599627370496) (by omega) (by omega)]
  refine ⟨?_, hb, hle⟩
  unfold db
  rw [mg_of_lt (by omega), if_neg (by omega)]
end Go.Proofs.Ythdcfhaeiekpcaa
