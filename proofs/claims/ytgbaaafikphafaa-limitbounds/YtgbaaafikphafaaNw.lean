/-
  Sums of squares, and quotients by a length, by plain numbers (no program).
-/
import Derived.Test.YtgbaaafikphafaaNv
namespace Go.Proofs.Ytgbaaafikphafaa
open Tf Ieee
theorem pl_word {a b : Nat} (ha : a < 9218868437227405312) (hb : b < 9218868437227405312) : plB a b = min (rung 52 0 (mv a + mv b)) 9218868437227405312 := by
  have ma : mg a = a := mg_of_lt (by omega)
  have mb : mg b = b := mg_of_lt (by omega)
  have na : ng a = false := ng_of_lt (by omega)
  have nb : ng b = false := ng_of_lt (by omega)
  have ea : sv a = (mv a : Int) := by unfold sv; rw [na, ma]; rfl
  have eb : sv b = (mv b : Int) := by unfold sv; rw [nb, mb]; rfl
  rw [plB_some (add_d a b (by omega) (by omega) (by omega) (by omega)), na, ea, eb]
  unfold rn
  have : ¬ ((mv a : Int) + (mv b : Int) < 0) := by omega
  rw [decide_eq_false this]
  simp only [Bool.false_and, ite_self, Bool.false_eq_true, if_false]
  rw [show ((mv a : Int) + (mv b : Int)).natAbs = mv a + mv b by omega]
theorem plB_nn {a b : Nat} (ha : a ≤ 9218868437227405312) (hb : b ≤ 9218868437227405312) : plB a b ≤ 9218868437227405312 ∧ a ≤ plB a b ∧ b ≤ plB a b := by
  by_cases ca : a = 9218868437227405312
  · by_cases cb : b = 9218868437227405312
    · subst ca; subst cb; decide
    · have e := add_if a b (by omega) (by rw [ca]; decide) (by rw [mg_of_lt (by omega)]; omega)
      rw [plB_some e, ng_of_lt (by omega)]
      show 9218868437227405312 ≤ _ ∧ _ ≤ 9218868437227405312 ∧ _ ≤ 9218868437227405312
      omega
  · by_cases cb : b = 9218868437227405312
    · have e := add_fi a b (by omega) (by rw [mg_of_lt (by omega)]; omega) (by rw [cb]; decide)
      rw [plB_some e, ng_of_lt (by omega)]
      show 9218868437227405312 ≤ _ ∧ _ ≤ 9218868437227405312 ∧ _ ≤ 9218868437227405312
      omega
    · rw [pl_word (by omega) (by omega)]
      have h1 : a ≤ rung 52 0 (mv a + mv b) := rung_ge2 (by rw [Nat.pow_zero, Nat.mul_one]; omega)
      have h2 : b ≤ rung 52 0 (mv a + mv b) := rung_ge2 (by rw [Nat.pow_zero, Nat.mul_one]; omega)
      omega
theorem thB_nn {a b c : Nat} (ha : a ≤ 9218868437227405312) (hb : b ≤ 9218868437227405312) (hc : c ≤ 9218868437227405312) : thB a b c ≤ 9218868437227405312 ∧ a ≤ thB a b c ∧ b ≤ thB a b c ∧ c ≤ thB a b c := by
  obtain ⟨u, v, z, e, hp⟩ := th_perm a b c
  rw [e]
  have hu : u ≤ 9218868437227405312 ∧ v ≤ 9218868437227405312 ∧ z ≤ 9218868437227405312 := by
    rcases hp with ⟨rfl, rfl, rfl⟩ | ⟨rfl, rfl, rfl⟩ | ⟨rfl, rfl, rfl⟩ | ⟨rfl, rfl, rfl⟩ | ⟨rfl, rfl, rfl⟩ | ⟨rfl, rfl, rfl⟩ <;> exact ⟨by assumption, by assumption, by assumption⟩
  obtain ⟨p1, p2, p3⟩ := plB_nn hu.1 hu.2.1
  obtain ⟨q1, q2, q3⟩ := plB_nn p1 hu.2.2
  clear e
  generalize plB u v = p at *
  generalize plB p z = q at *
  rcases hp with ⟨rfl, rfl, rfl⟩ | ⟨rfl, rfl, rfl⟩ | ⟨rfl, rfl, rfl⟩ | ⟨rfl, rfl, rfl⟩ | ⟨rfl, rfl, rfl⟩ | ⟨rfl, rfl, rfl⟩ <;> omega
theorem sq_nn {x : Nat} (hx : x < 18446744073709551616) (h : isN x = false) : sqB x ≤ 9218868437227405312 := by
  rcases three x with k | k | k
  · rw [sq_word hx k]; exact Nat.min_le_right _ _
  · rw [sq_inf hx k]; omega
  · rw [h] at k; cases k
theorem sq_nan {x : Nat} (h : isN x = true) : sqB x = quiet := by unfold sqB; exact mlB_none (mul_nan _ _ (.inl h))
theorem sq_zero {x : Nat} (hx : x < 18446744073709551616) (h : mg x = 0) : sqB x = 0 := by
  rw [sq_word hx (by omega), h, mv_zero, Nat.mul_zero, rung_none, Nat.zero_min]
theorem rt_zero : rtB 0 = 0 := by decide +kernel
theorem rt_inf : rtB 9218868437227405312 = 9218868437227405312 := by decide +kernel
theorem rt_quiet : rtB quiet = quiet := by decide +kernel
theorem rt_sub {T : Nat} (h0 : 0 < T) (h1 : T < 4503599627370496) : 0 < rtB T ∧ rtB T ≤ 9218868437227405312 := by
  have hm : mg T = T := mg_of_lt (by omega)
  have hr : double.read T = .number false T double.leastPlace := by
    unfold Format.read
    simp only [d_sw, d_bin, d_inf]
    have hmg : T % 9223372036854775808 = T := by omega
    rw [hmg, if_pos h1]
    have : (T / 9223372036854775808 % 2 == 1) = false := by rw [show T / 9223372036854775808 = 0 by omega]; rfl
    rw [this]
  have e1 : double.sqrt T = some (double.nearest false (rtW T (rtM T double.leastPlace)) ((double.leastPlace - (rtM T double.leastPlace : Nat)) / 2 - 1)) := by
    show ((double.read T).root 54).map double.write = _
    rw [hr, root_eq _ (by omega)]
    rfl
  have hlp := d_lp
  have hs : rtM T double.leastPlace ≤ 109 := by unfold rtM; omega
  generalize rtM T double.leastPlace = s at *
  have hW : 1 ≤ rtW T s := by
    obtain ⟨a, b⟩ := isq_spec (T <<< s)
    unfold rtW
    have hn : 1 ≤ T <<< s := by
      rw [Nat.shiftLeft_eq]
      exact Nat.mul_pos h0 (Nat.two_pow_pos s)
    generalize isq (T <<< s) = q at *
    rcases Nat.eq_zero_or_pos q with k | k
    · subst k; omega
    · omega
  generalize rtW T s = W at *
  obtain ⟨d, hd⟩ : ∃ d : Nat, (double.leastPlace - (s : Int)) / 2 - 1 = double.leastPlace + (d : Int) := ⟨((double.leastPlace - (s : Int)) / 2 - 1 - double.leastPlace).toNat, by omega⟩
  rw [nearest_up double false W d _ hd, d_word, d_inf] at e1
  have hfb : double.fractionBits = 52 := rfl
  rw [hfb] at e1
  have h2 : 1 ≤ rung 52 0 (W * 2 ^ d) := rung_ge2 (by
    rw [Nat.pow_zero, Nat.mul_one, show mv 1 = 1 by decide]
    exact Nat.mul_pos hW (Nat.two_pow_pos d))
  generalize rung 52 0 (W * 2 ^ d) = r at *
  simp only [Bool.false_eq_true, if_false] at e1
  have h3 : 1 ≤ min r 9218868437227405312 := by omega
  have h4 : min r 9218868437227405312 ≤ 9218868437227405312 := Nat.min_le_right _ _
  generalize min r 9218868437227405312 = q at *
  have hmq : mg q = q := mg_of_lt (by omega)
  have c1 : canonB q = q := by unfold canonB; rw [if_neg (by rw [isN_true]; omega), if_neg (by omega)]
  rw [rtB_some e1, c1]
  omega
/-- the root of a number that is no less than nothing -/
theorem rt_nn {T : Nat} (h : T ≤ 9218868437227405312) : rtB T ≤ 9218868437227405312 ∧ (rtB T = 0 → T = 0) ∧ (4503599627370496 ≤ T → 4503599627370496 ≤ rtB T) ∧ (4503599627370496 ≤ T → T < 9218868437227405312 → rtB T < 9218868437227405312) := by
  by_cases c0 : T = 0
  · subst c0; rw [rt_zero]; exact ⟨by omega, fun _ => rfl, by omega, by omega⟩
  · by_cases c1 : T < 4503599627370496
    · obtain ⟨a, b⟩ := rt_sub (T := T) (by omega) c1
      exact ⟨b, by omega, by omega, by omega⟩
    · by_cases c2 : T = 9218868437227405312
      · subst c2; rw [rt_inf]; exact ⟨by omega, by omega, by omega, by omega⟩
      · have hm : mg T = T := mg_of_lt (by omega)
        obtain ⟨_, _, _, _, _, a, b⟩ := sqrt_core (T := T) (by omega) (ng_of_lt (by omega)) (by omega) (by omega)
        exact ⟨by omega, by omega, fun _ => a, fun _ _ => by omega⟩
end Go.Proofs.Ytgbaaafikphafaa
