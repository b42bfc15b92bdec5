/-
  What Down, Ulp, Order, Max, Min and Between of package bits return, and the small helpers of the statements: walks over the program.
-/
import Derived.Test.YtedobmladjhdkaaWa
namespace Go.Proofs.Ytedobmladjhdkaa
open Go.RowKit Tf
attribute [local go_sem] run_bits run_from raw_feq raw_fne raw_flt raw_fgt

theorem xor_lt (x : Nat) (h : x < 2 ^ 63) : x ^^^ 2 ^ 63 = x + 2 ^ 63 := by
  apply Nat.eq_of_testBit_eq
  intro i
  rw [Nat.testBit_xor, Nat.testBit_two_pow, Nat.add_comm x]
  by_cases c : i = 63
  · subst c
    rw [Nat.testBit_two_pow_add_eq]
    have : x.testBit 63 = false := Nat.testBit_lt_two_pow h
    simp [this]
  · by_cases c2 : i < 63
    · rw [Nat.testBit_two_pow_add_gt c2]
      have : ¬ 63 = i := by omega
      simp [this]
    · have h1 : x.testBit i = false := Nat.testBit_lt_two_pow (Nat.lt_of_lt_of_le h (Nat.pow_le_pow_right (by omega) (by omega)))
      have h2 : (2 ^ 63 + x).testBit i = false := Nat.testBit_lt_two_pow (Nat.lt_of_lt_of_le (show 2 ^ 63 + x < 2 ^ 64 by omega) (Nat.pow_le_pow_right (by omega) (by omega)))
      have : ¬ 63 = i := by omega
      rw [h1, h2]; simp [this]
theorem negFloat_eq (x : Nat) (hx : x < 18446744073709551616) : Op.negFloat .f64 x = negB x := by
  unfold Op.negFloat negB
  rw [show FloatKind.f64.format.exponentBits + FloatKind.f64.format.fractionBits = 63 from rfl]
  cases h : ng x
  · have := lt_of_ng h
    rw [xor_lt x (by omega)]; simp only [Bool.false_eq_true, if_false]
  · have := ge_of_ng h
    have e := xor_lt (x - 9223372036854775808) (by omega)
    rw [show x - 9223372036854775808 + 2 ^ 63 = x by omega] at e
    have e2 : x ^^^ 2 ^ 63 = x - 9223372036854775808 := by
      rw (occs := .pos [1]) [← e]
      rw [Nat.xor_assoc, Nat.xor_self, Nat.xor_zero]
    rw [e2]; simp only [if_true]
theorem run_neg (b : Nat) : Op.unary .neg (.float .f64 b) = pure (.float .f64 (Op.negFloat .f64 b)) := rfl
attribute [local go_sem] run_neg

theorem isN_negB (x : Nat) (hx : x < 18446744073709551616) : isN (negB x) = isN x := by
  unfold isN negB
  cases h : ng x
  · have := lt_of_ng h
    have e : mg (x + 9223372036854775808) = mg x := by unfold mg; omega
    simp [e]
  · have := ge_of_ng h
    have e : mg (x - 9223372036854775808) = mg x := by unfold mg; omega
    simp [e]

set_option maxHeartbeats 1000000 in
theorem down_any (x : Nat) (w : World) (hx : x < 18446744073709551616) :
    Calls Try.prog 13 #[.float .f64 x] w fun e w' => e = .returned (.float .f64 (downB x)) ∧ w' = w := by
  obtain ⟨y, hy⟩ : ∃ y, negB x = y := ⟨_, rfl⟩
  obtain ⟨u, hu⟩ : ∃ u, upB y = u := ⟨_, rfl⟩
  obtain ⟨v, hv⟩ : ∃ v, negB u = v := ⟨_, rfl⟩
  obtain ⟨r, hr⟩ : ∃ r, downB x = r := ⟨_, rfl⟩
  have ly : y < 18446744073709551616 := by rw [← hy]; exact negB_lt hx
  have lu : u < 18446744073709551616 := by rw [← hu]; exact upB_lt ly
  have e1 : Op.negFloat .f64 x = y := by rw [negFloat_eq x hx, hy]
  have e2 : Op.negFloat .f64 u = v := by rw [negFloat_eq u lu, hv]
  rw [hr]
  have HU : Hid (upB y = u) := hu
  have HR : Hid (r = if isN x then quiet else v) := by rw [← hr, ← hv, ← hu, ← hy]; rfl
  clear hu hv hr hy
  cases hN : isN x
  · have HN : Hid (isN x = false) := hN
    go_enter Try.func13, Try.ntmps13
    go_wp2_with (first | (go_at_call 35; refine (isNaN_any _ _ hx).mono ?_; rintro e w' ⟨rfl, rfl⟩) | (go_at_call 36; refine (quietNaN_any _).mono ?_; rintro e w' ⟨rfl, rfl⟩) | (go_at_call 12; refine (up_any y _ ly).mono ?_; rintro e w' ⟨rfl, rfl⟩; rw [HU.out]))
    go_ret
    exact ⟨ret_flt (by rw [HR.out, HN.out]; rfl), rfl⟩
  · have HN : Hid (isN x = true) := hN
    go_enter Try.func13, Try.ntmps13
    go_wp2_with (first | (go_at_call 35; refine (isNaN_any _ _ hx).mono ?_; rintro e w' ⟨rfl, rfl⟩) | (go_at_call 36; refine (quietNaN_any _).mono ?_; rintro e w' ⟨rfl, rfl⟩))
    go_ret
    exact ⟨ret_flt (by rw [HR.out, HN.out]; rfl), rfl⟩

theorem feq_self_succ (m : Nat) (h : m < 9218868437227405312) : feq (m + 1) m = false := by
  rw [feq_rk (m + 1) m (by omega) (by omega)]
  unfold rk
  rw [ng_of_lt (show m + 1 < 9223372036854775808 by omega), ng_of_lt (show m < 9223372036854775808 by omega), mg_of_lt (show m + 1 < 9223372036854775808 by omega), mg_of_lt (show m < 9223372036854775808 by omega)]
  have : decide (((m + 1 : Nat) : Int) = (m : Int)) = false := by simp; omega
  simp only [Bool.false_eq_true, if_false, this, Bool.and_false]
theorem sub_top : Ieee.double.sub 9218868437227405312 9218868437227405311 = some 9218868437227405312 :=
  sub_inf_fin _ _ (by decide) (by decide) (by decide)

set_option maxHeartbeats 1000000 in
theorem ulp_any (x : Nat) (w : World) (hx : x < 18446744073709551616) :
    Calls Try.prog 18 #[.float .f64 x] w fun e w' => e = .returned (.float .f64 (ulpB x)) ∧ w' = w := by
  obtain ⟨m, hm⟩ : ∃ m, mg x = m := ⟨_, rfl⟩
  obtain ⟨r, hr⟩ : ∃ r, ulpB x = r := ⟨_, rfl⟩
  have lm : m < 9223372036854775808 := by rw [← hm]; exact mg_lt x
  have HM : Hid (mg x = m) := hm
  have lm' : m < 18446744073709551616 := by omega
  rw [hr]
  have HR : Hid (r = if isN x then quiet else if 9218868437227405311 ≤ m then 9218868437227405312 else rung 52 0 (gap 52 m)) := by rw [← hr, ← hm]; rfl
  cases hN : isN x
  · have HN : Hid (isN x = false) := hN
    have hle := isN_false.1 hN
    rw [hm] at hle
    have eN : isN m = false := by rw [isN_false, mg_of_lt lm]; exact hle
    obtain ⟨u, hu⟩ : ∃ u, upB m = u := ⟨_, rfl⟩
    have HU : Hid (upB m = u) := hu
    have hu2 : u = if m = 9218868437227405312 then m else m + 1 := by
      rw [← hu]; unfold upB
      rw [eN, mg_of_lt lm, ng_of_lt lm]
      by_cases c : m = 0
      · subst c; rfl
      · simp [c]
    clear hu hm hr
    by_cases c : m = 9218868437227405312
    · rw [if_pos c] at hu2
      subst hu2
      have ef : feq u u = true := by subst c; decide
      have hfin : r = u := by rw [HR.out, HN.out, c]; rfl
      subst hfin
      clear HR c hle eN
      go_enter Try.func18, Try.ntmps18
      go_wp2_with (first | (go_at_call 35; refine (isNaN_any _ _ hx).mono ?_; rintro e w' ⟨rfl, rfl⟩) | (go_at_call 36; refine (quietNaN_any _).mono ?_; rintro e w' ⟨rfl, rfl⟩) | (go_at_call 40; refine (magnitudeBits_at x _ _ hx HM).mono ?_; rintro e w' ⟨rfl, rfl⟩) | (go_at_call 12; refine (up_any r _ lm').mono ?_; rintro e w' ⟨rfl, rfl⟩; rw [HU.out]))
      go_ret
      exact ⟨rfl, rfl⟩
    · rw [if_neg c] at hu2
      have lt : m < 9218868437227405312 := by omega
      have ef : feq u m = false := by rw [hu2]; exact feq_self_succ m lt
      have es : Ieee.double.sub u m = some r := by
        rw [HR.out, HN.out]
        by_cases c2 : 9218868437227405311 ≤ m
        · have : m = 9218868437227405311 := by omega
          subst this; subst hu2
          exact sub_top
        · rw [if_neg c2, hu2]; exact sub_succ m (by omega)
      have hsub := fun (t : TypeId) (w : World) => run_float_arith (P := Try.prog) w .sub t .f64 u m r es
      clear HR c hle eN hu2 lt es
      go_enter Try.func18, Try.ntmps18
      go_wp2_with (first | (go_at_call 35; refine (isNaN_any _ _ hx).mono ?_; rintro e w' ⟨rfl, rfl⟩) | (go_at_call 36; refine (quietNaN_any _).mono ?_; rintro e w' ⟨rfl, rfl⟩) | (go_at_call 40; refine (magnitudeBits_at x _ _ hx HM).mono ?_; rintro e w' ⟨rfl, rfl⟩) | (go_at_call 12; refine (up_any m _ lm').mono ?_; rintro e w' ⟨rfl, rfl⟩; rw [HU.out]))
      go_ret
      exact ⟨rfl, rfl⟩
  · have HN : Hid (isN x = true) := hN
    have hfin : r = quiet := by rw [HR.out, HN.out]; rfl
    subst hfin
    clear HR hr hm
    go_enter Try.func18, Try.ntmps18
    go_wp2_with (first | (go_at_call 35; refine (isNaN_any _ _ hx).mono ?_; rintro e w' ⟨rfl, rfl⟩) | (go_at_call 36; refine (quietNaN_any _).mono ?_; rintro e w' ⟨rfl, rfl⟩))
    go_ret
    exact ⟨rfl, rfl⟩
end Go.Proofs.Ytedobmladjhdkaa
