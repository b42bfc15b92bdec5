/-
  What the reference's calls of layer 1 return: the same plain functions of the bits: walks over the program.
-/
import Derived.Test.YtedobmladjhdkaaPm
import Derived.Test.YtedobmladjhdkaaWd
namespace Go.Proofs.Ytedobmladjhdkaa
open Go.RowKit Tf
attribute [local go_sem] run_bits run_from raw_feq raw_fne raw_flt raw_fgt run_neg

set_option maxHeartbeats 1000000 in
set_option maxRecDepth 100000 in
theorem rawBits_any (x : Nat) (w : World) :
    Calls Try.prog 48 #[.float .f64 x] w fun e w' => e = .returned (.int .u64 (x : Nat)) ∧ w' = w := by
  go_enter Try.func48, Try.ntmps48
  go_wp2
  go_ret
  exact ⟨rfl, rfl⟩

set_option maxHeartbeats 1000000 in
set_option maxRecDepth 100000 in
theorem refMag_any (x : Nat) (w : World) :
    Calls Try.prog 43 #[.float .f64 x] w fun e w' => e = .returned (.int .u64 (mg x : Nat)) ∧ w' = w := by
  go_enter Try.func43, Try.ntmps43
  go_wp2_with fail
  refine (rawBits_any x _).mono ?_
  rintro e w' ⟨rfl, rfl⟩
  go_wp2
  go_ret
  exact ⟨ret_int (by unfold mg; omega), rfl⟩

theorem refMag_at (x m : Nat) (w : World) (hm : Hid (mg x = m)) :
    Calls Try.prog 43 #[.float .f64 x] w fun e w' => e = .returned (.int .u64 (m : Nat)) ∧ w' = w := by
  rw [← hm.out]; exact refMag_any x w
set_option maxHeartbeats 1000000 in
set_option maxRecDepth 100000 in
theorem refBelow_any (x : Nat) (w : World) :
    Calls Try.prog 46 #[.float .f64 x] w fun e w' => e = .returned (.bool (ng x)) ∧ w' = w := by
  go_enter Try.func46, Try.ntmps46
  go_wp2_with fail
  refine (rawBits_any x _).mono ?_
  rintro e w' ⟨rfl, rfl⟩
  go_wp2
  go_ret
  exact ⟨ret_bool (by unfold ng; exact decide_eq_decide.2 (by omega)), rfl⟩

set_option maxHeartbeats 1000000 in
set_option maxRecDepth 100000 in
theorem refNone_any (x : Nat) (w : World) :
    Calls Try.prog 44 #[.float .f64 x] w fun e w' => e = .returned (.bool (isN x)) ∧ w' = w := by
  go_enter Try.func44, Try.ntmps44
  go_wp2_with fail
  refine (refMag_any x _).mono ?_
  rintro e w' ⟨rfl, rfl⟩
  go_wp2
  go_ret
  exact ⟨ret_bool (by unfold isN; exact decide_eq_decide.2 (by omega)), rfl⟩

set_option maxHeartbeats 1000000 in
set_option maxRecDepth 100000 in
theorem refQuiet_any (w : World) :
    Calls Try.prog 45 #[] w fun e w' => e = .returned (.float .f64 quiet) ∧ w' = w := by
  go_enter Try.func45, Try.ntmps45
  go_wp2_with fail
  refine (from_at 9221120237041090561 9221120237041090561 _ (by decide)).mono ?_
  rintro e w' ⟨rfl, rfl⟩
  go_wp2
  go_ret
  exact ⟨rfl, rfl⟩

set_option maxHeartbeats 1000000 in
set_option maxRecDepth 100000 in
theorem refClass_at (x m : Nat) (c : Int) (w : World) (hm : Hid (mg x = m)) (hc : Hid ((if m = 0 then 0 else if m < 4503599627370496 then 1 else if m < 9218868437227405312 then 2 else if m = 9218868437227405312 then 3 else 4) = c)) :
    Calls Try.prog 26 #[.float .f64 x] w fun e w' => e = .returned (.int .i64 c) ∧ w' = w := by
  by_cases c0 : m = 0
  · subst c0
    go_enter Try.func26, Try.ntmps26
    go_wp2_with fail
    refine (refMag_at x _ _ hm).mono ?_
    rintro e w' ⟨rfl, rfl⟩
    go_wp2
    go_ret
    exact ⟨ret_int hc.out, rfl⟩
  · have e0 : ((m : Int) == 0) = false := by simp; omega
    by_cases c1 : m < 4503599627370496
    · have h := hc.out
      rw [if_neg c0, if_pos c1] at h
      subst h
      have e1 : decide ((m : Int) < 4503599627370496) = true := by simp; omega
      clear hc c0 c1
      go_enter Try.func26, Try.ntmps26
      go_wp2_with fail
      refine (refMag_at x _ _ hm).mono ?_
      rintro e w' ⟨rfl, rfl⟩
      go_wp2
      go_ret
      exact ⟨rfl, rfl⟩
    · by_cases c2 : m < 9218868437227405312
      · have h := hc.out
        rw [if_neg c0, if_neg c1, if_pos c2] at h
        subst h
        have e1 : decide ((m : Int) < 4503599627370496) = false := by simp; omega
        have e2 : decide ((m : Int) < 9218868437227405312) = true := by simp; omega
        clear hc c0 c1 c2
        go_enter Try.func26, Try.ntmps26
        go_wp2_with fail
        refine (refMag_at x _ _ hm).mono ?_
        rintro e w' ⟨rfl, rfl⟩
        go_wp2
        go_ret
        exact ⟨rfl, rfl⟩
      · by_cases c3 : m = 9218868437227405312
        · have h := hc.out
          rw [if_neg c0, if_neg c1, if_neg c2, if_pos c3] at h
          subst h
          clear hc
          subst c3
          go_enter Try.func26, Try.ntmps26
          go_wp2_with fail
          refine (refMag_at x _ _ hm).mono ?_
          rintro e w' ⟨rfl, rfl⟩
          go_wp2
          go_ret
          exact ⟨rfl, rfl⟩
        · have e3 : ((m : Int) == 9218868437227405312) = false := by simp; omega
          have h := hc.out
          rw [if_neg c0, if_neg c1, if_neg c2, if_neg c3] at h
          subst h
          have e1 : decide ((m : Int) < 4503599627370496) = false := by simp; omega
          have e2 : decide ((m : Int) < 9218868437227405312) = false := by simp; omega
          clear hc c0 c1 c2 c3
          go_enter Try.func26, Try.ntmps26
          go_wp2_with fail
          refine (refMag_at x _ _ hm).mono ?_
          rintro e w' ⟨rfl, rfl⟩
          go_wp2
          go_ret
          exact ⟨rfl, rfl⟩
theorem refClass_any (x : Nat) (w : World) :
    Calls Try.prog 26 #[.float .f64 x] w fun e w' => e = .returned (.int .i64 (classB x)) ∧ w' = w :=
  refClass_at x (mg x) (classB x) w rfl rfl
set_option maxHeartbeats 1000000 in
set_option maxRecDepth 100000 in
theorem refCanon_any (x : Nat) (w : World) :
    Calls Try.prog 27 #[.float .f64 x] w fun e w' => e = .returned (.float .f64 (canonB x)) ∧ w' = w := by
  obtain ⟨m, hm⟩ : ∃ m, mg x = m := ⟨_, rfl⟩
  obtain ⟨r, hr⟩ : ∃ r, canonB x = r := ⟨_, rfl⟩
  have HM := hid hm
  have HR : Hid (r = if isN x then quiet else if m = 0 then 0 else x) := by show r = _; rw [← hr, ← hm]; rfl
  rw [hr]
  clear hr hm
  cases nN : isN x
  · have h := HR.out
    rw [nN, if_neg (by decide)] at h
    by_cases c : m = 0
    · rw [if_pos c] at h
      subst h
      subst c
      clear HR
      go_enter Try.func27, Try.ntmps27
      go_wp2_with fail
      refine (refNone_any x _).mono ?_
      rintro e w' ⟨rfl, rfl⟩
      go_wp2_with fail
      refine (refMag_at x _ _ HM).mono ?_
      rintro e w' ⟨rfl, rfl⟩
      go_wp2_with fail
      refine (from_at 0 0 _ (by decide)).mono ?_
      rintro e w' ⟨rfl, rfl⟩
      go_wp2
      go_ret
      exact ⟨rfl, rfl⟩
    · rw [if_neg c] at h
      rw [h]
      have e0 : ((m : Int) == 0) = false := by simp; omega
      clear HR h
      go_enter Try.func27, Try.ntmps27
      go_wp2_with fail
      refine (refNone_any x _).mono ?_
      rintro e w' ⟨rfl, rfl⟩
      go_wp2_with fail
      refine (refMag_at x _ _ HM).mono ?_
      rintro e w' ⟨rfl, rfl⟩
      go_wp2
      go_ret
      exact ⟨rfl, rfl⟩
  · have h := HR.out
    rw [nN, if_pos rfl] at h
    rw [h]
    clear HR h
    go_enter Try.func27, Try.ntmps27
    go_wp2_with fail
    refine (refNone_any x _).mono ?_
    rintro e w' ⟨rfl, rfl⟩
    go_wp2_with fail
    refine (refQuiet_any _).mono ?_
    rintro e w' ⟨rfl, rfl⟩
    go_wp2
    go_ret
    exact ⟨rfl, rfl⟩

set_option maxHeartbeats 1000000 in
set_option maxRecDepth 100000 in
theorem refUp_any (x : Nat) (w : World) (hx : x < 18446744073709551616) :
    Calls Try.prog 28 #[.float .f64 x] w fun e w' => e = .returned (.float .f64 (upB x)) ∧ w' = w := by
  obtain ⟨m, hm⟩ : ∃ m, mg x = m := ⟨_, rfl⟩
  obtain ⟨r, hr⟩ : ∃ r, upB x = r := ⟨_, rfl⟩
  have HM := hid hm
  have hw := word_eq x hx
  have lm : m < 9223372036854775808 := by rw [← hm]; exact mg_lt x
  have HR : Hid (r = if isN x then quiet else if m = 0 then 1 else if x = 9218868437227405312 then x else if ng x then x - 1 else x + 1) := by show r = _; rw [← hr, ← hm]; rfl
  rw [hr]
  rw [hm] at hw
  cases nN : isN x
  · have hle := isN_false.1 nN
    rw [hm] at hle
    clear hr hm
    have h := HR.out
    rw [nN, if_neg (by decide)] at h
    by_cases c : m = 0
    · rw [if_pos c] at h
      subst h
      subst c
      clear HR hw hle lm
      go_enter Try.func28, Try.ntmps28
      go_wp2_with fail
      refine (refMag_at x _ _ HM).mono ?_
      rintro e w' ⟨rfl, rfl⟩
      go_wp2_with fail
      refine (refNone_any x _).mono ?_
      rintro e w' ⟨rfl, rfl⟩
      go_wp2_with fail
      refine (from_at 1 1 _ (by decide)).mono ?_
      rintro e w' ⟨rfl, rfl⟩
      go_wp2
      go_ret
      exact ⟨rfl, rfl⟩
    · rw [if_neg c] at h
      have e0 : ((m : Int) == 0) = false := by simp; omega
      cases hn : ng x
      · rw [hn] at h hw
        simp only [Bool.false_eq_true, if_false] at h hw
        by_cases c2 : m = 9218868437227405312
        · have hr2 : r = x := by rw [h, if_pos (by omega)]
          rw [hr2]
          clear HR h hw hle lm c hr2
          subst c2
          go_enter Try.func28, Try.ntmps28
          go_wp2_with fail
          refine (refMag_at x _ _ HM).mono ?_
          rintro e w' ⟨rfl, rfl⟩
          go_wp2_with fail
          refine (refNone_any x _).mono ?_
          rintro e w' ⟨rfl, rfl⟩
          go_wp2_with fail
          refine (refBelow_any x _).mono ?_
          rintro e w' ⟨rfl, rfl⟩
          go_wp2
          go_ret
          exact ⟨rfl, rfl⟩
        · have hr2 : r = m + 1 := by rw [h, if_neg (by omega)]; omega
          have e2 : ((m : Int) == 9218868437227405312) = false := by simp; omega
          rw [hr2]
          have hb1 : (m : Int) + 1 ≤ 9218868437227405312 := by omega
          clear HR h hw hle c c2 hr2
          go_enter Try.func28, Try.ntmps28
          go_wp2_with fail
          refine (refMag_at x _ _ HM).mono ?_
          rintro e w' ⟨rfl, rfl⟩
          go_wp2_with fail
          refine (refNone_any x _).mono ?_
          rintro e w' ⟨rfl, rfl⟩
          go_wp2_with fail
          refine (refBelow_any x _).mono ?_
          rintro e w' ⟨rfl, rfl⟩
          go_wp2_with fail
          refine (from_at ((m : Int) + 1) (m + 1) _ (by omega)).mono ?_
          rintro e w' ⟨rfl, rfl⟩
          go_wp2
          go_ret
          exact ⟨rfl, rfl⟩
      · rw [hn] at h hw
        simp only [if_true] at h hw
        have hr2 : r = 9223372036854775808 + m - 1 := by rw [h, if_neg (by omega)]; omega
        rw [hr2]
        obtain ⟨k, hk⟩ : ∃ k, m = k + 1 := ⟨m - 1, by omega⟩
        clear HR h hw hr2
        go_enter Try.func28, Try.ntmps28
        go_wp2_with fail
        refine (refMag_at x _ _ HM).mono ?_
        rintro e w' ⟨rfl, rfl⟩
        go_wp2_with fail
        refine (refNone_any x _).mono ?_
        rintro e w' ⟨rfl, rfl⟩
        go_wp2_with fail
        refine (refBelow_any x _).mono ?_
        rintro e w' ⟨rfl, rfl⟩
        go_wp2
        go_ret
        exact ⟨ret_flt (by omega), rfl⟩
  · have h := HR.out
    rw [nN, if_pos rfl] at h
    rw [h]
    clear HR h hr hm hw lm
    go_enter Try.func28, Try.ntmps28
    go_wp2_with fail
    refine (refMag_at x _ _ HM).mono ?_
    rintro e w' ⟨rfl, rfl⟩
    go_wp2_with fail
    refine (refNone_any x _).mono ?_
    rintro e w' ⟨rfl, rfl⟩
    go_wp2_with fail
    refine (refQuiet_any _).mono ?_
    rintro e w' ⟨rfl, rfl⟩
    go_wp2
    go_ret
    exact ⟨rfl, rfl⟩

set_option maxHeartbeats 1000000 in
set_option maxRecDepth 100000 in
theorem refOpposite_any (x : Nat) (w : World) (hx : x < 18446744073709551616) :
    Calls Try.prog 47 #[.float .f64 x] w fun e w' => e = .returned (.float .f64 (negB x)) ∧ w' = w := by
  obtain ⟨m, hm⟩ : ∃ m, mg x = m := ⟨_, rfl⟩
  have HM := hid hm
  have hw := word_eq x hx
  have lm : m < 9223372036854775808 := by rw [← hm]; exact mg_lt x
  obtain ⟨r, hr⟩ : ∃ r, negB x = r := ⟨_, rfl⟩
  rw [hr]
  unfold negB at hr
  rw [hm] at hw
  cases hn : ng x
  · rw [hn] at hr hw
    simp only [Bool.false_eq_true, if_false] at hr hw
    have h : r = m + 9223372036854775808 := by omega
    rw [h]
    have H : Hid (r = m + 9223372036854775808) := h
    clear hr hw hm h
    go_enter Try.func47, Try.ntmps47
    go_wp2_with fail
    refine (refBelow_any x _).mono ?_
    rintro e w' ⟨rfl, rfl⟩
    go_wp2_with fail
    refine (refMag_at x _ _ HM).mono ?_
    rintro e w' ⟨rfl, rfl⟩
    go_wp2
    go_ret
    exact ⟨ret_flt (by omega), rfl⟩
  · rw [hn] at hr hw
    simp only [if_true] at hr hw
    have h : r = m := by omega
    rw [h]
    clear hr hw hm h
    go_enter Try.func47, Try.ntmps47
    go_wp2_with fail
    refine (refBelow_any x _).mono ?_
    rintro e w' ⟨rfl, rfl⟩
    go_wp2_with fail
    refine (refMag_at x _ _ HM).mono ?_
    rintro e w' ⟨rfl, rfl⟩
    go_wp2
    go_ret
    exact ⟨ret_flt (by omega), rfl⟩

theorem refOpposite_at (x y : Nat) (w : World) (hx : x < 18446744073709551616) (hy : Hid (negB x = y)) :
    Calls Try.prog 47 #[.float .f64 x] w fun e w' => e = .returned (.float .f64 y) ∧ w' = w := by
  rw [← hy.out]; exact refOpposite_any x w hx
theorem refUp_at (x y : Nat) (w : World) (hx : x < 18446744073709551616) (hy : Hid (upB x = y)) :
    Calls Try.prog 28 #[.float .f64 x] w fun e w' => e = .returned (.float .f64 y) ∧ w' = w := by
  rw [← hy.out]; exact refUp_any x w hx
set_option maxHeartbeats 1000000 in
set_option maxRecDepth 100000 in
theorem refDown_any (x : Nat) (w : World) (hx : x < 18446744073709551616) :
    Calls Try.prog 29 #[.float .f64 x] w fun e w' => e = .returned (.float .f64 (downB x)) ∧ w' = w := by
  obtain ⟨y, hy⟩ : ∃ y, negB x = y := ⟨_, rfl⟩
  obtain ⟨u, hu⟩ : ∃ u, upB y = u := ⟨_, rfl⟩
  obtain ⟨v, hv⟩ : ∃ v, negB u = v := ⟨_, rfl⟩
  obtain ⟨r, hr⟩ : ∃ r, downB x = r := ⟨_, rfl⟩
  have ly : y < 18446744073709551616 := by rw [← hy]; exact negB_lt hx
  have lu : u < 18446744073709551616 := by rw [← hu]; exact upB_lt ly
  rw [hr]
  have HR : Hid (r = if isN x then quiet else v) := by rw [← hr, ← hv, ← hu, ← hy]; rfl
  have HY := hid hy
  have HU := hid hu
  have HV := hid hv
  clear hu hv hr hy
  cases hN : isN x
  · have h := HR.out
    rw [hN, if_neg (by decide)] at h
    rw [h]
    clear HR h
    go_enter Try.func29, Try.ntmps29
    go_wp2_with fail
    refine (refNone_any x _).mono ?_
    rintro e w' ⟨rfl, rfl⟩
    go_wp2_with fail
    refine (refOpposite_at x y _ hx HY).mono ?_
    rintro e w' ⟨rfl, rfl⟩
    go_wp2_with fail
    refine (refUp_at y u _ ly HU).mono ?_
    rintro e w' ⟨rfl, rfl⟩
    go_wp2_with fail
    refine (refOpposite_at u v _ lu HV).mono ?_
    rintro e w' ⟨rfl, rfl⟩
    go_wp2
    go_ret
    exact ⟨rfl, rfl⟩
  · have h := HR.out
    rw [hN, if_pos rfl] at h
    rw [h]
    clear HR h
    go_enter Try.func29, Try.ntmps29
    go_wp2_with fail
    refine (refNone_any x _).mono ?_
    rintro e w' ⟨rfl, rfl⟩
    go_wp2_with fail
    refine (refQuiet_any _).mono ?_
    rintro e w' ⟨rfl, rfl⟩
    go_wp2
    go_ret
    exact ⟨rfl, rfl⟩

set_option maxHeartbeats 1000000 in
set_option maxRecDepth 100000 in
theorem refUlp_any (x : Nat) (w : World) :
    Calls Try.prog 30 #[.float .f64 x] w fun e w' => e = .returned (.float .f64 (ulpB x)) ∧ w' = w := by
  obtain ⟨m, hm⟩ : ∃ m, mg x = m := ⟨_, rfl⟩
  obtain ⟨r, hr⟩ : ∃ r, ulpB x = r := ⟨_, rfl⟩
  have HM := hid hm
  have HR : Hid (r = if isN x then quiet else if 9218868437227405311 ≤ m then 9218868437227405312 else rung 52 0 (gap 52 m)) := by rw [← hr, ← hm]; rfl
  rw [hr]
  clear hr hm
  cases hN : isN x
  · have h := HR.out
    rw [hN, if_neg (by decide)] at h
    by_cases c : 9218868437227405311 ≤ m
    · rw [if_pos c] at h
      subst h
      have e1 : decide ((9218868437227405311 : Int) ≤ m) = true := by simp; omega
      clear HR c
      go_enter Try.func30, Try.ntmps30
      go_wp2_with fail
      refine (refMag_at x _ _ HM).mono ?_
      rintro e w' ⟨rfl, rfl⟩
      go_wp2_with fail
      refine (refNone_any x _).mono ?_
      rintro e w' ⟨rfl, rfl⟩
      go_wp2_with fail
      refine (from_at 9218868437227405312 9218868437227405312 _ (by decide)).mono ?_
      rintro e w' ⟨rfl, rfl⟩
      go_wp2
      go_ret
      exact ⟨rfl, rfl⟩
    · rw [if_neg c] at h
      have e1 : decide ((9218868437227405311 : Int) ≤ m) = false := by simp; omega
      have hs := fun (t : TypeId) (w : World) => run_float_arith (P := Try.prog) w .sub t .f64 (m + 1) m r (by rw [h]; exact sub_succ m (by omega))
      have hlt : (m : Int) < 9218868437227405311 := by omega
      clear HR c h
      go_enter Try.func30, Try.ntmps30
      go_wp2_with fail
      refine (refMag_at x _ _ HM).mono ?_
      rintro e w' ⟨rfl, rfl⟩
      go_wp2_with fail
      refine (refNone_any x _).mono ?_
      rintro e w' ⟨rfl, rfl⟩
      go_wp2_with fail
      refine (from_at ((m : Int) + 1) (m + 1) _ (by omega)).mono ?_
      rintro e w' ⟨rfl, rfl⟩
      go_wp2_with fail
      refine (from_at (m : Int) m _ (by omega)).mono ?_
      rintro e w' ⟨rfl, rfl⟩
      go_wp2
      go_ret
      exact ⟨rfl, rfl⟩
  · have h := HR.out
    rw [hN, if_pos rfl] at h
    rw [h]
    clear HR h
    go_enter Try.func30, Try.ntmps30
    go_wp2_with fail
    refine (refMag_at x _ _ HM).mono ?_
    rintro e w' ⟨rfl, rfl⟩
    go_wp2_with fail
    refine (refNone_any x _).mono ?_
    rintro e w' ⟨rfl, rfl⟩
    go_wp2_with fail
    refine (refQuiet_any _).mono ?_
    rintro e w' ⟨rfl, rfl⟩
    go_wp2
    go_ret
    exact ⟨rfl, rfl⟩

set_option maxHeartbeats 1000000 in
set_option maxRecDepth 100000 in
theorem refOrder_any (a b : Nat) (w : World) (ha : a < 18446744073709551616) (hb : b < 18446744073709551616) :
    Calls Try.prog 32 #[.float .f64 a, .float .f64 b] w fun e w' => e = .returned (.int .i64 (orderB a b)) ∧ w' = w := by
  obtain ⟨o, ho⟩ : ∃ o, orderB a b = o := ⟨_, rfl⟩
  rw [ho]
  by_cases c : a = b
  · have h : o = 0 := by rw [← ho, c]; unfold orderB; rw [if_neg (by omega), if_neg (by omega)]
    have e : ((a : Int) == (b : Int)) = true := by simp; omega
    rw [h]
    clear h ho
    subst c
    go_enter Try.func32, Try.ntmps32
    go_wp2_with fail
    refine (rawBits_any _ _).mono ?_
    rintro e w' ⟨rfl, rfl⟩
    go_wp2_with fail
    refine (rawBits_any _ _).mono ?_
    rintro e w' ⟨rfl, rfl⟩
    go_wp2
    go_ret
    exact ⟨rfl, rfl⟩
  · have e : ((a : Int) == (b : Int)) = false := by simp; omega
    cases hna : ng a
    · have la := lt_of_ng hna
      cases hnb : ng b
      · have lb := lt_of_ng hnb
        by_cases c2 : a < b
        · have h : o = -1 := by rw [← ho]; unfold orderB placeB; rw [hna, hnb]; simp only [Bool.false_eq_true, if_false]; rw [if_pos (by omega)]
          rw [h]
          clear h ho
          go_enter Try.func32, Try.ntmps32
          go_wp2_with fail
          refine (rawBits_any a _).mono ?_
          rintro e w' ⟨rfl, rfl⟩
          go_wp2_with fail
          refine (rawBits_any b _).mono ?_
          rintro e w' ⟨rfl, rfl⟩
          go_wp2_with fail
          refine (refBelow_any a _).mono ?_
          rintro e w' ⟨rfl, rfl⟩
          go_wp2_with fail
          refine (refBelow_any a _).mono ?_
          rintro e w' ⟨rfl, rfl⟩
          go_wp2_with fail
          refine (refBelow_any b _).mono ?_
          rintro e w' ⟨rfl, rfl⟩
          go_wp2
          go_ret
          exact ⟨rfl, rfl⟩
        · have h : o = 1 := by rw [← ho]; unfold orderB placeB; rw [hna, hnb]; simp only [Bool.false_eq_true, if_false]; rw [if_neg (by omega), if_pos (by omega)]
          rw [h]
          clear h ho
          go_enter Try.func32, Try.ntmps32
          go_wp2_with fail
          refine (rawBits_any a _).mono ?_
          rintro e w' ⟨rfl, rfl⟩
          go_wp2_with fail
          refine (rawBits_any b _).mono ?_
          rintro e w' ⟨rfl, rfl⟩
          go_wp2_with fail
          refine (refBelow_any a _).mono ?_
          rintro e w' ⟨rfl, rfl⟩
          go_wp2_with fail
          refine (refBelow_any a _).mono ?_
          rintro e w' ⟨rfl, rfl⟩
          go_wp2_with fail
          refine (refBelow_any b _).mono ?_
          rintro e w' ⟨rfl, rfl⟩
          go_wp2
          go_ret
          exact ⟨rfl, rfl⟩
      · have lb := ge_of_ng hnb
        have h : o = 1 := by rw [← ho]; unfold orderB placeB; rw [hna, hnb]; simp only [Bool.false_eq_true, if_false, if_true]; rw [if_neg (by omega), if_pos (by omega)]
        rw [h]
        clear h ho
        go_enter Try.func32, Try.ntmps32
        go_wp2_with fail
        refine (rawBits_any a _).mono ?_
        rintro e w' ⟨rfl, rfl⟩
        go_wp2_with fail
        refine (rawBits_any b _).mono ?_
        rintro e w' ⟨rfl, rfl⟩
        go_wp2_with fail
        refine (refBelow_any a _).mono ?_
        rintro e w' ⟨rfl, rfl⟩
        go_wp2_with fail
        refine (refBelow_any a _).mono ?_
        rintro e w' ⟨rfl, rfl⟩
        go_wp2_with fail
        refine (refBelow_any b _).mono ?_
        rintro e w' ⟨rfl, rfl⟩
        go_wp2
        go_ret
        exact ⟨rfl, rfl⟩
    · have la := ge_of_ng hna
      cases hnb : ng b
      · have lb := lt_of_ng hnb
        have h : o = -1 := by rw [← ho]; unfold orderB placeB; rw [hna, hnb]; simp only [Bool.false_eq_true, if_false, if_true]; rw [if_pos (by omega)]
        rw [h]
        clear h ho
        go_enter Try.func32, Try.ntmps32
        go_wp2_with fail
        refine (rawBits_any a _).mono ?_
        rintro e w' ⟨rfl, rfl⟩
        go_wp2_with fail
        refine (rawBits_any b _).mono ?_
        rintro e w' ⟨rfl, rfl⟩
        go_wp2_with fail
        refine (refBelow_any a _).mono ?_
        rintro e w' ⟨rfl, rfl⟩
        go_wp2_with fail
        refine (refBelow_any b _).mono ?_
        rintro e w' ⟨rfl, rfl⟩
        go_wp2_with fail
        refine (refBelow_any a _).mono ?_
        rintro e w' ⟨rfl, rfl⟩
        go_wp2
        go_ret
        exact ⟨rfl, rfl⟩
      · have lb := ge_of_ng hnb
        by_cases c2 : b < a
        · have h : o = -1 := by rw [← ho]; unfold orderB placeB; rw [hna, hnb]; simp only [if_true]; rw [if_pos (by omega)]
          rw [h]
          clear h ho
          go_enter Try.func32, Try.ntmps32
          go_wp2_with fail
          refine (rawBits_any a _).mono ?_
          rintro e w' ⟨rfl, rfl⟩
          go_wp2_with fail
          refine (rawBits_any b _).mono ?_
          rintro e w' ⟨rfl, rfl⟩
          go_wp2_with fail
          refine (refBelow_any a _).mono ?_
          rintro e w' ⟨rfl, rfl⟩
          go_wp2_with fail
          refine (refBelow_any b _).mono ?_
          rintro e w' ⟨rfl, rfl⟩
          go_wp2
          go_ret
          exact ⟨rfl, rfl⟩
        · have h : o = 1 := by rw [← ho]; unfold orderB placeB; rw [hna, hnb]; simp only [if_true]; rw [if_neg (by omega), if_pos (by omega)]
          rw [h]
          clear h ho
          go_enter Try.func32, Try.ntmps32
          go_wp2_with fail
          refine (rawBits_any a _).mono ?_
          rintro e w' ⟨rfl, rfl⟩
          go_wp2_with fail
          refine (rawBits_any b _).mono ?_
          rintro e w' ⟨rfl, rfl⟩
          go_wp2_with fail
          refine (refBelow_any a _).mono ?_
          rintro e w' ⟨rfl, rfl⟩
          go_wp2_with fail
          refine (refBelow_any b _).mono ?_
          rintro e w' ⟨rfl, rfl⟩
          go_wp2
          go_ret
          exact ⟨rfl, rfl⟩

theorem refOrd_at (a b : Nat) (r : Int) (w : World) (ha : a < 18446744073709551616) (hb : b < 18446744073709551616) (hr : Hid (orderB a b = r)) :
    Calls Try.prog 32 #[.float .f64 a, .float .f64 b] w fun e w' => e = .returned (.int .i64 r) ∧ w' = w := by
  rw [← hr.out]; exact refOrder_any a b w ha hb
set_option maxHeartbeats 1000000 in
set_option maxRecDepth 100000 in
theorem refMax_any (a b : Nat) (w : World) (ha : a < 18446744073709551616) (hb : b < 18446744073709551616) :
    Calls Try.prog 33 #[.float .f64 a, .float .f64 b] w fun e w' => e = .returned (.float .f64 (maxB a b)) ∧ w' = w := by
  obtain ⟨r, hr⟩ : ∃ r, maxB a b = r := ⟨_, rfl⟩
  obtain ⟨o, ho⟩ : ∃ o, orderB a b = o := ⟨_, rfl⟩
  have h1 := orderB_lt a b
  rw [ho] at h1
  have HO : Hid (orderB a b = o) := ho
  have HR : Hid (r = if isN a || isN b then quiet else if o < 0 then b else a) := by
    show r = _
    rw [← hr]; unfold maxB; simp only [h1]
  rw [hr]
  clear hr ho h1
  cases nA : isN a
  · cases nB : isN b
    · have h := HR.out
      rw [nA, nB] at h
      simp only [Bool.or_self, Bool.false_eq_true, if_false] at h
      by_cases c : o < 0
      · have e1 : decide (0 ≤ o) = false := by simp; omega
        rw [if_pos c] at h
        rw [h]
        clear c HR h
        go_enter Try.func33, Try.ntmps33
        go_wp2_with fail
        refine (refNone_any a _).mono ?_
        rintro e w' ⟨rfl, rfl⟩
        go_wp2_with fail
        refine (refNone_any b _).mono ?_
        rintro e w' ⟨rfl, rfl⟩
        go_wp2_with fail
        refine (refOrd_at a b o _ ha hb HO).mono ?_
        rintro e w' ⟨rfl, rfl⟩
        go_wp2
        go_ret
        exact ⟨rfl, rfl⟩
      · have e1 : decide (0 ≤ o) = true := by simp; omega
        rw [if_neg c] at h
        rw [h]
        clear c HR h
        go_enter Try.func33, Try.ntmps33
        go_wp2_with fail
        refine (refNone_any a _).mono ?_
        rintro e w' ⟨rfl, rfl⟩
        go_wp2_with fail
        refine (refNone_any b _).mono ?_
        rintro e w' ⟨rfl, rfl⟩
        go_wp2_with fail
        refine (refOrd_at a b o _ ha hb HO).mono ?_
        rintro e w' ⟨rfl, rfl⟩
        go_wp2
        go_ret
        exact ⟨rfl, rfl⟩
    · have h := HR.out
      rw [nA, nB] at h
      simp only [Bool.or_true, if_true] at h
      rw [h]
      clear HR h
      go_enter Try.func33, Try.ntmps33
      go_wp2_with fail
      refine (refNone_any a _).mono ?_
      rintro e w' ⟨rfl, rfl⟩
      go_wp2_with fail
      refine (refNone_any b _).mono ?_
      rintro e w' ⟨rfl, rfl⟩
      go_wp2_with fail
      refine (refQuiet_any _).mono ?_
      rintro e w' ⟨rfl, rfl⟩
      go_wp2
      go_ret
      exact ⟨rfl, rfl⟩
  · have h := HR.out
    rw [nA] at h
    simp only [Bool.true_or, if_true] at h
    rw [h]
    clear HR h
    go_enter Try.func33, Try.ntmps33
    go_wp2_with fail
    refine (refNone_any a _).mono ?_
    rintro e w' ⟨rfl, rfl⟩
    go_wp2_with fail
    refine (refQuiet_any _).mono ?_
    rintro e w' ⟨rfl, rfl⟩
    go_wp2
    go_ret
    exact ⟨rfl, rfl⟩

set_option maxHeartbeats 1000000 in
set_option maxRecDepth 100000 in
theorem refMin_any (a b : Nat) (w : World) (ha : a < 18446744073709551616) (hb : b < 18446744073709551616) :
    Calls Try.prog 34 #[.float .f64 a, .float .f64 b] w fun e w' => e = .returned (.float .f64 (minB a b)) ∧ w' = w := by
  obtain ⟨r, hr⟩ : ∃ r, minB a b = r := ⟨_, rfl⟩
  obtain ⟨o, ho⟩ : ∃ o, orderB a b = o := ⟨_, rfl⟩
  have h1 := orderB_gt a b
  rw [ho] at h1
  have HO : Hid (orderB a b = o) := ho
  have HR : Hid (r = if isN a || isN b then quiet else if 0 < o then b else a) := by
    show r = _
    rw [← hr]; unfold minB; simp only [h1]
  rw [hr]
  clear hr ho h1
  cases nA : isN a
  · cases nB : isN b
    · have h := HR.out
      rw [nA, nB] at h
      simp only [Bool.or_self, Bool.false_eq_true, if_false] at h
      by_cases c : 0 < o
      · have e1 : decide (o ≤ 0) = false := by simp; omega
        rw [if_pos c] at h
        rw [h]
        clear c HR h
        go_enter Try.func34, Try.ntmps34
        go_wp2_with fail
        refine (refNone_any a _).mono ?_
        rintro e w' ⟨rfl, rfl⟩
        go_wp2_with fail
        refine (refNone_any b _).mono ?_
        rintro e w' ⟨rfl, rfl⟩
        go_wp2_with fail
        refine (refOrd_at a b o _ ha hb HO).mono ?_
        rintro e w' ⟨rfl, rfl⟩
        go_wp2
        go_ret
        exact ⟨rfl, rfl⟩
      · have e1 : decide (o ≤ 0) = true := by simp; omega
        rw [if_neg c] at h
        rw [h]
        clear c HR h
        go_enter Try.func34, Try.ntmps34
        go_wp2_with fail
        refine (refNone_any a _).mono ?_
        rintro e w' ⟨rfl, rfl⟩
        go_wp2_with fail
        refine (refNone_any b _).mono ?_
        rintro e w' ⟨rfl, rfl⟩
        go_wp2_with fail
        refine (refOrd_at a b o _ ha hb HO).mono ?_
        rintro e w' ⟨rfl, rfl⟩
        go_wp2
        go_ret
        exact ⟨rfl, rfl⟩
    · have h := HR.out
      rw [nA, nB] at h
      simp only [Bool.or_true, if_true] at h
      rw [h]
      clear HR h
      go_enter Try.func34, Try.ntmps34
      go_wp2_with fail
      refine (refNone_any a _).mono ?_
      rintro e w' ⟨rfl, rfl⟩
      go_wp2_with fail
      refine (refNone_any b _).mono ?_
      rintro e w' ⟨rfl, rfl⟩
      go_wp2_with fail
      refine (refQuiet_any _).mono ?_
      rintro e w' ⟨rfl, rfl⟩
      go_wp2
      go_ret
      exact ⟨rfl, rfl⟩
  · have h := HR.out
    rw [nA] at h
    simp only [Bool.true_or, if_true] at h
    rw [h]
    clear HR h
    go_enter Try.func34, Try.ntmps34
    go_wp2_with fail
    refine (refNone_any a _).mono ?_
    rintro e w' ⟨rfl, rfl⟩
    go_wp2_with fail
    refine (refQuiet_any _).mono ?_
    rintro e w' ⟨rfl, rfl⟩
    go_wp2
    go_ret
    exact ⟨rfl, rfl⟩

theorem ret_ib {a b : Int} {c : Bool} (h : a = b) : Ending.returned (.tuple #[.int .i64 a, .bool c]) = .returned (.tuple #[.int .i64 b, .bool c]) := by rw [h]
set_option maxHeartbeats 1000000 in
set_option maxRecDepth 100000 in
theorem refBetween_any (a b : Nat) (w : World) :
    Calls Try.prog 31 #[.float .f64 a, .float .f64 b] w fun e w' => e = .returned (.tuple #[.int .i64 (betB a b), .bool (betOk a b)]) ∧ w' = w := by
  cases nA : isN a
  · cases nB : isN b
    · obtain ⟨p, hp⟩ : ∃ p, mg a = p := ⟨_, rfl⟩
      obtain ⟨q, hq⟩ : ∃ q, mg b = q := ⟨_, rfl⟩
      have ba := isN_false.1 nA
      have bb := isN_false.1 nB
      have hy := bet_yes a b nA nB
      have hn := bet_no a b
      rw [hp] at ba; rw [hq] at bb
      have HA := hid hp
      have HB := hid hq
      have ra : rk a = if ng a then -(p : Int) else (p : Int) := by rw [← hp]; rfl
      have rb : rk b = if ng b then -(q : Int) else (q : Int) := by rw [← hq]; rfl
      clear hp hq
      cases hna : ng a
      · rw [hna] at ra
        simp only [Bool.false_eq_true, if_false] at ra
        cases hnb : ng b
        · rw [hnb] at rb
          simp only [Bool.false_eq_true, if_false] at rb
          rw [ra, rb] at hy hn
          obtain ⟨e1, e2⟩ := hy (by omega) (by omega)
          rw [e1, e2]
          clear hy hn ra rb e1 e2
          go_enter Try.func31, Try.ntmps31
          go_wp2_with fail
          refine (refNone_any a _).mono ?_
          rintro e w' ⟨rfl, rfl⟩
          go_wp2_with fail
          refine (refNone_any b _).mono ?_
          rintro e w' ⟨rfl, rfl⟩
          go_wp2_with fail
          refine (refMag_at a _ _ HA).mono ?_
          rintro e w' ⟨rfl, rfl⟩
          go_wp2_with fail
          refine (refMag_at b _ _ HB).mono ?_
          rintro e w' ⟨rfl, rfl⟩
          go_wp2_with fail
          refine (refBelow_any a _).mono ?_
          rintro e w' ⟨rfl, rfl⟩
          go_wp2_with fail
          refine (refBelow_any b _).mono ?_
          rintro e w' ⟨rfl, rfl⟩
          go_wp2_with fail
          refine (refBelow_any a _).mono ?_
          rintro e w' ⟨rfl, rfl⟩
          go_wp2
          go_ret2
          exact ⟨rfl, rfl⟩
        · rw [hnb] at rb
          simp only [if_true] at rb
          rw [ra, rb] at hy hn
          by_cases c : (9223372036854775808 : Int) < (p : Int) + q
          · obtain ⟨e1, e2⟩ := hn (by omega)
            rw [e1, e2]
            have c1 : decide ((9223372036854775808 : Int) < (p : Int) + q) = true := by simp; omega
            clear hy hn ra rb e1 e2 c
            go_enter Try.func31, Try.ntmps31
            go_wp2_with fail
            refine (refNone_any a _).mono ?_
            rintro e w' ⟨rfl, rfl⟩
            go_wp2_with fail
            refine (refNone_any b _).mono ?_
            rintro e w' ⟨rfl, rfl⟩
            go_wp2_with fail
            refine (refMag_at a _ _ HA).mono ?_
            rintro e w' ⟨rfl, rfl⟩
            go_wp2_with fail
            refine (refMag_at b _ _ HB).mono ?_
            rintro e w' ⟨rfl, rfl⟩
            go_wp2_with fail
            refine (refBelow_any a _).mono ?_
            rintro e w' ⟨rfl, rfl⟩
            go_wp2_with fail
            refine (refBelow_any b _).mono ?_
            rintro e w' ⟨rfl, rfl⟩
            go_wp2_with fail
            refine (refBelow_any a _).mono ?_
            rintro e w' ⟨rfl, rfl⟩
            go_wp2
            go_ret2
            exact ⟨rfl, rfl⟩
          · obtain ⟨e1, e2⟩ := hy (by omega) (by omega)
            rw [e1, e2]
            have c1 : decide ((9223372036854775808 : Int) < (p : Int) + q) = false := by simp; omega
            clear hy hn ra rb e1 e2
            go_enter Try.func31, Try.ntmps31
            go_wp2_with fail
            refine (refNone_any a _).mono ?_
            rintro e w' ⟨rfl, rfl⟩
            go_wp2_with fail
            refine (refNone_any b _).mono ?_
            rintro e w' ⟨rfl, rfl⟩
            go_wp2_with fail
            refine (refMag_at a _ _ HA).mono ?_
            rintro e w' ⟨rfl, rfl⟩
            go_wp2_with fail
            refine (refMag_at b _ _ HB).mono ?_
            rintro e w' ⟨rfl, rfl⟩
            go_wp2_with fail
            refine (refBelow_any a _).mono ?_
            rintro e w' ⟨rfl, rfl⟩
            go_wp2_with fail
            refine (refBelow_any b _).mono ?_
            rintro e w' ⟨rfl, rfl⟩
            go_wp2_with fail
            refine (refBelow_any a _).mono ?_
            rintro e w' ⟨rfl, rfl⟩
            go_wp2
            go_ret2
            exact ⟨ret_ib (by first | omega | (simp only [IntKind.wrap_u64]; unfold wrap64; omega)), rfl⟩
      · rw [hna] at ra
        simp only [if_true] at ra
        cases hnb : ng b
        · rw [hnb] at rb
          simp only [Bool.false_eq_true, if_false] at rb
          rw [ra, rb] at hy hn
          by_cases c : (9223372036854775808 : Int) ≤ (p : Int) + q
          · obtain ⟨e1, e2⟩ := hn (by omega)
            rw [e1, e2]
            have c1 : decide ((9223372036854775808 : Int) ≤ (p : Int) + q) = true := by simp; omega
            clear hy hn ra rb e1 e2 c
            go_enter Try.func31, Try.ntmps31
            go_wp2_with fail
            refine (refNone_any a _).mono ?_
            rintro e w' ⟨rfl, rfl⟩
            go_wp2_with fail
            refine (refNone_any b _).mono ?_
            rintro e w' ⟨rfl, rfl⟩
            go_wp2_with fail
            refine (refMag_at a _ _ HA).mono ?_
            rintro e w' ⟨rfl, rfl⟩
            go_wp2_with fail
            refine (refMag_at b _ _ HB).mono ?_
            rintro e w' ⟨rfl, rfl⟩
            go_wp2_with fail
            refine (refBelow_any a _).mono ?_
            rintro e w' ⟨rfl, rfl⟩
            go_wp2_with fail
            refine (refBelow_any b _).mono ?_
            rintro e w' ⟨rfl, rfl⟩
            go_wp2_with fail
            refine (refBelow_any a _).mono ?_
            rintro e w' ⟨rfl, rfl⟩
            go_wp2
            go_ret2
            exact ⟨rfl, rfl⟩
          · obtain ⟨e1, e2⟩ := hy (by omega) (by omega)
            rw [e1, e2]
            have c1 : decide ((9223372036854775808 : Int) ≤ (p : Int) + q) = false := by simp; omega
            clear hy hn ra rb e1 e2
            go_enter Try.func31, Try.ntmps31
            go_wp2_with fail
            refine (refNone_any a _).mono ?_
            rintro e w' ⟨rfl, rfl⟩
            go_wp2_with fail
            refine (refNone_any b _).mono ?_
            rintro e w' ⟨rfl, rfl⟩
            go_wp2_with fail
            refine (refMag_at a _ _ HA).mono ?_
            rintro e w' ⟨rfl, rfl⟩
            go_wp2_with fail
            refine (refMag_at b _ _ HB).mono ?_
            rintro e w' ⟨rfl, rfl⟩
            go_wp2_with fail
            refine (refBelow_any a _).mono ?_
            rintro e w' ⟨rfl, rfl⟩
            go_wp2_with fail
            refine (refBelow_any b _).mono ?_
            rintro e w' ⟨rfl, rfl⟩
            go_wp2_with fail
            refine (refBelow_any a _).mono ?_
            rintro e w' ⟨rfl, rfl⟩
            go_wp2
            go_ret2
            exact ⟨ret_ib (by first | omega | (simp only [IntKind.wrap_u64]; unfold wrap64; omega)), rfl⟩
        · rw [hnb] at rb
          simp only [if_true] at rb
          rw [ra, rb] at hy hn
          obtain ⟨e1, e2⟩ := hy (by omega) (by omega)
          rw [e1, e2]
          clear hy hn ra rb e1 e2
          go_enter Try.func31, Try.ntmps31
          go_wp2_with fail
          refine (refNone_any a _).mono ?_
          rintro e w' ⟨rfl, rfl⟩
          go_wp2_with fail
          refine (refNone_any b _).mono ?_
          rintro e w' ⟨rfl, rfl⟩
          go_wp2_with fail
          refine (refMag_at a _ _ HA).mono ?_
          rintro e w' ⟨rfl, rfl⟩
          go_wp2_with fail
          refine (refMag_at b _ _ HB).mono ?_
          rintro e w' ⟨rfl, rfl⟩
          go_wp2_with fail
          refine (refBelow_any a _).mono ?_
          rintro e w' ⟨rfl, rfl⟩
          go_wp2_with fail
          refine (refBelow_any b _).mono ?_
          rintro e w' ⟨rfl, rfl⟩
          go_wp2_with fail
          refine (refBelow_any a _).mono ?_
          rintro e w' ⟨rfl, rfl⟩
          go_wp2
          go_ret2
          exact ⟨ret_ib (by first | omega | (simp only [IntKind.wrap_u64]; unfold wrap64; omega)), rfl⟩
    · obtain ⟨e1, e2⟩ := bet_none a b (.inr nB)
      rw [e1, e2]
      clear e1 e2
      go_enter Try.func31, Try.ntmps31
      go_wp2_with fail
      refine (refNone_any a _).mono ?_
      rintro e w' ⟨rfl, rfl⟩
      go_wp2_with fail
      refine (refNone_any b _).mono ?_
      rintro e w' ⟨rfl, rfl⟩
      go_wp2
      go_ret2
      exact ⟨rfl, rfl⟩
  · obtain ⟨e1, e2⟩ := bet_none a b (.inl nA)
    rw [e1, e2]
    clear e1 e2
    go_enter Try.func31, Try.ntmps31
    go_wp2_with fail
    refine (refNone_any a _).mono ?_
    rintro e w' ⟨rfl, rfl⟩
    go_wp2
    go_ret2
    exact ⟨rfl, rfl⟩

end Go.Proofs.Ytedobmladjhdkaa
