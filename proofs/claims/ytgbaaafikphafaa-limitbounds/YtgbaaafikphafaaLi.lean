/-
  Whether a float is finite, magnitudes, and that the program is awake: walks over it.
-/
import Derived.Test.YtgbaaafikphafaaLg
import Derived.Test.YtgbaaafikphafaaLh
namespace Go.Proofs.Ytgbaaafikphafaa
open Go.RowKit Tf
attribute [local go_sem] run_bits run_from raw_feq raw_fne raw_flt raw_fgt run_neg
set_option maxHeartbeats 400000 in
theorem same10_at (a b : Nat) (w : World) : Calls Try.prog 8 #[.float .f64 a, .float .f64 b] w fun e w' => e = .returned (.bool (sameB a b)) ∧ w' = w := by
  go_enter Try.func8, Try.ntmps8
  go_wp2_with (go_at_call 15; refine (rawSame_any a b _).mono ?_; rintro e w' ⟨rfl, rfl⟩)
  go_ret
  exact ⟨rfl, rfl⟩
theorem same10_yes (a b : Nat) (w : World) (h : a = b) : Calls Try.prog 8 #[.float .f64 a, .float .f64 b] w fun e w' => e = .returned (.bool true) ∧ w' = w := by
  have := same10_at a b w
  rwa [show sameB a b = true by unfold sameB; exact decide_eq_true h] at this
set_option maxHeartbeats 400000 in
theorem finite10_yes (x : Nat) (w : World) (hx : x < 18446744073709551616) (h : fin x = true) :
    Calls Try.prog 10 #[.float .f64 x] w fun e w' => e = .returned (.bool true) ∧ ∃ n, w' = w.drewN n := by
  have hs := fun (t : TypeId) (w : World) => run_float_arith (P := Try.prog) w .sub t .f64 x x 0 (sub_self x hx (by unfold fin at h; simpa using h))
  have h0 : feq 0 0 = true := by decide
  go_enter Try.func10, Try.ntmps10
  go_wp2
  go_ret
  exact ⟨rfl, 0, rfl⟩
set_option maxHeartbeats 400000 in
theorem finite10_no (x : Nat) (w : World) (h : fin x = false) :
    Calls Try.prog 10 #[.float .f64 x] w fun e w' => e = .returned (.bool false) ∧ ∃ n, w' = w.drewN n := by
  have hno : Ieee.double.sub x x = none := by
    unfold fin at h
    have h' : ¬ mg x < 9218868437227405312 := by simpa using h
    by_cases c : mg x = 9218868437227405312
    · exact sub_inf_self x c
    · exact sub_nan x x (.inl (isN_true.2 (by omega)))
  have hs := fun (t : TypeId) (w : World) => run_nan_sub (P := Try.prog) w t x x hno
  have hf := fun (w : World) => feq_nan (nanOf w x x) 0 (.inl (isN_nanOf w x x))
  go_enter Try.func10, Try.ntmps10
  go_wp2
  go_ret
  exact ⟨rfl, 1, rfl⟩
theorem finite10_at (x : Nat) (w : World) (hx : x < 18446744073709551616) :
    Calls Try.prog 10 #[.float .f64 x] w fun e w' => e = .returned (.bool (fin x)) ∧ ∃ n, w' = w.drewN n := by
  cases h : fin x
  · exact finite10_no x w h
  · exact finite10_yes x w hx h
set_option maxHeartbeats 400000 in
theorem mag10_p (x : Nat) (w : World) (h : flt x 0 = false) : Calls Try.prog 11 #[.float .f64 x] w fun e w' => e = .returned (.float .f64 x) ∧ w' = w := by
  go_enter Try.func11, Try.ntmps11
  go_wp2
  go_ret
  exact ⟨rfl, rfl⟩
set_option maxHeartbeats 400000 in
theorem mag10_n (x y : Nat) (w : World) (h : flt x 0 = true) (hy : Op.negFloat .f64 x = y) : Calls Try.prog 11 #[.float .f64 x] w fun e w' => e = .returned (.float .f64 y) ∧ w' = w := by
  go_enter Try.func11, Try.ntmps11
  go_wp2
  go_ret
  exact ⟨rfl, rfl⟩
theorem lv10_0 : slp 1 13830554455654793216 13837309855095848960 = 13830554455654793216 := by decide +kernel
theorem lv10_1 : slp 2 4607182418800017408 4613937818241073152 = 4611686018427387904 := by decide +kernel
theorem lv10_2 : slp 3 4607182418800017408 4613937818241073152 = 4609434218613702656 := by decide +kernel
theorem lv10_3 : slp 0 4607182418800017408 4613937818241073152 = 0 := by decide +kernel
set_option maxHeartbeats 2000000 in
theorem lives10_at (w : World) : Calls Try.prog 6 #[] w fun e w' => e = .returned (.bool true) ∧ Below w.heap.size w w' := by
  have C0 : Hid (∀ w, Calls Try.prog 7 #[.int .i64 1, .float .f64 13830554455654793216, .float .f64 13837309855095848960] w fun e w' => e = .returned (.float .f64 13830554455654793216) ∧ Below w.heap.size w w') := fun w => by
    have h := slope_at 1 13830554455654793216 13837309855095848960 w (by decide) (by decide)
    rwa [lv10_0] at h
  have S0 : Hid (∀ w, Calls Try.prog 8 #[.float .f64 13830554455654793216, .float .f64 13830554455654793216] w fun e w' => e = .returned (.bool true) ∧ w' = w) := fun w => same10_yes _ _ w rfl
  have C1 : Hid (∀ w, Calls Try.prog 7 #[.int .i64 2, .float .f64 4607182418800017408, .float .f64 4613937818241073152] w fun e w' => e = .returned (.float .f64 4611686018427387904) ∧ Below w.heap.size w w') := fun w => by
    have h := slope_at 2 4607182418800017408 4613937818241073152 w (by decide) (by decide)
    rwa [lv10_1] at h
  have S1 : Hid (∀ w, Calls Try.prog 8 #[.float .f64 4611686018427387904, .float .f64 4611686018427387904] w fun e w' => e = .returned (.bool true) ∧ w' = w) := fun w => same10_yes _ _ w rfl
  have C2 : Hid (∀ w, Calls Try.prog 7 #[.int .i64 3, .float .f64 4607182418800017408, .float .f64 4613937818241073152] w fun e w' => e = .returned (.float .f64 4609434218613702656) ∧ Below w.heap.size w w') := fun w => by
    have h := slope_at 3 4607182418800017408 4613937818241073152 w (by decide) (by decide)
    rwa [lv10_2] at h
  have S2 : Hid (∀ w, Calls Try.prog 8 #[.float .f64 4609434218613702656, .float .f64 4609434218613702656] w fun e w' => e = .returned (.bool true) ∧ w' = w) := fun w => same10_yes _ _ w rfl
  have C3 : Hid (∀ w, Calls Try.prog 7 #[.int .i64 0, .float .f64 4607182418800017408, .float .f64 4613937818241073152] w fun e w' => e = .returned (.float .f64 0) ∧ Below w.heap.size w w') := fun w => by
    have h := slope_at 0 4607182418800017408 4613937818241073152 w (by decide) (by decide)
    rwa [lv10_3] at h
  have S3 : Hid (∀ w, Calls Try.prog 8 #[.float .f64 0, .float .f64 0] w fun e w' => e = .returned (.bool true) ∧ w' = w) := fun w => same10_yes _ _ w rfl
  have V3 : Hid (∀ w, Calls Try.prog 13 #[.int .i64 3] w fun e w' => e = .returned (.bool true) ∧ Below w.heap.size w w') := fun w => valid_at 3 w
  have V4 : Hid (∀ w, Calls Try.prog 13 #[.int .i64 4] w fun e w' => e = .returned (.bool false) ∧ Below w.heap.size w w') := fun w => valid_at 4 w
  go_enter Try.func6, Try.ntmps6
  go_wp2_with fail
  refine (C0.out _).mono ?_
  rintro e w0 ⟨rfl, b0⟩
  have B0 : Hid (Ab w w0) := b0
  clear b0
  go_wp2_with fail
  refine (S0.out _).mono ?_
  rintro e w' ⟨rfl, hw⟩
  have hw2 := hw.symm
  subst hw2
  go_wp2_with fail
  refine (C1.out _).mono ?_
  rintro e w1 ⟨rfl, b1⟩
  have B1 : Hid (Ab w w1) := Ab.trans B0.out b1
  clear b1
  go_wp2_with fail
  refine (S1.out _).mono ?_
  rintro e w' ⟨rfl, hw⟩
  have hw2 := hw.symm
  subst hw2
  go_wp2_with fail
  refine (C2.out _).mono ?_
  rintro e w2 ⟨rfl, b2⟩
  have B2 : Hid (Ab w w2) := Ab.trans B1.out b2
  clear b2
  go_wp2_with fail
  refine (S2.out _).mono ?_
  rintro e w' ⟨rfl, hw⟩
  have hw2 := hw.symm
  subst hw2
  go_wp2_with fail
  refine (C3.out _).mono ?_
  rintro e w3 ⟨rfl, b3⟩
  have B3 : Hid (Ab w w3) := Ab.trans B2.out b3
  clear b3
  go_wp2_with fail
  refine (S3.out _).mono ?_
  rintro e w' ⟨rfl, hw⟩
  have hw2 := hw.symm
  subst hw2
  go_wp2_with fail
  refine (V3.out _).mono ?_
  rintro e w4 ⟨rfl, b4⟩
  have B4 : Hid (Ab w w4) := Ab.trans B3.out b4
  clear b4
  go_wp2_with fail
  refine (V4.out _).mono ?_
  rintro e w5 ⟨rfl, b5⟩
  have B5 : Hid (Ab w w5) := Ab.trans B4.out b5
  clear b5
  go_wp2
  go_ret
  exact ⟨rfl, B5.out⟩
end Go.Proofs.Ytgbaaafikphafaa
