/-
  The program is awake: a walk over it.
-/
import Derived.Test.YtgfggfkmfhonbaaNe
namespace Go.Proofs.Ytgfggfkmfhonbaa
open Go.RowKit Tf
theorem lv_v1 : lnB 4613937818241073152 4616189618054758400 0 = 4617315517961601024 := by decide +kernel
theorem lv_v2 : sbB (mlB 0 0) (mlB 0 4607182418800017408) = 0 := by decide +kernel
theorem lv_v3 : sbB (mlB 0 0) (mlB 4607182418800017408 0) = 0 := by decide +kernel
theorem lv_v4 : sbB (mlB 4607182418800017408 4607182418800017408) (mlB 0 0) = 4607182418800017408 := by decide +kernel
theorem lv_v5 : unB (lnB 13835058055282163712 0 0) 13835058055282163712 = 13830554455654793216 := by decide +kernel
theorem lv_v6 : unB (lnB 13835058055282163712 0 0) 0 = 0 := by decide +kernel
theorem lv_v7 : lnB (sbB 4607182418800017408 4607182418800017408) (sbB 4611686018427387904 4611686018427387904) (sbB 4613937818241073152 4617315517961601024) = 4611686018427387904 := by decide +kernel
theorem lv_v8 : sbB 4607182418800017408 4613937818241073152 = 13835058055282163712 := by decide +kernel
theorem lv_v9 : sbB 4611686018427387904 4611686018427387904 = 0 := by decide +kernel
theorem lv_v10 : sbB 4613937818241073152 4607182418800017408 = 4611686018427387904 := by decide +kernel
set_option maxHeartbeats 4000000 in
theorem lives7_at (w : World) : Calls Try.prog 8 #[] w fun e w' => e = .returned (.bool true) ∧ Below w.heap.size w w' := by
  have C0 : Hid (∀ w, Calls Try.prog 9 #[.float .f64 4613937818241073152, .float .f64 4616189618054758400, .float .f64 0] w fun e w' => e = .returned (.agg #[.float .f64 4613937818241073152, .float .f64 4616189618054758400, .float .f64 0]) ∧ Below w.heap.size w w') := fun w => at_at _ _ _ w
  have C1 : Hid (∀ w, Calls Try.prog 15 #[.agg #[.float .f64 4613937818241073152, .float .f64 4616189618054758400, .float .f64 0]] w fun e w' => e = .returned (.float .f64 4617315517961601024) ∧ Below w.heap.size w w') := fun w => by rw [← lv_v1]; exact length_at _ _ _ w (by decide) (by decide) (by decide)
  have C2 : Hid (∀ w, Calls Try.prog 14 #[.float .f64 4617315517961601024, .float .f64 4617315517961601024] w fun e w' => e = .returned (.bool true) ∧ Below w.heap.size w w') := fun w => same7_self _ w
  have C3 : Hid (∀ w, Calls Try.prog 9 #[.float .f64 4607182418800017408, .float .f64 0, .float .f64 0] w fun e w' => e = .returned (.agg #[.float .f64 4607182418800017408, .float .f64 0, .float .f64 0]) ∧ Below w.heap.size w w') := fun w => at_at _ _ _ w
  have C4 : Hid (∀ w, Calls Try.prog 9 #[.float .f64 0, .float .f64 4607182418800017408, .float .f64 0] w fun e w' => e = .returned (.agg #[.float .f64 0, .float .f64 4607182418800017408, .float .f64 0]) ∧ Below w.heap.size w w') := fun w => at_at _ _ _ w
  have C5 : Hid (∀ w, Calls Try.prog 13 #[.agg #[.float .f64 4607182418800017408, .float .f64 0, .float .f64 0], .agg #[.float .f64 0, .float .f64 4607182418800017408, .float .f64 0]] w fun e w' => e = .returned (.agg #[.float .f64 0, .float .f64 0, .float .f64 4607182418800017408]) ∧ Below w.heap.size w w') := fun w => by have h := cross_at 4607182418800017408 0 0 0 4607182418800017408 0 w (by decide) (by decide) (by decide) (by decide) (by decide) (by decide); rw [lv_v2, lv_v3, lv_v4] at h; exact h
  have C6 : Hid (∀ w, Calls Try.prog 9 #[.float .f64 0, .float .f64 0, .float .f64 4607182418800017408] w fun e w' => e = .returned (.agg #[.float .f64 0, .float .f64 0, .float .f64 4607182418800017408]) ∧ Below w.heap.size w w') := fun w => at_at _ _ _ w
  have C7 : Hid (∀ w, Calls Try.prog 11 #[.agg #[.float .f64 0, .float .f64 0, .float .f64 4607182418800017408], .agg #[.float .f64 0, .float .f64 0, .float .f64 4607182418800017408]] w fun e w' => e = .returned (.bool true) ∧ Below w.heap.size w w') := fun w => alike_self _ _ _ w
  have C8 : Hid (∀ w, Calls Try.prog 9 #[.float .f64 13835058055282163712, .float .f64 0, .float .f64 0] w fun e w' => e = .returned (.agg #[.float .f64 13835058055282163712, .float .f64 0, .float .f64 0]) ∧ Below w.heap.size w w') := fun w => at_at _ _ _ w
  have C9 : Hid (∀ w, Calls Try.prog 16 #[.agg #[.float .f64 13835058055282163712, .float .f64 0, .float .f64 0]] w fun e w' => e = .returned (.agg #[.float .f64 13830554455654793216, .float .f64 0, .float .f64 0]) ∧ Below w.heap.size w w') := fun w => by have h := unit_at 13835058055282163712 0 0 w (by decide) (by decide) (by decide); rw [lv_v5, lv_v6] at h; exact h
  have C10 : Hid (∀ w, Calls Try.prog 9 #[.float .f64 13830554455654793216, .float .f64 0, .float .f64 0] w fun e w' => e = .returned (.agg #[.float .f64 13830554455654793216, .float .f64 0, .float .f64 0]) ∧ Below w.heap.size w w') := fun w => at_at _ _ _ w
  have C11 : Hid (∀ w, Calls Try.prog 11 #[.agg #[.float .f64 13830554455654793216, .float .f64 0, .float .f64 0], .agg #[.float .f64 13830554455654793216, .float .f64 0, .float .f64 0]] w fun e w' => e = .returned (.bool true) ∧ Below w.heap.size w w') := fun w => alike_self _ _ _ w
  have C12 : Hid (∀ w, Calls Try.prog 9 #[.float .f64 4607182418800017408, .float .f64 4611686018427387904, .float .f64 4613937818241073152] w fun e w' => e = .returned (.agg #[.float .f64 4607182418800017408, .float .f64 4611686018427387904, .float .f64 4613937818241073152]) ∧ Below w.heap.size w w') := fun w => at_at _ _ _ w
  have C13 : Hid (∀ w, Calls Try.prog 9 #[.float .f64 4607182418800017408, .float .f64 4611686018427387904, .float .f64 4617315517961601024] w fun e w' => e = .returned (.agg #[.float .f64 4607182418800017408, .float .f64 4611686018427387904, .float .f64 4617315517961601024]) ∧ Below w.heap.size w w') := fun w => at_at _ _ _ w
  have C14 : Hid (∀ w, Calls Try.prog 22 #[.agg #[.float .f64 4607182418800017408, .float .f64 4611686018427387904, .float .f64 4613937818241073152], .agg #[.float .f64 4607182418800017408, .float .f64 4611686018427387904, .float .f64 4617315517961601024]] w fun e w' => e = .returned (.float .f64 4611686018427387904) ∧ Below w.heap.size w w') := fun w => by have h := gap_at 4607182418800017408 4611686018427387904 4613937818241073152 4607182418800017408 4611686018427387904 4617315517961601024 w (by decide) (by decide) (by decide) (by decide) (by decide) (by decide); rw [lv_v7] at h; exact h
  have C15 : Hid (∀ w, Calls Try.prog 14 #[.float .f64 4611686018427387904, .float .f64 4611686018427387904] w fun e w' => e = .returned (.bool true) ∧ Below w.heap.size w w') := fun w => same7_self _ w
  have C16 : Hid (∀ w, Calls Try.prog 9 #[.float .f64 4607182418800017408, .float .f64 4611686018427387904, .float .f64 4613937818241073152] w fun e w' => e = .returned (.agg #[.float .f64 4607182418800017408, .float .f64 4611686018427387904, .float .f64 4613937818241073152]) ∧ Below w.heap.size w w') := fun w => at_at _ _ _ w
  have C17 : Hid (∀ w, Calls Try.prog 9 #[.float .f64 4613937818241073152, .float .f64 4611686018427387904, .float .f64 4607182418800017408] w fun e w' => e = .returned (.agg #[.float .f64 4613937818241073152, .float .f64 4611686018427387904, .float .f64 4607182418800017408]) ∧ Below w.heap.size w w') := fun w => at_at _ _ _ w
  have C18 : Hid (∀ w, Calls Try.prog 10 #[.agg #[.float .f64 4607182418800017408, .float .f64 4611686018427387904, .float .f64 4613937818241073152], .agg #[.float .f64 4613937818241073152, .float .f64 4611686018427387904, .float .f64 4607182418800017408]] w fun e w' => e = .returned (.agg #[.float .f64 13835058055282163712, .float .f64 0, .float .f64 4611686018427387904]) ∧ Below w.heap.size w w') := fun w => by have h := minus_at 4607182418800017408 4611686018427387904 4613937818241073152 4613937818241073152 4611686018427387904 4607182418800017408 w (by decide) (by decide) (by decide) (by decide) (by decide) (by decide); rw [lv_v8, lv_v9, lv_v10] at h; exact h
  have C19 : Hid (∀ w, Calls Try.prog 9 #[.float .f64 13835058055282163712, .float .f64 0, .float .f64 4611686018427387904] w fun e w' => e = .returned (.agg #[.float .f64 13835058055282163712, .float .f64 0, .float .f64 4611686018427387904]) ∧ Below w.heap.size w w') := fun w => at_at _ _ _ w
  have C20 : Hid (∀ w, Calls Try.prog 11 #[.agg #[.float .f64 13835058055282163712, .float .f64 0, .float .f64 4611686018427387904], .agg #[.float .f64 13835058055282163712, .float .f64 0, .float .f64 4611686018427387904]] w fun e w' => e = .returned (.bool true) ∧ Below w.heap.size w w') := fun w => alike_self _ _ _ w
  go_enter Try.func8, Try.ntmps8
  go_wp2_with fail
  refine (C0.out _).mono ?_
  rintro e w0 ⟨rfl, b0⟩
  have A0 : Hid (Ab w w0) := (Ab.refl w).call b0
  clear b0 C0
  go_wp2_with fail
  refine (C1.out _).mono ?_
  rintro e w1 ⟨rfl, b1⟩
  have A1 : Hid (Ab w w1) := (A0.out).call b1
  clear b1 C1
  go_wp2_with fail
  refine (C2.out _).mono ?_
  rintro e w2 ⟨rfl, b2⟩
  have A2 : Hid (Ab w w2) := (A1.out).call b2
  clear b2 C2
  go_wp2_with fail
  refine (C3.out _).mono ?_
  rintro e w3 ⟨rfl, b3⟩
  have A3 : Hid (Ab w w3) := (A2.out).call b3
  clear b3 C3
  go_wp2_with fail
  refine (C4.out _).mono ?_
  rintro e w4 ⟨rfl, b4⟩
  have A4 : Hid (Ab w w4) := (A3.out).call b4
  clear b4 C4
  go_wp2_with fail
  refine (C5.out _).mono ?_
  rintro e w5 ⟨rfl, b5⟩
  have A5 : Hid (Ab w w5) := (A4.out).call b5
  clear b5 C5
  go_wp2_with fail
  refine (C6.out _).mono ?_
  rintro e w6 ⟨rfl, b6⟩
  have A6 : Hid (Ab w w6) := (A5.out).call b6
  clear b6 C6
  go_wp2_with fail
  refine (C7.out _).mono ?_
  rintro e w7 ⟨rfl, b7⟩
  have A7 : Hid (Ab w w7) := (A6.out).call b7
  clear b7 C7
  go_wp2_with fail
  refine (C8.out _).mono ?_
  rintro e w8 ⟨rfl, b8⟩
  have A8 : Hid (Ab w w8) := (A7.out).call b8
  clear b8 C8
  go_wp2_with fail
  refine (C9.out _).mono ?_
  rintro e w9 ⟨rfl, b9⟩
  have A9 : Hid (Ab w w9) := (A8.out).call b9
  clear b9 C9
  go_wp2_with fail
  refine (C10.out _).mono ?_
  rintro e w10 ⟨rfl, b10⟩
  have A10 : Hid (Ab w w10) := (A9.out).call b10
  clear b10 C10
  go_wp2_with fail
  refine (C11.out _).mono ?_
  rintro e w11 ⟨rfl, b11⟩
  have A11 : Hid (Ab w w11) := (A10.out).call b11
  clear b11 C11
  go_wp2_with fail
  refine (C12.out _).mono ?_
  rintro e w12 ⟨rfl, b12⟩
  have A12 : Hid (Ab w w12) := (A11.out).call b12
  clear b12 C12
  go_wp2_with fail
  refine (C13.out _).mono ?_
  rintro e w13 ⟨rfl, b13⟩
  have A13 : Hid (Ab w w13) := (A12.out).call b13
  clear b13 C13
  go_wp2_with fail
  refine (C14.out _).mono ?_
  rintro e w14 ⟨rfl, b14⟩
  have A14 : Hid (Ab w w14) := (A13.out).call b14
  clear b14 C14
  go_wp2_with fail
  refine (C15.out _).mono ?_
  rintro e w15 ⟨rfl, b15⟩
  have A15 : Hid (Ab w w15) := (A14.out).call b15
  clear b15 C15
  go_wp2_with fail
  refine (C16.out _).mono ?_
  rintro e w16 ⟨rfl, b16⟩
  have A16 : Hid (Ab w w16) := (A15.out).call b16
  clear b16 C16
  go_wp2_with fail
  refine (C17.out _).mono ?_
  rintro e w17 ⟨rfl, b17⟩
  have A17 : Hid (Ab w w17) := (A16.out).call b17
  clear b17 C17
  go_wp2_with fail
  refine (C18.out _).mono ?_
  rintro e w18 ⟨rfl, b18⟩
  have A18 : Hid (Ab w w18) := (A17.out).call b18
  clear b18 C18
  go_wp2_with fail
  refine (C19.out _).mono ?_
  rintro e w19 ⟨rfl, b19⟩
  have A19 : Hid (Ab w w19) := (A18.out).call b19
  clear b19 C19
  go_wp2_with fail
  refine (C20.out _).mono ?_
  rintro e w20 ⟨rfl, b20⟩
  have A20 : Hid (Ab w w20) := (A19.out).call b20
  clear b20 C20
  go_wp2
  go_ret
  exact ⟨rfl, A20.out⟩
end Go.Proofs.Ytgfggfkmfhonbaa
