/-
  What the reference's Split, scaled and Product of layer 3 return: walks over the program.
-/
import Derived.Test.YtcamlhpehnfnlaaTm
namespace Go.Proofs.Ytcamlhpehnfnlaa
open Go.RowKit Tf
attribute [local go_sem] run_bits run_from raw_feq raw_fne raw_flt raw_fgt run_neg

set_option maxHeartbeats 1000000 in
theorem rsplit_no (x r : Nat) (m : Int) (w : World) (A : Hid (∀ w, Calls Try.prog 30 #[.float .f64 x] w fun e w' => e = .returned (.int .u64 m) ∧ w' = w)) (h : 9092767647661031424 < m) (hr : canonB x = r) :
    Calls Try.prog 16 #[.float .f64 x] w fun e w' => e = .returned (.tuple #[.float .f64 r, .float .f64 0]) ∧ w' = w := by
  have C := hid (fun w => refCanon_to x r w hr)
  clear hr
  go_enter Try.func16, Try.ntmps16
  go_wp2_with fail
  refine (A.out _).mono ?_
  rintro e w' ⟨rfl, rfl⟩
  go_wp2_with fail
  refine (C.out _).mono ?_
  rintro e w' ⟨rfl, rfl⟩
  go_wp2
  go_ret2
  exact ⟨rfl, rfl⟩

set_option maxHeartbeats 1000000 in
theorem rsplit_yes (x c d h l r q : Nat) (m : Int) (w : World) (A : Hid (∀ w, Calls Try.prog 30 #[.float .f64 x] w fun e w' => e = .returned (.int .u64 m) ∧ w' = w)) (hm : ¬ 9092767647661031424 < m)
    (h1 : Ieee.double.mul 4728779608772575232 x = some c) (h2 : Ieee.double.sub c x = some d) (h3 : Ieee.double.sub c d = some h) (h4 : Ieee.double.sub x h = some l) (hr : canonB h = r) (hq : canonB l = q) :
    Calls Try.prog 16 #[.float .f64 x] w fun e w' => e = .returned (.tuple #[.float .f64 r, .float .f64 q]) ∧ w' = w := by
  have c1 := fun (t : TypeId) (w : World) => run_float_arith (P := Try.prog) w .mul t .f64 4728779608772575232 x c h1
  have c2 := fun (t : TypeId) (w : World) => run_float_arith (P := Try.prog) w .sub t .f64 c x d h2
  have c3 := fun (t : TypeId) (w : World) => run_float_arith (P := Try.prog) w .sub t .f64 c d h h3
  have c4 := fun (t : TypeId) (w : World) => run_float_arith (P := Try.prog) w .sub t .f64 x h l h4
  have C := hid (fun w => refCanon_to h r w hr)
  have D := hid (fun w => refCanon_to l q w hq)
  clear hr hq h1 h2 h3 h4
  go_enter Try.func16, Try.ntmps16
  go_wp2_with fail
  refine (A.out _).mono ?_
  rintro e w' ⟨rfl, rfl⟩
  go_wp2_with fail
  refine (C.out _).mono ?_
  rintro e w' ⟨rfl, rfl⟩
  go_wp2_with fail
  refine (D.out _).mono ?_
  rintro e w' ⟨rfl, rfl⟩
  go_wp2
  go_ret2
  exact ⟨rfl, rfl⟩

/-- THE REFERENCE'S SPLIT, at all floats. -/
theorem rsplit_at (x r q : Nat) (w : World) (hx : x < 18446744073709551616) (hr : splitH x = r) (hq : splitL x = q) :
    Calls Try.prog 16 #[.float .f64 x] w fun e w' => e = .returned (.tuple #[.float .f64 r, .float .f64 q]) ∧ w' = w := by
  unfold splitH at hr
  unfold splitL at hq
  by_cases c : mg x ≤ 9092767647661031424
  · rw [if_pos c] at hr hq
    obtain ⟨_, _, _, _, h1, h2, h3, h4, _, _, _, _, e1, e2⟩ := split_way x hx c
    exact rsplit_yes x _ _ _ _ r q _ w (fun w => refMag_to x _ w rfl) (by omega) h1 h2 h3 h4 (by rw [e1, hr]) (by rw [e2, hq])
  · rw [if_neg c] at hr hq
    subst hq
    exact rsplit_no x r _ w (fun w => refMag_to x _ w rfl) (by omega) hr

set_option maxHeartbeats 1000000 in
theorem scaled_hp (X E : Int) (y q2 y2 r : Nat) (w : World) (e0 : -1074 ≤ E) (e1 : E ≤ 1023) (hl : ¬ E < -1022) (hy : floatOfInt .f64 X = y)
    (P2 : Hid (∀ w, Calls Try.prog 35 #[.int .i64 E] w fun e w' => e = .returned (.float .f64 q2) ∧ w' = w)) (h2 : Ieee.double.mul y q2 = some y2) (C : Hid (∀ w, Calls Try.prog 31 #[.float .f64 y2] w fun e w' => e = .returned (.float .f64 r) ∧ w' = w)) :
    Calls Try.prog 37 #[.int .i64 X, .int .i64 E, .bool false] w fun e w' => e = .returned (.float .f64 r) ∧ w' = w := by
  have hcv := fun (w : World) => run_convert_int_float (P := Try.prog) w 2 24 .i64 .f64 X (by kernel_rfl) (by kernel_rfl)
  rw [hy] at hcv
  have c2 := fun (t : TypeId) (w : World) => run_float_arith (P := Try.prog) w .mul t .f64 y q2 y2 h2
  clear hy h2
  go_enter Try.func37, Try.ntmps37
  go_wp2
  go_loop [0, 1] (fun xv lv => xv = .int .i64 X ∧ lv = .int .i64 E) (fun _ _ => 0)
  case atStart => exact ⟨rfl, rfl⟩
  case round =>
    obtain ⟨rfl, rfl⟩ := hrel
    go_wp2_with fail
    refine (P2.out _).mono ?_
    rintro e w' ⟨rfl, rfl⟩
    go_wp2_with fail
    refine (C.out _).mono ?_
    rintro e w' ⟨rfl, rfl⟩
    go_wp2
    go_ret
    exact ⟨rfl, rfl⟩

set_option maxHeartbeats 1000000 in
theorem scaled_hn (X E : Int) (y q2 y2 y3 r : Nat) (w : World) (e0 : -1074 ≤ E) (e1 : E ≤ 1023) (hl : ¬ E < -1022) (hy : floatOfInt .f64 X = y)
    (P2 : Hid (∀ w, Calls Try.prog 35 #[.int .i64 E] w fun e w' => e = .returned (.float .f64 q2) ∧ w' = w)) (h2 : Ieee.double.mul y q2 = some y2) (h3 : Op.negFloat .f64 y2 = y3) (C : Hid (∀ w, Calls Try.prog 31 #[.float .f64 y3] w fun e w' => e = .returned (.float .f64 r) ∧ w' = w)) :
    Calls Try.prog 37 #[.int .i64 X, .int .i64 E, .bool true] w fun e w' => e = .returned (.float .f64 r) ∧ w' = w := by
  have hcv := fun (w : World) => run_convert_int_float (P := Try.prog) w 2 24 .i64 .f64 X (by kernel_rfl) (by kernel_rfl)
  rw [hy] at hcv
  have c2 := fun (t : TypeId) (w : World) => run_float_arith (P := Try.prog) w .mul t .f64 y q2 y2 h2
  clear hy h2
  go_enter Try.func37, Try.ntmps37
  go_wp2
  go_loop [0, 1] (fun xv lv => xv = .int .i64 X ∧ lv = .int .i64 E) (fun _ _ => 0)
  case atStart => exact ⟨rfl, rfl⟩
  case round =>
    obtain ⟨rfl, rfl⟩ := hrel
    go_wp2_with fail
    refine (P2.out _).mono ?_
    rintro e w' ⟨rfl, rfl⟩
    go_wp2_with fail
    refine (C.out _).mono ?_
    rintro e w' ⟨rfl, rfl⟩
    go_wp2
    go_ret
    exact ⟨rfl, rfl⟩

set_option maxHeartbeats 1000000 in
theorem scaled_lp (X E : Int) (y q1 y1 q2 y2 r : Nat) (w : World) (e0 : -1074 ≤ E) (e1 : E ≤ 1023) (hl : E < -1022) (hy : floatOfInt .f64 X = y)
    (P1 : Hid (∀ w, Calls Try.prog 35 #[.int .i64 (-52)] w fun e w' => e = .returned (.float .f64 q1) ∧ w' = w)) (h1 : Ieee.double.mul y q1 = some y1) (P2 : Hid (∀ w, Calls Try.prog 35 #[.int .i64 (E + 52)] w fun e w' => e = .returned (.float .f64 q2) ∧ w' = w)) (h2 : Ieee.double.mul y1 q2 = some y2) (C : Hid (∀ w, Calls Try.prog 31 #[.float .f64 y2] w fun e w' => e = .returned (.float .f64 r) ∧ w' = w)) :
    Calls Try.prog 37 #[.int .i64 X, .int .i64 E, .bool false] w fun e w' => e = .returned (.float .f64 r) ∧ w' = w := by
  have hcv := fun (w : World) => run_convert_int_float (P := Try.prog) w 2 24 .i64 .f64 X (by kernel_rfl) (by kernel_rfl)
  rw [hy] at hcv
  have c1 := fun (t : TypeId) (w : World) => run_float_arith (P := Try.prog) w .mul t .f64 y q1 y1 h1
  have c2 := fun (t : TypeId) (w : World) => run_float_arith (P := Try.prog) w .mul t .f64 y1 q2 y2 h2
  clear hy h2 h1
  go_enter Try.func37, Try.ntmps37
  go_wp2
  go_loop [0, 1] (fun xv lv => xv = .int .i64 X ∧ lv = .int .i64 E) (fun _ _ => 0)
  case atStart => exact ⟨rfl, rfl⟩
  case round =>
    obtain ⟨rfl, rfl⟩ := hrel
    go_wp2_with fail
    refine (P1.out _).mono ?_
    rintro e w' ⟨rfl, rfl⟩
    go_wp2_with fail
    refine (P2.out _).mono ?_
    rintro e w' ⟨rfl, rfl⟩
    go_wp2_with fail
    refine (C.out _).mono ?_
    rintro e w' ⟨rfl, rfl⟩
    go_wp2
    go_ret
    exact ⟨rfl, rfl⟩

set_option maxHeartbeats 1000000 in
theorem scaled_ln (X E : Int) (y q1 y1 q2 y2 y3 r : Nat) (w : World) (e0 : -1074 ≤ E) (e1 : E ≤ 1023) (hl : E < -1022) (hy : floatOfInt .f64 X = y)
    (P1 : Hid (∀ w, Calls Try.prog 35 #[.int .i64 (-52)] w fun e w' => e = .returned (.float .f64 q1) ∧ w' = w)) (h1 : Ieee.double.mul y q1 = some y1) (P2 : Hid (∀ w, Calls Try.prog 35 #[.int .i64 (E + 52)] w fun e w' => e = .returned (.float .f64 q2) ∧ w' = w)) (h2 : Ieee.double.mul y1 q2 = some y2) (h3 : Op.negFloat .f64 y2 = y3) (C : Hid (∀ w, Calls Try.prog 31 #[.float .f64 y3] w fun e w' => e = .returned (.float .f64 r) ∧ w' = w)) :
    Calls Try.prog 37 #[.int .i64 X, .int .i64 E, .bool true] w fun e w' => e = .returned (.float .f64 r) ∧ w' = w := by
  have hcv := fun (w : World) => run_convert_int_float (P := Try.prog) w 2 24 .i64 .f64 X (by kernel_rfl) (by kernel_rfl)
  rw [hy] at hcv
  have c1 := fun (t : TypeId) (w : World) => run_float_arith (P := Try.prog) w .mul t .f64 y q1 y1 h1
  have c2 := fun (t : TypeId) (w : World) => run_float_arith (P := Try.prog) w .mul t .f64 y1 q2 y2 h2
  clear hy h2 h1
  go_enter Try.func37, Try.ntmps37
  go_wp2
  go_loop [0, 1] (fun xv lv => xv = .int .i64 X ∧ lv = .int .i64 E) (fun _ _ => 0)
  case atStart => exact ⟨rfl, rfl⟩
  case round =>
    obtain ⟨rfl, rfl⟩ := hrel
    go_wp2_with fail
    refine (P1.out _).mono ?_
    rintro e w' ⟨rfl, rfl⟩
    go_wp2_with fail
    refine (P2.out _).mono ?_
    rintro e w' ⟨rfl, rfl⟩
    go_wp2_with fail
    refine (C.out _).mono ?_
    rintro e w' ⟨rfl, rfl⟩
    go_wp2
    go_ret
    exact ⟨rfl, rfl⟩
end Go.Proofs.Ytcamlhpehnfnlaa
