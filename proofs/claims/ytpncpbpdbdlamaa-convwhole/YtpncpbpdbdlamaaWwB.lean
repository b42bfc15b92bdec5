/-
  The ways through the statement on Round, Floor and Clamp, for the most from 0 on: walks over the program.
-/
import Derived.Test.YtpncpbpdbdlamaaWk
namespace Go.Proofs.Ytpncpbpdbdlamaa.convWholeDone
open Go.RowKit Tf
attribute [local go_sem] run_bits run_from raw_feq raw_fne raw_flt raw_fgt run_neg

set_option maxHeartbeats 2000000 in
theorem onanB (x : Nat) (most : Int) (w : World) (hx : x < 18446744073709551616) (c0 : ¬ most < 0) (m1 : most ≤ 9223372036854775807) (a1 : Hid (cI .even x = 0)) (a2 : Hid (cOk .even x = false)) (a3 : Hid (cI .down x = 0)) (a4 : Hid (cOk .down x = false)) (g1 : fgt x 14114281232179134464 = false) (g2 : feq x 14114281232179134464 = false) (s1 : fgt x 0 = false) (s2 : flt x 0 = false) (cl : Hid (clampB x most = 0)) :
    Calls Try.prog 6 #[.float .f64 x, .int .i64 most] w fun e w' => e = .returned (.bool true) ∧ ∃ n, w' = w.drewN n := by
  go_enter Try.func6, Try.ntmps6
  go_wp2_with fail
  refine (awake_any _).mono ?_
  rintro e w' ⟨rfl, k, rfl⟩
  go_wp2_with fail
  refine (round_at x 0 false _ hx a1.out a2.out).mono ?_
  rintro e w' ⟨rfl, k, rfl⟩
  go_wp2_with fail
  refine (floor_at x 0 false _ hx a3.out a4.out).mono ?_
  rintro e w' ⟨rfl, k, rfl⟩
  go_wp2_with fail
  refine (clamp_at x most 0 _ hx m1 cl.out).mono ?_
  rintro e w' ⟨rfl, k, rfl⟩
  go_wp2
  go_ret
  exact ⟨rfl, _, rfl⟩

set_option maxHeartbeats 2000000 in
theorem oposB (x : Nat) (most : Int) (w : World) (hx : x < 18446744073709551616) (c0 : ¬ most < 0) (m1 : most ≤ 9223372036854775807) (a1 : Hid (cI .even x = 0)) (a2 : Hid (cOk .even x = false)) (a3 : Hid (cI .down x = 0)) (a4 : Hid (cOk .down x = false)) (g1 : (fgt x 14114281232179134464 || feq x 14114281232179134464) = true) (g2 : flt x 4890909195324358656 = false) (s1 : fgt x 0 = true) (s2 : flt x 0 = false) (cl : Hid (clampB x most = most)) :
    Calls Try.prog 6 #[.float .f64 x, .int .i64 most] w fun e w' => e = .returned (.bool true) ∧ ∃ n, w' = w.drewN n := by
  go_enter Try.func6, Try.ntmps6
  go_wp2_with fail
  refine (awake_any _).mono ?_
  rintro e w' ⟨rfl, k, rfl⟩
  go_wp2_with fail
  refine (round_at x 0 false _ hx a1.out a2.out).mono ?_
  rintro e w' ⟨rfl, k, rfl⟩
  go_wp2_with fail
  refine (floor_at x 0 false _ hx a3.out a4.out).mono ?_
  rintro e w' ⟨rfl, k, rfl⟩
  go_wp2_with fail
  refine (clamp_at x most most _ hx m1 cl.out).mono ?_
  rintro e w' ⟨rfl, k, rfl⟩
  go_wp2
  go_ret
  exact ⟨rfl, _, rfl⟩

set_option maxHeartbeats 2000000 in
theorem onegB (x : Nat) (most : Int) (w : World) (hx : x < 18446744073709551616) (c0 : ¬ most < 0) (m1 : most ≤ 9223372036854775807) (a1 : Hid (cI .even x = 0)) (a2 : Hid (cOk .even x = false)) (a3 : Hid (cI .down x = 0)) (a4 : Hid (cOk .down x = false)) (g1 : fgt x 14114281232179134464 = false) (g2 : feq x 14114281232179134464 = false) (s1 : fgt x 0 = false) (s2 : flt x 0 = true) (cl : Hid (clampB x most = (-most))) :
    Calls Try.prog 6 #[.float .f64 x, .int .i64 most] w fun e w' => e = .returned (.bool true) ∧ ∃ n, w' = w.drewN n := by
  go_enter Try.func6, Try.ntmps6
  go_wp2_with fail
  refine (awake_any _).mono ?_
  rintro e w' ⟨rfl, k, rfl⟩
  go_wp2_with fail
  refine (round_at x 0 false _ hx a1.out a2.out).mono ?_
  rintro e w' ⟨rfl, k, rfl⟩
  go_wp2_with fail
  refine (floor_at x 0 false _ hx a3.out a4.out).mono ?_
  rintro e w' ⟨rfl, k, rfl⟩
  go_wp2_with fail
  refine (clamp_at x most (-most) _ hx m1 cl.out).mono ?_
  rintro e w' ⟨rfl, k, rfl⟩
  go_wp2
  go_ret
  exact ⟨rfl, _, rfl⟩

set_option maxHeartbeats 2000000 in
theorem inloHzB (x : Nat) (most : Int) (w : World) (hx : x < 18446744073709551616) (c0 : ¬ most < 0) (m1 : most ≤ 9223372036854775807) (n f : Int) (a1 : Hid (cI .even x = n)) (a2 : Hid (cOk .even x = true)) (a3 : Hid (cI .down x = f)) (a4 : Hid (cOk .down x = true)) (g1 : (fgt x 14114281232179134464 || feq x 14114281232179134464) = true) (g2 : flt x 4890909195324358656 = true) (N F d e : Nat) (n1 : floatOfInt .f64 n = N) (f1 : floatOfInt .f64 f = F) (d0 : floatBits .sub .f64 x N = some d) (e0 : floatBits .sub .f64 x F = some e) (cl : Hid (clampB x most = (-most))) (c : n < (-most)) (d1 : fgt d 13826050856027422720 = true) (d2 : flt d 4602678819172646912 = false) (d3 : feq d 4602678819172646912 = true) (ev : n.tmod 2 = 0) (e1 : fgt e 0 = false) (e3 : feq e 0 = true) (e2 : flt e 4607182418800017408 = true) :
    Calls Try.prog 6 #[.float .f64 x, .int .i64 most] w fun e w' => e = .returned (.bool true) ∧ ∃ n, w' = w.drewN n := by
  have cn := fun (w : World) => run_convert_int_float (P := Try.prog) w 2 24 .i64 .f64 n (by kernel_rfl) (by kernel_rfl)
  have cf := fun (w : World) => run_convert_int_float (P := Try.prog) w 2 24 .i64 .f64 f (by kernel_rfl) (by kernel_rfl)
  rw [n1] at cn
  rw [f1] at cf
  have sd := fun (t : TypeId) (w : World) => run_float_arith (P := Try.prog) w .sub t .f64 x N d d0
  have se := fun (t : TypeId) (w : World) => run_float_arith (P := Try.prog) w .sub t .f64 x F e e0
  clear n1 f1 d0 e0
  go_enter Try.func6, Try.ntmps6
  go_wp2_with fail
  refine (awake_any _).mono ?_
  rintro e w' ⟨rfl, k, rfl⟩
  go_wp2_with fail
  refine (round_at x n true _ hx a1.out a2.out).mono ?_
  rintro e w' ⟨rfl, k, rfl⟩
  go_wp2_with fail
  refine (floor_at x f true _ hx a3.out a4.out).mono ?_
  rintro e w' ⟨rfl, k, rfl⟩
  go_wp2_with fail
  refine (clamp_at x most (-most) _ hx m1 cl.out).mono ?_
  rintro e w' ⟨rfl, k, rfl⟩
  go_wp2
  go_ret
  exact ⟨rfl, _, rfl⟩

set_option maxHeartbeats 2000000 in
theorem inloHlB (x : Nat) (most : Int) (w : World) (hx : x < 18446744073709551616) (c0 : ¬ most < 0) (m1 : most ≤ 9223372036854775807) (n f : Int) (a1 : Hid (cI .even x = n)) (a2 : Hid (cOk .even x = true)) (a3 : Hid (cI .down x = f)) (a4 : Hid (cOk .down x = true)) (g1 : (fgt x 14114281232179134464 || feq x 14114281232179134464) = true) (g2 : flt x 4890909195324358656 = true) (N F d e : Nat) (n1 : floatOfInt .f64 n = N) (f1 : floatOfInt .f64 f = F) (d0 : floatBits .sub .f64 x N = some d) (e0 : floatBits .sub .f64 x F = some e) (cl : Hid (clampB x most = (-most))) (c : n < (-most)) (d1 : fgt d 13826050856027422720 = true) (d2 : flt d 4602678819172646912 = false) (d3 : feq d 4602678819172646912 = true) (ev : n.tmod 2 = 0) (e1 : fgt e 0 = true) (e2 : flt e 4607182418800017408 = true) :
    Calls Try.prog 6 #[.float .f64 x, .int .i64 most] w fun e w' => e = .returned (.bool true) ∧ ∃ n, w' = w.drewN n := by
  have cn := fun (w : World) => run_convert_int_float (P := Try.prog) w 2 24 .i64 .f64 n (by kernel_rfl) (by kernel_rfl)
  have cf := fun (w : World) => run_convert_int_float (P := Try.prog) w 2 24 .i64 .f64 f (by kernel_rfl) (by kernel_rfl)
  rw [n1] at cn
  rw [f1] at cf
  have sd := fun (t : TypeId) (w : World) => run_float_arith (P := Try.prog) w .sub t .f64 x N d d0
  have se := fun (t : TypeId) (w : World) => run_float_arith (P := Try.prog) w .sub t .f64 x F e e0
  clear n1 f1 d0 e0
  go_enter Try.func6, Try.ntmps6
  go_wp2_with fail
  refine (awake_any _).mono ?_
  rintro e w' ⟨rfl, k, rfl⟩
  go_wp2_with fail
  refine (round_at x n true _ hx a1.out a2.out).mono ?_
  rintro e w' ⟨rfl, k, rfl⟩
  go_wp2_with fail
  refine (floor_at x f true _ hx a3.out a4.out).mono ?_
  rintro e w' ⟨rfl, k, rfl⟩
  go_wp2_with fail
  refine (clamp_at x most (-most) _ hx m1 cl.out).mono ?_
  rintro e w' ⟨rfl, k, rfl⟩
  go_wp2
  go_ret
  exact ⟨rfl, _, rfl⟩

set_option maxHeartbeats 2000000 in
theorem inloHqB (x : Nat) (most : Int) (w : World) (hx : x < 18446744073709551616) (c0 : ¬ most < 0) (m1 : most ≤ 9223372036854775807) (n f : Int) (a1 : Hid (cI .even x = n)) (a2 : Hid (cOk .even x = true)) (a3 : Hid (cI .down x = f)) (a4 : Hid (cOk .down x = true)) (g1 : (fgt x 14114281232179134464 || feq x 14114281232179134464) = true) (g2 : flt x 4890909195324358656 = true) (N F d e : Nat) (n1 : floatOfInt .f64 n = N) (f1 : floatOfInt .f64 f = F) (d0 : floatBits .sub .f64 x N = some d) (e0 : floatBits .sub .f64 x F = some e) (cl : Hid (clampB x most = (-most))) (c : n < (-most)) (d1 : fgt d 13826050856027422720 = true) (d2 : flt d 4602678819172646912 = false) (d3 : feq d 4602678819172646912 = true) (ev : n.tmod 2 = 0) (e1 : fgt e 0 = true) (e2 : flt e 4607182418800017408 = false) (e3 : feq e 4607182418800017408 = true) (e4 : flt x 0 = true) (e5 : fgt x 13830554455654793216 = true) :
    Calls Try.prog 6 #[.float .f64 x, .int .i64 most] w fun e w' => e = .returned (.bool true) ∧ ∃ n, w' = w.drewN n := by
  have cn := fun (w : World) => run_convert_int_float (P := Try.prog) w 2 24 .i64 .f64 n (by kernel_rfl) (by kernel_rfl)
  have cf := fun (w : World) => run_convert_int_float (P := Try.prog) w 2 24 .i64 .f64 f (by kernel_rfl) (by kernel_rfl)
  rw [n1] at cn
  rw [f1] at cf
  have sd := fun (t : TypeId) (w : World) => run_float_arith (P := Try.prog) w .sub t .f64 x N d d0
  have se := fun (t : TypeId) (w : World) => run_float_arith (P := Try.prog) w .sub t .f64 x F e e0
  clear n1 f1 d0 e0
  go_enter Try.func6, Try.ntmps6
  go_wp2_with fail
  refine (awake_any _).mono ?_
  rintro e w' ⟨rfl, k, rfl⟩
  go_wp2_with fail
  refine (round_at x n true _ hx a1.out a2.out).mono ?_
  rintro e w' ⟨rfl, k, rfl⟩
  go_wp2_with fail
  refine (floor_at x f true _ hx a3.out a4.out).mono ?_
  rintro e w' ⟨rfl, k, rfl⟩
  go_wp2_with fail
  refine (clamp_at x most (-most) _ hx m1 cl.out).mono ?_
  rintro e w' ⟨rfl, k, rfl⟩
  go_wp2
  go_ret
  exact ⟨rfl, _, rfl⟩

set_option maxHeartbeats 2000000 in
theorem inloNzB (x : Nat) (most : Int) (w : World) (hx : x < 18446744073709551616) (c0 : ¬ most < 0) (m1 : most ≤ 9223372036854775807) (n f : Int) (a1 : Hid (cI .even x = n)) (a2 : Hid (cOk .even x = true)) (a3 : Hid (cI .down x = f)) (a4 : Hid (cOk .down x = true)) (g1 : (fgt x 14114281232179134464 || feq x 14114281232179134464) = true) (g2 : flt x 4890909195324358656 = true) (N F d e : Nat) (n1 : floatOfInt .f64 n = N) (f1 : floatOfInt .f64 f = F) (d0 : floatBits .sub .f64 x N = some d) (e0 : floatBits .sub .f64 x F = some e) (cl : Hid (clampB x most = (-most))) (c : n < (-most)) (d1 : fgt d 13826050856027422720 = false) (d2 : flt d 4602678819172646912 = true) (d3 : feq d 4602678819172646912 = false) (d4 : feq d 13826050856027422720 = true) (ev : n.tmod 2 = 0) (e1 : fgt e 0 = false) (e3 : feq e 0 = true) (e2 : flt e 4607182418800017408 = true) :
    Calls Try.prog 6 #[.float .f64 x, .int .i64 most] w fun e w' => e = .returned (.bool true) ∧ ∃ n, w' = w.drewN n := by
  have cn := fun (w : World) => run_convert_int_float (P := Try.prog) w 2 24 .i64 .f64 n (by kernel_rfl) (by kernel_rfl)
  have cf := fun (w : World) => run_convert_int_float (P := Try.prog) w 2 24 .i64 .f64 f (by kernel_rfl) (by kernel_rfl)
  rw [n1] at cn
  rw [f1] at cf
  have sd := fun (t : TypeId) (w : World) => run_float_arith (P := Try.prog) w .sub t .f64 x N d d0
  have se := fun (t : TypeId) (w : World) => run_float_arith (P := Try.prog) w .sub t .f64 x F e e0
  clear n1 f1 d0 e0
  go_enter Try.func6, Try.ntmps6
  go_wp2_with fail
  refine (awake_any _).mono ?_
  rintro e w' ⟨rfl, k, rfl⟩
  go_wp2_with fail
  refine (round_at x n true _ hx a1.out a2.out).mono ?_
  rintro e w' ⟨rfl, k, rfl⟩
  go_wp2_with fail
  refine (floor_at x f true _ hx a3.out a4.out).mono ?_
  rintro e w' ⟨rfl, k, rfl⟩
  go_wp2_with fail
  refine (clamp_at x most (-most) _ hx m1 cl.out).mono ?_
  rintro e w' ⟨rfl, k, rfl⟩
  go_wp2
  go_ret
  exact ⟨rfl, _, rfl⟩

set_option maxHeartbeats 2000000 in
theorem inloNlB (x : Nat) (most : Int) (w : World) (hx : x < 18446744073709551616) (c0 : ¬ most < 0) (m1 : most ≤ 9223372036854775807) (n f : Int) (a1 : Hid (cI .even x = n)) (a2 : Hid (cOk .even x = true)) (a3 : Hid (cI .down x = f)) (a4 : Hid (cOk .down x = true)) (g1 : (fgt x 14114281232179134464 || feq x 14114281232179134464) = true) (g2 : flt x 4890909195324358656 = true) (N F d e : Nat) (n1 : floatOfInt .f64 n = N) (f1 : floatOfInt .f64 f = F) (d0 : floatBits .sub .f64 x N = some d) (e0 : floatBits .sub .f64 x F = some e) (cl : Hid (clampB x most = (-most))) (c : n < (-most)) (d1 : fgt d 13826050856027422720 = false) (d2 : flt d 4602678819172646912 = true) (d3 : feq d 4602678819172646912 = false) (d4 : feq d 13826050856027422720 = true) (ev : n.tmod 2 = 0) (e1 : fgt e 0 = true) (e2 : flt e 4607182418800017408 = true) :
    Calls Try.prog 6 #[.float .f64 x, .int .i64 most] w fun e w' => e = .returned (.bool true) ∧ ∃ n, w' = w.drewN n := by
  have cn := fun (w : World) => run_convert_int_float (P := Try.prog) w 2 24 .i64 .f64 n (by kernel_rfl) (by kernel_rfl)
  have cf := fun (w : World) => run_convert_int_float (P := Try.prog) w 2 24 .i64 .f64 f (by kernel_rfl) (by kernel_rfl)
  rw [n1] at cn
  rw [f1] at cf
  have sd := fun (t : TypeId) (w : World) => run_float_arith (P := Try.prog) w .sub t .f64 x N d d0
  have se := fun (t : TypeId) (w : World) => run_float_arith (P := Try.prog) w .sub t .f64 x F e e0
  clear n1 f1 d0 e0
  go_enter Try.func6, Try.ntmps6
  go_wp2_with fail
  refine (awake_any _).mono ?_
  rintro e w' ⟨rfl, k, rfl⟩
  go_wp2_with fail
  refine (round_at x n true _ hx a1.out a2.out).mono ?_
  rintro e w' ⟨rfl, k, rfl⟩
  go_wp2_with fail
  refine (floor_at x f true _ hx a3.out a4.out).mono ?_
  rintro e w' ⟨rfl, k, rfl⟩
  go_wp2_with fail
  refine (clamp_at x most (-most) _ hx m1 cl.out).mono ?_
  rintro e w' ⟨rfl, k, rfl⟩
  go_wp2
  go_ret
  exact ⟨rfl, _, rfl⟩

set_option maxHeartbeats 2000000 in
theorem inloNqB (x : Nat) (most : Int) (w : World) (hx : x < 18446744073709551616) (c0 : ¬ most < 0) (m1 : most ≤ 9223372036854775807) (n f : Int) (a1 : Hid (cI .even x = n)) (a2 : Hid (cOk .even x = true)) (a3 : Hid (cI .down x = f)) (a4 : Hid (cOk .down x = true)) (g1 : (fgt x 14114281232179134464 || feq x 14114281232179134464) = true) (g2 : flt x 4890909195324358656 = true) (N F d e : Nat) (n1 : floatOfInt .f64 n = N) (f1 : floatOfInt .f64 f = F) (d0 : floatBits .sub .f64 x N = some d) (e0 : floatBits .sub .f64 x F = some e) (cl : Hid (clampB x most = (-most))) (c : n < (-most)) (d1 : fgt d 13826050856027422720 = false) (d2 : flt d 4602678819172646912 = true) (d3 : feq d 4602678819172646912 = false) (d4 : feq d 13826050856027422720 = true) (ev : n.tmod 2 = 0) (e1 : fgt e 0 = true) (e2 : flt e 4607182418800017408 = false) (e3 : feq e 4607182418800017408 = true) (e4 : flt x 0 = true) (e5 : fgt x 13830554455654793216 = true) :
    Calls Try.prog 6 #[.float .f64 x, .int .i64 most] w fun e w' => e = .returned (.bool true) ∧ ∃ n, w' = w.drewN n := by
  have cn := fun (w : World) => run_convert_int_float (P := Try.prog) w 2 24 .i64 .f64 n (by kernel_rfl) (by kernel_rfl)
  have cf := fun (w : World) => run_convert_int_float (P := Try.prog) w 2 24 .i64 .f64 f (by kernel_rfl) (by kernel_rfl)
  rw [n1] at cn
  rw [f1] at cf
  have sd := fun (t : TypeId) (w : World) => run_float_arith (P := Try.prog) w .sub t .f64 x N d d0
  have se := fun (t : TypeId) (w : World) => run_float_arith (P := Try.prog) w .sub t .f64 x F e e0
  clear n1 f1 d0 e0
  go_enter Try.func6, Try.ntmps6
  go_wp2_with fail
  refine (awake_any _).mono ?_
  rintro e w' ⟨rfl, k, rfl⟩
  go_wp2_with fail
  refine (round_at x n true _ hx a1.out a2.out).mono ?_
  rintro e w' ⟨rfl, k, rfl⟩
  go_wp2_with fail
  refine (floor_at x f true _ hx a3.out a4.out).mono ?_
  rintro e w' ⟨rfl, k, rfl⟩
  go_wp2_with fail
  refine (clamp_at x most (-most) _ hx m1 cl.out).mono ?_
  rintro e w' ⟨rfl, k, rfl⟩
  go_wp2
  go_ret
  exact ⟨rfl, _, rfl⟩

set_option maxHeartbeats 2000000 in
theorem inloozB (x : Nat) (most : Int) (w : World) (hx : x < 18446744073709551616) (c0 : ¬ most < 0) (m1 : most ≤ 9223372036854775807) (n f : Int) (a1 : Hid (cI .even x = n)) (a2 : Hid (cOk .even x = true)) (a3 : Hid (cI .down x = f)) (a4 : Hid (cOk .down x = true)) (g1 : (fgt x 14114281232179134464 || feq x 14114281232179134464) = true) (g2 : flt x 4890909195324358656 = true) (N F d e : Nat) (n1 : floatOfInt .f64 n = N) (f1 : floatOfInt .f64 f = F) (d0 : floatBits .sub .f64 x N = some d) (e0 : floatBits .sub .f64 x F = some e) (cl : Hid (clampB x most = (-most))) (c : n < (-most)) (d1 : fgt d 13826050856027422720 = true) (d2 : flt d 4602678819172646912 = true) (d3 : feq d 4602678819172646912 = false) (d4 : feq d 13826050856027422720 = false) (e1 : fgt e 0 = false) (e3 : feq e 0 = true) (e2 : flt e 4607182418800017408 = true) :
    Calls Try.prog 6 #[.float .f64 x, .int .i64 most] w fun e w' => e = .returned (.bool true) ∧ ∃ n, w' = w.drewN n := by
  have cn := fun (w : World) => run_convert_int_float (P := Try.prog) w 2 24 .i64 .f64 n (by kernel_rfl) (by kernel_rfl)
  have cf := fun (w : World) => run_convert_int_float (P := Try.prog) w 2 24 .i64 .f64 f (by kernel_rfl) (by kernel_rfl)
  rw [n1] at cn
  rw [f1] at cf
  have sd := fun (t : TypeId) (w : World) => run_float_arith (P := Try.prog) w .sub t .f64 x N d d0
  have se := fun (t : TypeId) (w : World) => run_float_arith (P := Try.prog) w .sub t .f64 x F e e0
  clear n1 f1 d0 e0
  go_enter Try.func6, Try.ntmps6
  go_wp2_with fail
  refine (awake_any _).mono ?_
  rintro e w' ⟨rfl, k, rfl⟩
  go_wp2_with fail
  refine (round_at x n true _ hx a1.out a2.out).mono ?_
  rintro e w' ⟨rfl, k, rfl⟩
  go_wp2_with fail
  refine (floor_at x f true _ hx a3.out a4.out).mono ?_
  rintro e w' ⟨rfl, k, rfl⟩
  go_wp2_with fail
  refine (clamp_at x most (-most) _ hx m1 cl.out).mono ?_
  rintro e w' ⟨rfl, k, rfl⟩
  go_wp2
  go_ret
  exact ⟨rfl, _, rfl⟩

set_option maxHeartbeats 2000000 in
theorem inloolB (x : Nat) (most : Int) (w : World) (hx : x < 18446744073709551616) (c0 : ¬ most < 0) (m1 : most ≤ 9223372036854775807) (n f : Int) (a1 : Hid (cI .even x = n)) (a2 : Hid (cOk .even x = true)) (a3 : Hid (cI .down x = f)) (a4 : Hid (cOk .down x = true)) (g1 : (fgt x 14114281232179134464 || feq x 14114281232179134464) = true) (g2 : flt x 4890909195324358656 = true) (N F d e : Nat) (n1 : floatOfInt .f64 n = N) (f1 : floatOfInt .f64 f = F) (d0 : floatBits .sub .f64 x N = some d) (e0 : floatBits .sub .f64 x F = some e) (cl : Hid (clampB x most = (-most))) (c : n < (-most)) (d1 : fgt d 13826050856027422720 = true) (d2 : flt d 4602678819172646912 = true) (d3 : feq d 4602678819172646912 = false) (d4 : feq d 13826050856027422720 = false) (e1 : fgt e 0 = true) (e2 : flt e 4607182418800017408 = true) :
    Calls Try.prog 6 #[.float .f64 x, .int .i64 most] w fun e w' => e = .returned (.bool true) ∧ ∃ n, w' = w.drewN n := by
  have cn := fun (w : World) => run_convert_int_float (P := Try.prog) w 2 24 .i64 .f64 n (by kernel_rfl) (by kernel_rfl)
  have cf := fun (w : World) => run_convert_int_float (P := Try.prog) w 2 24 .i64 .f64 f (by kernel_rfl) (by kernel_rfl)
  rw [n1] at cn
  rw [f1] at cf
  have sd := fun (t : TypeId) (w : World) => run_float_arith (P := Try.prog) w .sub t .f64 x N d d0
  have se := fun (t : TypeId) (w : World) => run_float_arith (P := Try.prog) w .sub t .f64 x F e e0
  clear n1 f1 d0 e0
  go_enter Try.func6, Try.ntmps6
  go_wp2_with fail
  refine (awake_any _).mono ?_
  rintro e w' ⟨rfl, k, rfl⟩
  go_wp2_with fail
  refine (round_at x n true _ hx a1.out a2.out).mono ?_
  rintro e w' ⟨rfl, k, rfl⟩
  go_wp2_with fail
  refine (floor_at x f true _ hx a3.out a4.out).mono ?_
  rintro e w' ⟨rfl, k, rfl⟩
  go_wp2_with fail
  refine (clamp_at x most (-most) _ hx m1 cl.out).mono ?_
  rintro e w' ⟨rfl, k, rfl⟩
  go_wp2
  go_ret
  exact ⟨rfl, _, rfl⟩

set_option maxHeartbeats 2000000 in
theorem inlooqB (x : Nat) (most : Int) (w : World) (hx : x < 18446744073709551616) (c0 : ¬ most < 0) (m1 : most ≤ 9223372036854775807) (n f : Int) (a1 : Hid (cI .even x = n)) (a2 : Hid (cOk .even x = true)) (a3 : Hid (cI .down x = f)) (a4 : Hid (cOk .down x = true)) (g1 : (fgt x 14114281232179134464 || feq x 14114281232179134464) = true) (g2 : flt x 4890909195324358656 = true) (N F d e : Nat) (n1 : floatOfInt .f64 n = N) (f1 : floatOfInt .f64 f = F) (d0 : floatBits .sub .f64 x N = some d) (e0 : floatBits .sub .f64 x F = some e) (cl : Hid (clampB x most = (-most))) (c : n < (-most)) (d1 : fgt d 13826050856027422720 = true) (d2 : flt d 4602678819172646912 = true) (d3 : feq d 4602678819172646912 = false) (d4 : feq d 13826050856027422720 = false) (e1 : fgt e 0 = true) (e2 : flt e 4607182418800017408 = false) (e3 : feq e 4607182418800017408 = true) (e4 : flt x 0 = true) (e5 : fgt x 13830554455654793216 = true) :
    Calls Try.prog 6 #[.float .f64 x, .int .i64 most] w fun e w' => e = .returned (.bool true) ∧ ∃ n, w' = w.drewN n := by
  have cn := fun (w : World) => run_convert_int_float (P := Try.prog) w 2 24 .i64 .f64 n (by kernel_rfl) (by kernel_rfl)
  have cf := fun (w : World) => run_convert_int_float (P := Try.prog) w 2 24 .i64 .f64 f (by kernel_rfl) (by kernel_rfl)
  rw [n1] at cn
  rw [f1] at cf
  have sd := fun (t : TypeId) (w : World) => run_float_arith (P := Try.prog) w .sub t .f64 x N d d0
  have se := fun (t : TypeId) (w : World) => run_float_arith (P := Try.prog) w .sub t .f64 x F e e0
  clear n1 f1 d0 e0
  go_enter Try.func6, Try.ntmps6
  go_wp2_with fail
  refine (awake_any _).mono ?_
  rintro e w' ⟨rfl, k, rfl⟩
  go_wp2_with fail
  refine (round_at x n true _ hx a1.out a2.out).mono ?_
  rintro e w' ⟨rfl, k, rfl⟩
  go_wp2_with fail
  refine (floor_at x f true _ hx a3.out a4.out).mono ?_
  rintro e w' ⟨rfl, k, rfl⟩
  go_wp2_with fail
  refine (clamp_at x most (-most) _ hx m1 cl.out).mono ?_
  rintro e w' ⟨rfl, k, rfl⟩
  go_wp2
  go_ret
  exact ⟨rfl, _, rfl⟩

set_option maxHeartbeats 2000000 in
theorem inhiHzB (x : Nat) (most : Int) (w : World) (hx : x < 18446744073709551616) (c0 : ¬ most < 0) (m1 : most ≤ 9223372036854775807) (n f : Int) (a1 : Hid (cI .even x = n)) (a2 : Hid (cOk .even x = true)) (a3 : Hid (cI .down x = f)) (a4 : Hid (cOk .down x = true)) (g1 : (fgt x 14114281232179134464 || feq x 14114281232179134464) = true) (g2 : flt x 4890909195324358656 = true) (N F d e : Nat) (n1 : floatOfInt .f64 n = N) (f1 : floatOfInt .f64 f = F) (d0 : floatBits .sub .f64 x N = some d) (e0 : floatBits .sub .f64 x F = some e) (cl : Hid (clampB x most = most)) (c : most < n) (d1 : fgt d 13826050856027422720 = true) (d2 : flt d 4602678819172646912 = false) (d3 : feq d 4602678819172646912 = true) (ev : n.tmod 2 = 0) (e1 : fgt e 0 = false) (e3 : feq e 0 = true) (e2 : flt e 4607182418800017408 = true) :
    Calls Try.prog 6 #[.float .f64 x, .int .i64 most] w fun e w' => e = .returned (.bool true) ∧ ∃ n, w' = w.drewN n := by
  have cn := fun (w : World) => run_convert_int_float (P := Try.prog) w 2 24 .i64 .f64 n (by kernel_rfl) (by kernel_rfl)
  have cf := fun (w : World) => run_convert_int_float (P := Try.prog) w 2 24 .i64 .f64 f (by kernel_rfl) (by kernel_rfl)
  rw [n1] at cn
  rw [f1] at cf
  have sd := fun (t : TypeId) (w : World) => run_float_arith (P := Try.prog) w .sub t .f64 x N d d0
  have se := fun (t : TypeId) (w : World) => run_float_arith (P := Try.prog) w .sub t .f64 x F e e0
  clear n1 f1 d0 e0
  go_enter Try.func6, Try.ntmps6
  go_wp2_with fail
  refine (awake_any _).mono ?_
  rintro e w' ⟨rfl, k, rfl⟩
  go_wp2_with fail
  refine (round_at x n true _ hx a1.out a2.out).mono ?_
  rintro e w' ⟨rfl, k, rfl⟩
  go_wp2_with fail
  refine (floor_at x f true _ hx a3.out a4.out).mono ?_
  rintro e w' ⟨rfl, k, rfl⟩
  go_wp2_with fail
  refine (clamp_at x most most _ hx m1 cl.out).mono ?_
  rintro e w' ⟨rfl, k, rfl⟩
  go_wp2
  go_ret
  exact ⟨rfl, _, rfl⟩

set_option maxHeartbeats 2000000 in
theorem inhiHlB (x : Nat) (most : Int) (w : World) (hx : x < 18446744073709551616) (c0 : ¬ most < 0) (m1 : most ≤ 9223372036854775807) (n f : Int) (a1 : Hid (cI .even x = n)) (a2 : Hid (cOk .even x = true)) (a3 : Hid (cI .down x = f)) (a4 : Hid (cOk .down x = true)) (g1 : (fgt x 14114281232179134464 || feq x 14114281232179134464) = true) (g2 : flt x 4890909195324358656 = true) (N F d e : Nat) (n1 : floatOfInt .f64 n = N) (f1 : floatOfInt .f64 f = F) (d0 : floatBits .sub .f64 x N = some d) (e0 : floatBits .sub .f64 x F = some e) (cl : Hid (clampB x most = most)) (c : most < n) (d1 : fgt d 13826050856027422720 = true) (d2 : flt d 4602678819172646912 = false) (d3 : feq d 4602678819172646912 = true) (ev : n.tmod 2 = 0) (e1 : fgt e 0 = true) (e2 : flt e 4607182418800017408 = true) :
    Calls Try.prog 6 #[.float .f64 x, .int .i64 most] w fun e w' => e = .returned (.bool true) ∧ ∃ n, w' = w.drewN n := by
  have cn := fun (w : World) => run_convert_int_float (P := Try.prog) w 2 24 .i64 .f64 n (by kernel_rfl) (by kernel_rfl)
  have cf := fun (w : World) => run_convert_int_float (P := Try.prog) w 2 24 .i64 .f64 f (by kernel_rfl) (by kernel_rfl)
  rw [n1] at cn
  rw [f1] at cf
  have sd := fun (t : TypeId) (w : World) => run_float_arith (P := Try.prog) w .sub t .f64 x N d d0
  have se := fun (t : TypeId) (w : World) => run_float_arith (P := Try.prog) w .sub t .f64 x F e e0
  clear n1 f1 d0 e0
  go_enter Try.func6, Try.ntmps6
  go_wp2_with fail
  refine (awake_any _).mono ?_
  rintro e w' ⟨rfl, k, rfl⟩
  go_wp2_with fail
  refine (round_at x n true _ hx a1.out a2.out).mono ?_
  rintro e w' ⟨rfl, k, rfl⟩
  go_wp2_with fail
  refine (floor_at x f true _ hx a3.out a4.out).mono ?_
  rintro e w' ⟨rfl, k, rfl⟩
  go_wp2_with fail
  refine (clamp_at x most most _ hx m1 cl.out).mono ?_
  rintro e w' ⟨rfl, k, rfl⟩
  go_wp2
  go_ret
  exact ⟨rfl, _, rfl⟩

set_option maxHeartbeats 2000000 in
theorem inhiHqB (x : Nat) (most : Int) (w : World) (hx : x < 18446744073709551616) (c0 : ¬ most < 0) (m1 : most ≤ 9223372036854775807) (n f : Int) (a1 : Hid (cI .even x = n)) (a2 : Hid (cOk .even x = true)) (a3 : Hid (cI .down x = f)) (a4 : Hid (cOk .down x = true)) (g1 : (fgt x 14114281232179134464 || feq x 14114281232179134464) = true) (g2 : flt x 4890909195324358656 = true) (N F d e : Nat) (n1 : floatOfInt .f64 n = N) (f1 : floatOfInt .f64 f = F) (d0 : floatBits .sub .f64 x N = some d) (e0 : floatBits .sub .f64 x F = some e) (cl : Hid (clampB x most = most)) (c : most < n) (d1 : fgt d 13826050856027422720 = true) (d2 : flt d 4602678819172646912 = false) (d3 : feq d 4602678819172646912 = true) (ev : n.tmod 2 = 0) (e1 : fgt e 0 = true) (e2 : flt e 4607182418800017408 = false) (e3 : feq e 4607182418800017408 = true) (e4 : flt x 0 = true) (e5 : fgt x 13830554455654793216 = true) :
    Calls Try.prog 6 #[.float .f64 x, .int .i64 most] w fun e w' => e = .returned (.bool true) ∧ ∃ n, w' = w.drewN n := by
  have cn := fun (w : World) => run_convert_int_float (P := Try.prog) w 2 24 .i64 .f64 n (by kernel_rfl) (by kernel_rfl)
  have cf := fun (w : World) => run_convert_int_float (P := Try.prog) w 2 24 .i64 .f64 f (by kernel_rfl) (by kernel_rfl)
  rw [n1] at cn
  rw [f1] at cf
  have sd := fun (t : TypeId) (w : World) => run_float_arith (P := Try.prog) w .sub t .f64 x N d d0
  have se := fun (t : TypeId) (w : World) => run_float_arith (P := Try.prog) w .sub t .f64 x F e e0
  clear n1 f1 d0 e0
  go_enter Try.func6, Try.ntmps6
  go_wp2_with fail
  refine (awake_any _).mono ?_
  rintro e w' ⟨rfl, k, rfl⟩
  go_wp2_with fail
  refine (round_at x n true _ hx a1.out a2.out).mono ?_
  rintro e w' ⟨rfl, k, rfl⟩
  go_wp2_with fail
  refine (floor_at x f true _ hx a3.out a4.out).mono ?_
  rintro e w' ⟨rfl, k, rfl⟩
  go_wp2_with fail
  refine (clamp_at x most most _ hx m1 cl.out).mono ?_
  rintro e w' ⟨rfl, k, rfl⟩
  go_wp2
  go_ret
  exact ⟨rfl, _, rfl⟩

set_option maxHeartbeats 2000000 in
theorem inhiNzB (x : Nat) (most : Int) (w : World) (hx : x < 18446744073709551616) (c0 : ¬ most < 0) (m1 : most ≤ 9223372036854775807) (n f : Int) (a1 : Hid (cI .even x = n)) (a2 : Hid (cOk .even x = true)) (a3 : Hid (cI .down x = f)) (a4 : Hid (cOk .down x = true)) (g1 : (fgt x 14114281232179134464 || feq x 14114281232179134464) = true) (g2 : flt x 4890909195324358656 = true) (N F d e : Nat) (n1 : floatOfInt .f64 n = N) (f1 : floatOfInt .f64 f = F) (d0 : floatBits .sub .f64 x N = some d) (e0 : floatBits .sub .f64 x F = some e) (cl : Hid (clampB x most = most)) (c : most < n) (d1 : fgt d 13826050856027422720 = false) (d2 : flt d 4602678819172646912 = true) (d3 : feq d 4602678819172646912 = false) (d4 : feq d 13826050856027422720 = true) (ev : n.tmod 2 = 0) (e1 : fgt e 0 = false) (e3 : feq e 0 = true) (e2 : flt e 4607182418800017408 = true) :
    Calls Try.prog 6 #[.float .f64 x, .int .i64 most] w fun e w' => e = .returned (.bool true) ∧ ∃ n, w' = w.drewN n := by
  have cn := fun (w : World) => run_convert_int_float (P := Try.prog) w 2 24 .i64 .f64 n (by kernel_rfl) (by kernel_rfl)
  have cf := fun (w : World) => run_convert_int_float (P := Try.prog) w 2 24 .i64 .f64 f (by kernel_rfl) (by kernel_rfl)
  rw [n1] at cn
  rw [f1] at cf
  have sd := fun (t : TypeId) (w : World) => run_float_arith (P := Try.prog) w .sub t .f64 x N d d0
  have se := fun (t : TypeId) (w : World) => run_float_arith (P := Try.prog) w .sub t .f64 x F e e0
  clear n1 f1 d0 e0
  go_enter Try.func6, Try.ntmps6
  go_wp2_with fail
  refine (awake_any _).mono ?_
  rintro e w' ⟨rfl, k, rfl⟩
  go_wp2_with fail
  refine (round_at x n true _ hx a1.out a2.out).mono ?_
  rintro e w' ⟨rfl, k, rfl⟩
  go_wp2_with fail
  refine (floor_at x f true _ hx a3.out a4.out).mono ?_
  rintro e w' ⟨rfl, k, rfl⟩
  go_wp2_with fail
  refine (clamp_at x most most _ hx m1 cl.out).mono ?_
  rintro e w' ⟨rfl, k, rfl⟩
  go_wp2
  go_ret
  exact ⟨rfl, _, rfl⟩

set_option maxHeartbeats 2000000 in
theorem inhiNlB (x : Nat) (most : Int) (w : World) (hx : x < 18446744073709551616) (c0 : ¬ most < 0) (m1 : most ≤ 9223372036854775807) (n f : Int) (a1 : Hid (cI .even x = n)) (a2 : Hid (cOk .even x = true)) (a3 : Hid (cI .down x = f)) (a4 : Hid (cOk .down x = true)) (g1 : (fgt x 14114281232179134464 || feq x 14114281232179134464) = true) (g2 : flt x 4890909195324358656 = true) (N F d e : Nat) (n1 : floatOfInt .f64 n = N) (f1 : floatOfInt .f64 f = F) (d0 : floatBits .sub .f64 x N = some d) (e0 : floatBits .sub .f64 x F = some e) (cl : Hid (clampB x most = most)) (c : most < n) (d1 : fgt d 13826050856027422720 = false) (d2 : flt d 4602678819172646912 = true) (d3 : feq d 4602678819172646912 = false) (d4 : feq d 13826050856027422720 = true) (ev : n.tmod 2 = 0) (e1 : fgt e 0 = true) (e2 : flt e 4607182418800017408 = true) :
    Calls Try.prog 6 #[.float .f64 x, .int .i64 most] w fun e w' => e = .returned (.bool true) ∧ ∃ n, w' = w.drewN n := by
  have cn := fun (w : World) => run_convert_int_float (P := Try.prog) w 2 24 .i64 .f64 n (by kernel_rfl) (by kernel_rfl)
  have cf := fun (w : World) => run_convert_int_float (P := Try.prog) w 2 24 .i64 .f64 f (by kernel_rfl) (by kernel_rfl)
  rw [n1] at cn
  rw [f1] at cf
  have sd := fun (t : TypeId) (w : World) => run_float_arith (P := Try.prog) w .sub t .f64 x N d d0
  have se := fun (t : TypeId) (w : World) => run_float_arith (P := Try.prog) w .sub t .f64 x F e e0
  clear n1 f1 d0 e0
  go_enter Try.func6, Try.ntmps6
  go_wp2_with fail
  refine (awake_any _).mono ?_
  rintro e w' ⟨rfl, k, rfl⟩
  go_wp2_with fail
  refine (round_at x n true _ hx a1.out a2.out).mono ?_
  rintro e w' ⟨rfl, k, rfl⟩
  go_wp2_with fail
  refine (floor_at x f true _ hx a3.out a4.out).mono ?_
  rintro e w' ⟨rfl, k, rfl⟩
  go_wp2_with fail
  refine (clamp_at x most most _ hx m1 cl.out).mono ?_
  rintro e w' ⟨rfl, k, rfl⟩
  go_wp2
  go_ret
  exact ⟨rfl, _, rfl⟩

set_option maxHeartbeats 2000000 in
theorem inhiNqB (x : Nat) (most : Int) (w : World) (hx : x < 18446744073709551616) (c0 : ¬ most < 0) (m1 : most ≤ 9223372036854775807) (n f : Int) (a1 : Hid (cI .even x = n)) (a2 : Hid (cOk .even x = true)) (a3 : Hid (cI .down x = f)) (a4 : Hid (cOk .down x = true)) (g1 : (fgt x 14114281232179134464 || feq x 14114281232179134464) = true) (g2 : flt x 4890909195324358656 = true) (N F d e : Nat) (n1 : floatOfInt .f64 n = N) (f1 : floatOfInt .f64 f = F) (d0 : floatBits .sub .f64 x N = some d) (e0 : floatBits .sub .f64 x F = some e) (cl : Hid (clampB x most = most)) (c : most < n) (d1 : fgt d 13826050856027422720 = false) (d2 : flt d 4602678819172646912 = true) (d3 : feq d 4602678819172646912 = false) (d4 : feq d 13826050856027422720 = true) (ev : n.tmod 2 = 0) (e1 : fgt e 0 = true) (e2 : flt e 4607182418800017408 = false) (e3 : feq e 4607182418800017408 = true) (e4 : flt x 0 = true) (e5 : fgt x 13830554455654793216 = true) :
    Calls Try.prog 6 #[.float .f64 x, .int .i64 most] w fun e w' => e = .returned (.bool true) ∧ ∃ n, w' = w.drewN n := by
  have cn := fun (w : World) => run_convert_int_float (P := Try.prog) w 2 24 .i64 .f64 n (by kernel_rfl) (by kernel_rfl)
  have cf := fun (w : World) => run_convert_int_float (P := Try.prog) w 2 24 .i64 .f64 f (by kernel_rfl) (by kernel_rfl)
  rw [n1] at cn
  rw [f1] at cf
  have sd := fun (t : TypeId) (w : World) => run_float_arith (P := Try.prog) w .sub t .f64 x N d d0
  have se := fun (t : TypeId) (w : World) => run_float_arith (P := Try.prog) w .sub t .f64 x F e e0
  clear n1 f1 d0 e0
  go_enter Try.func6, Try.ntmps6
  go_wp2_with fail
  refine (awake_any _).mono ?_
  rintro e w' ⟨rfl, k, rfl⟩
  go_wp2_with fail
  refine (round_at x n true _ hx a1.out a2.out).mono ?_
  rintro e w' ⟨rfl, k, rfl⟩
  go_wp2_with fail
  refine (floor_at x f true _ hx a3.out a4.out).mono ?_
  rintro e w' ⟨rfl, k, rfl⟩
  go_wp2_with fail
  refine (clamp_at x most most _ hx m1 cl.out).mono ?_
  rintro e w' ⟨rfl, k, rfl⟩
  go_wp2
  go_ret
  exact ⟨rfl, _, rfl⟩

set_option maxHeartbeats 2000000 in
theorem inhiozB (x : Nat) (most : Int) (w : World) (hx : x < 18446744073709551616) (c0 : ¬ most < 0) (m1 : most ≤ 9223372036854775807) (n f : Int) (a1 : Hid (cI .even x = n)) (a2 : Hid (cOk .even x = true)) (a3 : Hid (cI .down x = f)) (a4 : Hid (cOk .down x = true)) (g1 : (fgt x 14114281232179134464 || feq x 14114281232179134464) = true) (g2 : flt x 4890909195324358656 = true) (N F d e : Nat) (n1 : floatOfInt .f64 n = N) (f1 : floatOfInt .f64 f = F) (d0 : floatBits .sub .f64 x N = some d) (e0 : floatBits .sub .f64 x F = some e) (cl : Hid (clampB x most = most)) (c : most < n) (d1 : fgt d 13826050856027422720 = true) (d2 : flt d 4602678819172646912 = true) (d3 : feq d 4602678819172646912 = false) (d4 : feq d 13826050856027422720 = false) (e1 : fgt e 0 = false) (e3 : feq e 0 = true) (e2 : flt e 4607182418800017408 = true) :
    Calls Try.prog 6 #[.float .f64 x, .int .i64 most] w fun e w' => e = .returned (.bool true) ∧ ∃ n, w' = w.drewN n := by
  have cn := fun (w : World) => run_convert_int_float (P := Try.prog) w 2 24 .i64 .f64 n (by kernel_rfl) (by kernel_rfl)
  have cf := fun (w : World) => run_convert_int_float (P := Try.prog) w 2 24 .i64 .f64 f (by kernel_rfl) (by kernel_rfl)
  rw [n1] at cn
  rw [f1] at cf
  have sd := fun (t : TypeId) (w : World) => run_float_arith (P := Try.prog) w .sub t .f64 x N d d0
  have se := fun (t : TypeId) (w : World) => run_float_arith (P := Try.prog) w .sub t .f64 x F e e0
  clear n1 f1 d0 e0
  go_enter Try.func6, Try.ntmps6
  go_wp2_with fail
  refine (awake_any _).mono ?_
  rintro e w' ⟨rfl, k, rfl⟩
  go_wp2_with fail
  refine (round_at x n true _ hx a1.out a2.out).mono ?_
  rintro e w' ⟨rfl, k, rfl⟩
  go_wp2_with fail
  refine (floor_at x f true _ hx a3.out a4.out).mono ?_
  rintro e w' ⟨rfl, k, rfl⟩
  go_wp2_with fail
  refine (clamp_at x most most _ hx m1 cl.out).mono ?_
  rintro e w' ⟨rfl, k, rfl⟩
  go_wp2
  go_ret
  exact ⟨rfl, _, rfl⟩

set_option maxHeartbeats 2000000 in
theorem inhiolB (x : Nat) (most : Int) (w : World) (hx : x < 18446744073709551616) (c0 : ¬ most < 0) (m1 : most ≤ 9223372036854775807) (n f : Int) (a1 : Hid (cI .even x = n)) (a2 : Hid (cOk .even x = true)) (a3 : Hid (cI .down x = f)) (a4 : Hid (cOk .down x = true)) (g1 : (fgt x 14114281232179134464 || feq x 14114281232179134464) = true) (g2 : flt x 4890909195324358656 = true) (N F d e : Nat) (n1 : floatOfInt .f64 n = N) (f1 : floatOfInt .f64 f = F) (d0 : floatBits .sub .f64 x N = some d) (e0 : floatBits .sub .f64 x F = some e) (cl : Hid (clampB x most = most)) (c : most < n) (d1 : fgt d 13826050856027422720 = true) (d2 : flt d 4602678819172646912 = true) (d3 : feq d 4602678819172646912 = false) (d4 : feq d 13826050856027422720 = false) (e1 : fgt e 0 = true) (e2 : flt e 4607182418800017408 = true) :
    Calls Try.prog 6 #[.float .f64 x, .int .i64 most] w fun e w' => e = .returned (.bool true) ∧ ∃ n, w' = w.drewN n := by
  have cn := fun (w : World) => run_convert_int_float (P := Try.prog) w 2 24 .i64 .f64 n (by kernel_rfl) (by kernel_rfl)
  have cf := fun (w : World) => run_convert_int_float (P := Try.prog) w 2 24 .i64 .f64 f (by kernel_rfl) (by kernel_rfl)
  rw [n1] at cn
  rw [f1] at cf
  have sd := fun (t : TypeId) (w : World) => run_float_arith (P := Try.prog) w .sub t .f64 x N d d0
  have se := fun (t : TypeId) (w : World) => run_float_arith (P := Try.prog) w .sub t .f64 x F e e0
  clear n1 f1 d0 e0
  go_enter Try.func6, Try.ntmps6
  go_wp2_with fail
  refine (awake_any _).mono ?_
  rintro e w' ⟨rfl, k, rfl⟩
  go_wp2_with fail
  refine (round_at x n true _ hx a1.out a2.out).mono ?_
  rintro e w' ⟨rfl, k, rfl⟩
  go_wp2_with fail
  refine (floor_at x f true _ hx a3.out a4.out).mono ?_
  rintro e w' ⟨rfl, k, rfl⟩
  go_wp2_with fail
  refine (clamp_at x most most _ hx m1 cl.out).mono ?_
  rintro e w' ⟨rfl, k, rfl⟩
  go_wp2
  go_ret
  exact ⟨rfl, _, rfl⟩

set_option maxHeartbeats 2000000 in
theorem inhioqB (x : Nat) (most : Int) (w : World) (hx : x < 18446744073709551616) (c0 : ¬ most < 0) (m1 : most ≤ 9223372036854775807) (n f : Int) (a1 : Hid (cI .even x = n)) (a2 : Hid (cOk .even x = true)) (a3 : Hid (cI .down x = f)) (a4 : Hid (cOk .down x = true)) (g1 : (fgt x 14114281232179134464 || feq x 14114281232179134464) = true) (g2 : flt x 4890909195324358656 = true) (N F d e : Nat) (n1 : floatOfInt .f64 n = N) (f1 : floatOfInt .f64 f = F) (d0 : floatBits .sub .f64 x N = some d) (e0 : floatBits .sub .f64 x F = some e) (cl : Hid (clampB x most = most)) (c : most < n) (d1 : fgt d 13826050856027422720 = true) (d2 : flt d 4602678819172646912 = true) (d3 : feq d 4602678819172646912 = false) (d4 : feq d 13826050856027422720 = false) (e1 : fgt e 0 = true) (e2 : flt e 4607182418800017408 = false) (e3 : feq e 4607182418800017408 = true) (e4 : flt x 0 = true) (e5 : fgt x 13830554455654793216 = true) :
    Calls Try.prog 6 #[.float .f64 x, .int .i64 most] w fun e w' => e = .returned (.bool true) ∧ ∃ n, w' = w.drewN n := by
  have cn := fun (w : World) => run_convert_int_float (P := Try.prog) w 2 24 .i64 .f64 n (by kernel_rfl) (by kernel_rfl)
  have cf := fun (w : World) => run_convert_int_float (P := Try.prog) w 2 24 .i64 .f64 f (by kernel_rfl) (by kernel_rfl)
  rw [n1] at cn
  rw [f1] at cf
  have sd := fun (t : TypeId) (w : World) => run_float_arith (P := Try.prog) w .sub t .f64 x N d d0
  have se := fun (t : TypeId) (w : World) => run_float_arith (P := Try.prog) w .sub t .f64 x F e e0
  clear n1 f1 d0 e0
  go_enter Try.func6, Try.ntmps6
  go_wp2_with fail
  refine (awake_any _).mono ?_
  rintro e w' ⟨rfl, k, rfl⟩
  go_wp2_with fail
  refine (round_at x n true _ hx a1.out a2.out).mono ?_
  rintro e w' ⟨rfl, k, rfl⟩
  go_wp2_with fail
  refine (floor_at x f true _ hx a3.out a4.out).mono ?_
  rintro e w' ⟨rfl, k, rfl⟩
  go_wp2_with fail
  refine (clamp_at x most most _ hx m1 cl.out).mono ?_
  rintro e w' ⟨rfl, k, rfl⟩
  go_wp2
  go_ret
  exact ⟨rfl, _, rfl⟩

set_option maxHeartbeats 2000000 in
theorem ininHzB (x : Nat) (most : Int) (w : World) (hx : x < 18446744073709551616) (c0 : ¬ most < 0) (m1 : most ≤ 9223372036854775807) (n f : Int) (a1 : Hid (cI .even x = n)) (a2 : Hid (cOk .even x = true)) (a3 : Hid (cI .down x = f)) (a4 : Hid (cOk .down x = true)) (g1 : (fgt x 14114281232179134464 || feq x 14114281232179134464) = true) (g2 : flt x 4890909195324358656 = true) (N F d e : Nat) (n1 : floatOfInt .f64 n = N) (f1 : floatOfInt .f64 f = F) (d0 : floatBits .sub .f64 x N = some d) (e0 : floatBits .sub .f64 x F = some e) (cl : Hid (clampB x most = n)) (c : (-most) ≤ n) (c' : n ≤ most) (d1 : fgt d 13826050856027422720 = true) (d2 : flt d 4602678819172646912 = false) (d3 : feq d 4602678819172646912 = true) (ev : n.tmod 2 = 0) (e1 : fgt e 0 = false) (e3 : feq e 0 = true) (e2 : flt e 4607182418800017408 = true) :
    Calls Try.prog 6 #[.float .f64 x, .int .i64 most] w fun e w' => e = .returned (.bool true) ∧ ∃ n, w' = w.drewN n := by
  have cn := fun (w : World) => run_convert_int_float (P := Try.prog) w 2 24 .i64 .f64 n (by kernel_rfl) (by kernel_rfl)
  have cf := fun (w : World) => run_convert_int_float (P := Try.prog) w 2 24 .i64 .f64 f (by kernel_rfl) (by kernel_rfl)
  rw [n1] at cn
  rw [f1] at cf
  have sd := fun (t : TypeId) (w : World) => run_float_arith (P := Try.prog) w .sub t .f64 x N d d0
  have se := fun (t : TypeId) (w : World) => run_float_arith (P := Try.prog) w .sub t .f64 x F e e0
  clear n1 f1 d0 e0
  go_enter Try.func6, Try.ntmps6
  go_wp2_with fail
  refine (awake_any _).mono ?_
  rintro e w' ⟨rfl, k, rfl⟩
  go_wp2_with fail
  refine (round_at x n true _ hx a1.out a2.out).mono ?_
  rintro e w' ⟨rfl, k, rfl⟩
  go_wp2_with fail
  refine (floor_at x f true _ hx a3.out a4.out).mono ?_
  rintro e w' ⟨rfl, k, rfl⟩
  go_wp2_with fail
  refine (clamp_at x most n _ hx m1 cl.out).mono ?_
  rintro e w' ⟨rfl, k, rfl⟩
  go_wp2
  go_ret
  exact ⟨rfl, _, rfl⟩

set_option maxHeartbeats 2000000 in
theorem ininHlB (x : Nat) (most : Int) (w : World) (hx : x < 18446744073709551616) (c0 : ¬ most < 0) (m1 : most ≤ 9223372036854775807) (n f : Int) (a1 : Hid (cI .even x = n)) (a2 : Hid (cOk .even x = true)) (a3 : Hid (cI .down x = f)) (a4 : Hid (cOk .down x = true)) (g1 : (fgt x 14114281232179134464 || feq x 14114281232179134464) = true) (g2 : flt x 4890909195324358656 = true) (N F d e : Nat) (n1 : floatOfInt .f64 n = N) (f1 : floatOfInt .f64 f = F) (d0 : floatBits .sub .f64 x N = some d) (e0 : floatBits .sub .f64 x F = some e) (cl : Hid (clampB x most = n)) (c : (-most) ≤ n) (c' : n ≤ most) (d1 : fgt d 13826050856027422720 = true) (d2 : flt d 4602678819172646912 = false) (d3 : feq d 4602678819172646912 = true) (ev : n.tmod 2 = 0) (e1 : fgt e 0 = true) (e2 : flt e 4607182418800017408 = true) :
    Calls Try.prog 6 #[.float .f64 x, .int .i64 most] w fun e w' => e = .returned (.bool true) ∧ ∃ n, w' = w.drewN n := by
  have cn := fun (w : World) => run_convert_int_float (P := Try.prog) w 2 24 .i64 .f64 n (by kernel_rfl) (by kernel_rfl)
  have cf := fun (w : World) => run_convert_int_float (P := Try.prog) w 2 24 .i64 .f64 f (by kernel_rfl) (by kernel_rfl)
  rw [n1] at cn
  rw [f1] at cf
  have sd := fun (t : TypeId) (w : World) => run_float_arith (P := Try.prog) w .sub t .f64 x N d d0
  have se := fun (t : TypeId) (w : World) => run_float_arith (P := Try.prog) w .sub t .f64 x F e e0
  clear n1 f1 d0 e0
  go_enter Try.func6, Try.ntmps6
  go_wp2_with fail
  refine (awake_any _).mono ?_
  rintro e w' ⟨rfl, k, rfl⟩
  go_wp2_with fail
  refine (round_at x n true _ hx a1.out a2.out).mono ?_
  rintro e w' ⟨rfl, k, rfl⟩
  go_wp2_with fail
  refine (floor_at x f true _ hx a3.out a4.out).mono ?_
  rintro e w' ⟨rfl, k, rfl⟩
  go_wp2_with fail
  refine (clamp_at x most n _ hx m1 cl.out).mono ?_
  rintro e w' ⟨rfl, k, rfl⟩
  go_wp2
  go_ret
  exact ⟨rfl, _, rfl⟩

set_option maxHeartbeats 2000000 in
theorem ininHqB (x : Nat) (most : Int) (w : World) (hx : x < 18446744073709551616) (c0 : ¬ most < 0) (m1 : most ≤ 9223372036854775807) (n f : Int) (a1 : Hid (cI .even x = n)) (a2 : Hid (cOk .even x = true)) (a3 : Hid (cI .down x = f)) (a4 : Hid (cOk .down x = true)) (g1 : (fgt x 14114281232179134464 || feq x 14114281232179134464) = true) (g2 : flt x 4890909195324358656 = true) (N F d e : Nat) (n1 : floatOfInt .f64 n = N) (f1 : floatOfInt .f64 f = F) (d0 : floatBits .sub .f64 x N = some d) (e0 : floatBits .sub .f64 x F = some e) (cl : Hid (clampB x most = n)) (c : (-most) ≤ n) (c' : n ≤ most) (d1 : fgt d 13826050856027422720 = true) (d2 : flt d 4602678819172646912 = false) (d3 : feq d 4602678819172646912 = true) (ev : n.tmod 2 = 0) (e1 : fgt e 0 = true) (e2 : flt e 4607182418800017408 = false) (e3 : feq e 4607182418800017408 = true) (e4 : flt x 0 = true) (e5 : fgt x 13830554455654793216 = true) :
    Calls Try.prog 6 #[.float .f64 x, .int .i64 most] w fun e w' => e = .returned (.bool true) ∧ ∃ n, w' = w.drewN n := by
  have cn := fun (w : World) => run_convert_int_float (P := Try.prog) w 2 24 .i64 .f64 n (by kernel_rfl) (by kernel_rfl)
  have cf := fun (w : World) => run_convert_int_float (P := Try.prog) w 2 24 .i64 .f64 f (by kernel_rfl) (by kernel_rfl)
  rw [n1] at cn
  rw [f1] at cf
  have sd := fun (t : TypeId) (w : World) => run_float_arith (P := Try.prog) w .sub t .f64 x N d d0
  have se := fun (t : TypeId) (w : World) => run_float_arith (P := Try.prog) w .sub t .f64 x F e e0
  clear n1 f1 d0 e0
  go_enter Try.func6, Try.ntmps6
  go_wp2_with fail
  refine (awake_any _).mono ?_
  rintro e w' ⟨rfl, k, rfl⟩
  go_wp2_with fail
  refine (round_at x n true _ hx a1.out a2.out).mono ?_
  rintro e w' ⟨rfl, k, rfl⟩
  go_wp2_with fail
  refine (floor_at x f true _ hx a3.out a4.out).mono ?_
  rintro e w' ⟨rfl, k, rfl⟩
  go_wp2_with fail
  refine (clamp_at x most n _ hx m1 cl.out).mono ?_
  rintro e w' ⟨rfl, k, rfl⟩
  go_wp2
  go_ret
  exact ⟨rfl, _, rfl⟩

set_option maxHeartbeats 2000000 in
theorem ininNzB (x : Nat) (most : Int) (w : World) (hx : x < 18446744073709551616) (c0 : ¬ most < 0) (m1 : most ≤ 9223372036854775807) (n f : Int) (a1 : Hid (cI .even x = n)) (a2 : Hid (cOk .even x = true)) (a3 : Hid (cI .down x = f)) (a4 : Hid (cOk .down x = true)) (g1 : (fgt x 14114281232179134464 || feq x 14114281232179134464) = true) (g2 : flt x 4890909195324358656 = true) (N F d e : Nat) (n1 : floatOfInt .f64 n = N) (f1 : floatOfInt .f64 f = F) (d0 : floatBits .sub .f64 x N = some d) (e0 : floatBits .sub .f64 x F = some e) (cl : Hid (clampB x most = n)) (c : (-most) ≤ n) (c' : n ≤ most) (d1 : fgt d 13826050856027422720 = false) (d2 : flt d 4602678819172646912 = true) (d3 : feq d 4602678819172646912 = false) (d4 : feq d 13826050856027422720 = true) (ev : n.tmod 2 = 0) (e1 : fgt e 0 = false) (e3 : feq e 0 = true) (e2 : flt e 4607182418800017408 = true) :
    Calls Try.prog 6 #[.float .f64 x, .int .i64 most] w fun e w' => e = .returned (.bool true) ∧ ∃ n, w' = w.drewN n := by
  have cn := fun (w : World) => run_convert_int_float (P := Try.prog) w 2 24 .i64 .f64 n (by kernel_rfl) (by kernel_rfl)
  have cf := fun (w : World) => run_convert_int_float (P := Try.prog) w 2 24 .i64 .f64 f (by kernel_rfl) (by kernel_rfl)
  rw [n1] at cn
  rw [f1] at cf
  have sd := fun (t : TypeId) (w : World) => run_float_arith (P := Try.prog) w .sub t .f64 x N d d0
  have se := fun (t : TypeId) (w : World) => run_float_arith (P := Try.prog) w .sub t .f64 x F e e0
  clear n1 f1 d0 e0
  go_enter Try.func6, Try.ntmps6
  go_wp2_with fail
  refine (awake_any _).mono ?_
  rintro e w' ⟨rfl, k, rfl⟩
  go_wp2_with fail
  refine (round_at x n true _ hx a1.out a2.out).mono ?_
  rintro e w' ⟨rfl, k, rfl⟩
  go_wp2_with fail
  refine (floor_at x f true _ hx a3.out a4.out).mono ?_
  rintro e w' ⟨rfl, k, rfl⟩
  go_wp2_with fail
  refine (clamp_at x most n _ hx m1 cl.out).mono ?_
  rintro e w' ⟨rfl, k, rfl⟩
  go_wp2
  go_ret
  exact ⟨rfl, _, rfl⟩

set_option maxHeartbeats 2000000 in
theorem ininNlB (x : Nat) (most : Int) (w : World) (hx : x < 18446744073709551616) (c0 : ¬ most < 0) (m1 : most ≤ 9223372036854775807) (n f : Int) (a1 : Hid (cI .even x = n)) (a2 : Hid (cOk .even x = true)) (a3 : Hid (cI .down x = f)) (a4 : Hid (cOk .down x = true)) (g1 : (fgt x 14114281232179134464 || feq x 14114281232179134464) = true) (g2 : flt x 4890909195324358656 = true) (N F d e : Nat) (n1 : floatOfInt .f64 n = N) (f1 : floatOfInt .f64 f = F) (d0 : floatBits .sub .f64 x N = some d) (e0 : floatBits .sub .f64 x F = some e) (cl : Hid (clampB x most = n)) (c : (-most) ≤ n) (c' : n ≤ most) (d1 : fgt d 13826050856027422720 = false) (d2 : flt d 4602678819172646912 = true) (d3 : feq d 4602678819172646912 = false) (d4 : feq d 13826050856027422720 = true) (ev : n.tmod 2 = 0) (e1 : fgt e 0 = true) (e2 : flt e 4607182418800017408 = true) :
    Calls Try.prog 6 #[.float .f64 x, .int .i64 most] w fun e w' => e = .returned (.bool true) ∧ ∃ n, w' = w.drewN n := by
  have cn := fun (w : World) => run_convert_int_float (P := Try.prog) w 2 24 .i64 .f64 n (by kernel_rfl) (by kernel_rfl)
  have cf := fun (w : World) => run_convert_int_float (P := Try.prog) w 2 24 .i64 .f64 f (by kernel_rfl) (by kernel_rfl)
  rw [n1] at cn
  rw [f1] at cf
  have sd := fun (t : TypeId) (w : World) => run_float_arith (P := Try.prog) w .sub t .f64 x N d d0
  have se := fun (t : TypeId) (w : World) => run_float_arith (P := Try.prog) w .sub t .f64 x F e e0
  clear n1 f1 d0 e0
  go_enter Try.func6, Try.ntmps6
  go_wp2_with fail
  refine (awake_any _).mono ?_
  rintro e w' ⟨rfl, k, rfl⟩
  go_wp2_with fail
  refine (round_at x n true _ hx a1.out a2.out).mono ?_
  rintro e w' ⟨rfl, k, rfl⟩
  go_wp2_with fail
  refine (floor_at x f true _ hx a3.out a4.out).mono ?_
  rintro e w' ⟨rfl, k, rfl⟩
  go_wp2_with fail
  refine (clamp_at x most n _ hx m1 cl.out).mono ?_
  rintro e w' ⟨rfl, k, rfl⟩
  go_wp2
  go_ret
  exact ⟨rfl, _, rfl⟩

set_option maxHeartbeats 2000000 in
theorem ininNqB (x : Nat) (most : Int) (w : World) (hx : x < 18446744073709551616) (c0 : ¬ most < 0) (m1 : most ≤ 9223372036854775807) (n f : Int) (a1 : Hid (cI .even x = n)) (a2 : Hid (cOk .even x = true)) (a3 : Hid (cI .down x = f)) (a4 : Hid (cOk .down x = true)) (g1 : (fgt x 14114281232179134464 || feq x 14114281232179134464) = true) (g2 : flt x 4890909195324358656 = true) (N F d e : Nat) (n1 : floatOfInt .f64 n = N) (f1 : floatOfInt .f64 f = F) (d0 : floatBits .sub .f64 x N = some d) (e0 : floatBits .sub .f64 x F = some e) (cl : Hid (clampB x most = n)) (c : (-most) ≤ n) (c' : n ≤ most) (d1 : fgt d 13826050856027422720 = false) (d2 : flt d 4602678819172646912 = true) (d3 : feq d 4602678819172646912 = false) (d4 : feq d 13826050856027422720 = true) (ev : n.tmod 2 = 0) (e1 : fgt e 0 = true) (e2 : flt e 4607182418800017408 = false) (e3 : feq e 4607182418800017408 = true) (e4 : flt x 0 = true) (e5 : fgt x 13830554455654793216 = true) :
    Calls Try.prog 6 #[.float .f64 x, .int .i64 most] w fun e w' => e = .returned (.bool true) ∧ ∃ n, w' = w.drewN n := by
  have cn := fun (w : World) => run_convert_int_float (P := Try.prog) w 2 24 .i64 .f64 n (by kernel_rfl) (by kernel_rfl)
  have cf := fun (w : World) => run_convert_int_float (P := Try.prog) w 2 24 .i64 .f64 f (by kernel_rfl) (by kernel_rfl)
  rw [n1] at cn
  rw [f1] at cf
  have sd := fun (t : TypeId) (w : World) => run_float_arith (P := Try.prog) w .sub t .f64 x N d d0
  have se := fun (t : TypeId) (w : World) => run_float_arith (P := Try.prog) w .sub t .f64 x F e e0
  clear n1 f1 d0 e0
  go_enter Try.func6, Try.ntmps6
  go_wp2_with fail
  refine (awake_any _).mono ?_
  rintro e w' ⟨rfl, k, rfl⟩
  go_wp2_with fail
  refine (round_at x n true _ hx a1.out a2.out).mono ?_
  rintro e w' ⟨rfl, k, rfl⟩
  go_wp2_with fail
  refine (floor_at x f true _ hx a3.out a4.out).mono ?_
  rintro e w' ⟨rfl, k, rfl⟩
  go_wp2_with fail
  refine (clamp_at x most n _ hx m1 cl.out).mono ?_
  rintro e w' ⟨rfl, k, rfl⟩
  go_wp2
  go_ret
  exact ⟨rfl, _, rfl⟩

set_option maxHeartbeats 2000000 in
theorem ininozB (x : Nat) (most : Int) (w : World) (hx : x < 18446744073709551616) (c0 : ¬ most < 0) (m1 : most ≤ 9223372036854775807) (n f : Int) (a1 : Hid (cI .even x = n)) (a2 : Hid (cOk .even x = true)) (a3 : Hid (cI .down x = f)) (a4 : Hid (cOk .down x = true)) (g1 : (fgt x 14114281232179134464 || feq x 14114281232179134464) = true) (g2 : flt x 4890909195324358656 = true) (N F d e : Nat) (n1 : floatOfInt .f64 n = N) (f1 : floatOfInt .f64 f = F) (d0 : floatBits .sub .f64 x N = some d) (e0 : floatBits .sub .f64 x F = some e) (cl : Hid (clampB x most = n)) (c : (-most) ≤ n) (c' : n ≤ most) (d1 : fgt d 13826050856027422720 = true) (d2 : flt d 4602678819172646912 = true) (d3 : feq d 4602678819172646912 = false) (d4 : feq d 13826050856027422720 = false) (e1 : fgt e 0 = false) (e3 : feq e 0 = true) (e2 : flt e 4607182418800017408 = true) :
    Calls Try.prog 6 #[.float .f64 x, .int .i64 most] w fun e w' => e = .returned (.bool true) ∧ ∃ n, w' = w.drewN n := by
  have cn := fun (w : World) => run_convert_int_float (P := Try.prog) w 2 24 .i64 .f64 n (by kernel_rfl) (by kernel_rfl)
  have cf := fun (w : World) => run_convert_int_float (P := Try.prog) w 2 24 .i64 .f64 f (by kernel_rfl) (by kernel_rfl)
  rw [n1] at cn
  rw [f1] at cf
  have sd := fun (t : TypeId) (w : World) => run_float_arith (P := Try.prog) w .sub t .f64 x N d d0
  have se := fun (t : TypeId) (w : World) => run_float_arith (P := Try.prog) w .sub t .f64 x F e e0
  clear n1 f1 d0 e0
  go_enter Try.func6, Try.ntmps6
  go_wp2_with fail
  refine (awake_any _).mono ?_
  rintro e w' ⟨rfl, k, rfl⟩
  go_wp2_with fail
  refine (round_at x n true _ hx a1.out a2.out).mono ?_
  rintro e w' ⟨rfl, k, rfl⟩
  go_wp2_with fail
  refine (floor_at x f true _ hx a3.out a4.out).mono ?_
  rintro e w' ⟨rfl, k, rfl⟩
  go_wp2_with fail
  refine (clamp_at x most n _ hx m1 cl.out).mono ?_
  rintro e w' ⟨rfl, k, rfl⟩
  go_wp2
  go_ret
  exact ⟨rfl, _, rfl⟩

set_option maxHeartbeats 2000000 in
theorem ininolB (x : Nat) (most : Int) (w : World) (hx : x < 18446744073709551616) (c0 : ¬ most < 0) (m1 : most ≤ 9223372036854775807) (n f : Int) (a1 : Hid (cI .even x = n)) (a2 : Hid (cOk .even x = true)) (a3 : Hid (cI .down x = f)) (a4 : Hid (cOk .down x = true)) (g1 : (fgt x 14114281232179134464 || feq x 14114281232179134464) = true) (g2 : flt x 4890909195324358656 = true) (N F d e : Nat) (n1 : floatOfInt .f64 n = N) (f1 : floatOfInt .f64 f = F) (d0 : floatBits .sub .f64 x N = some d) (e0 : floatBits .sub .f64 x F = some e) (cl : Hid (clampB x most = n)) (c : (-most) ≤ n) (c' : n ≤ most) (d1 : fgt d 13826050856027422720 = true) (d2 : flt d 4602678819172646912 = true) (d3 : feq d 4602678819172646912 = false) (d4 : feq d 13826050856027422720 = false) (e1 : fgt e 0 = true) (e2 : flt e 4607182418800017408 = true) :
    Calls Try.prog 6 #[.float .f64 x, .int .i64 most] w fun e w' => e = .returned (.bool true) ∧ ∃ n, w' = w.drewN n := by
  have cn := fun (w : World) => run_convert_int_float (P := Try.prog) w 2 24 .i64 .f64 n (by kernel_rfl) (by kernel_rfl)
  have cf := fun (w : World) => run_convert_int_float (P := Try.prog) w 2 24 .i64 .f64 f (by kernel_rfl) (by kernel_rfl)
  rw [n1] at cn
  rw [f1] at cf
  have sd := fun (t : TypeId) (w : World) => run_float_arith (P := Try.prog) w .sub t .f64 x N d d0
  have se := fun (t : TypeId) (w : World) => run_float_arith (P := Try.prog) w .sub t .f64 x F e e0
  clear n1 f1 d0 e0
  go_enter Try.func6, Try.ntmps6
  go_wp2_with fail
  refine (awake_any _).mono ?_
  rintro e w' ⟨rfl, k, rfl⟩
  go_wp2_with fail
  refine (round_at x n true _ hx a1.out a2.out).mono ?_
  rintro e w' ⟨rfl, k, rfl⟩
  go_wp2_with fail
  refine (floor_at x f true _ hx a3.out a4.out).mono ?_
  rintro e w' ⟨rfl, k, rfl⟩
  go_wp2_with fail
  refine (clamp_at x most n _ hx m1 cl.out).mono ?_
  rintro e w' ⟨rfl, k, rfl⟩
  go_wp2
  go_ret
  exact ⟨rfl, _, rfl⟩

set_option maxHeartbeats 2000000 in
theorem ininoqB (x : Nat) (most : Int) (w : World) (hx : x < 18446744073709551616) (c0 : ¬ most < 0) (m1 : most ≤ 9223372036854775807) (n f : Int) (a1 : Hid (cI .even x = n)) (a2 : Hid (cOk .even x = true)) (a3 : Hid (cI .down x = f)) (a4 : Hid (cOk .down x = true)) (g1 : (fgt x 14114281232179134464 || feq x 14114281232179134464) = true) (g2 : flt x 4890909195324358656 = true) (N F d e : Nat) (n1 : floatOfInt .f64 n = N) (f1 : floatOfInt .f64 f = F) (d0 : floatBits .sub .f64 x N = some d) (e0 : floatBits .sub .f64 x F = some e) (cl : Hid (clampB x most = n)) (c : (-most) ≤ n) (c' : n ≤ most) (d1 : fgt d 13826050856027422720 = true) (d2 : flt d 4602678819172646912 = true) (d3 : feq d 4602678819172646912 = false) (d4 : feq d 13826050856027422720 = false) (e1 : fgt e 0 = true) (e2 : flt e 4607182418800017408 = false) (e3 : feq e 4607182418800017408 = true) (e4 : flt x 0 = true) (e5 : fgt x 13830554455654793216 = true) :
    Calls Try.prog 6 #[.float .f64 x, .int .i64 most] w fun e w' => e = .returned (.bool true) ∧ ∃ n, w' = w.drewN n := by
  have cn := fun (w : World) => run_convert_int_float (P := Try.prog) w 2 24 .i64 .f64 n (by kernel_rfl) (by kernel_rfl)
  have cf := fun (w : World) => run_convert_int_float (P := Try.prog) w 2 24 .i64 .f64 f (by kernel_rfl) (by kernel_rfl)
  rw [n1] at cn
  rw [f1] at cf
  have sd := fun (t : TypeId) (w : World) => run_float_arith (P := Try.prog) w .sub t .f64 x N d d0
  have se := fun (t : TypeId) (w : World) => run_float_arith (P := Try.prog) w .sub t .f64 x F e e0
  clear n1 f1 d0 e0
  go_enter Try.func6, Try.ntmps6
  go_wp2_with fail
  refine (awake_any _).mono ?_
  rintro e w' ⟨rfl, k, rfl⟩
  go_wp2_with fail
  refine (round_at x n true _ hx a1.out a2.out).mono ?_
  rintro e w' ⟨rfl, k, rfl⟩
  go_wp2_with fail
  refine (floor_at x f true _ hx a3.out a4.out).mono ?_
  rintro e w' ⟨rfl, k, rfl⟩
  go_wp2_with fail
  refine (clamp_at x most n _ hx m1 cl.out).mono ?_
  rintro e w' ⟨rfl, k, rfl⟩
  go_wp2
  go_ret
  exact ⟨rfl, _, rfl⟩

end Go.Proofs.Ytpncpbpdbdlamaa.convWholeDone
