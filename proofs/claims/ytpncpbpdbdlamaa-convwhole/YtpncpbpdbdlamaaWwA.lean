/-
  The ways through the statement on Round, Floor and Clamp, for the most below 0: walks over the program.
-/
import Derived.Test.YtpncpbpdbdlamaaWk
namespace Go.Proofs.Ytpncpbpdbdlamaa.convWholeDone
open Go.RowKit Tf
attribute [local go_sem] run_bits run_from raw_feq raw_fne raw_flt raw_fgt run_neg

set_option maxHeartbeats 2000000 in
theorem onanA (x : Nat) (most : Int) (w : World) (hx : x < 18446744073709551616) (c0 : most < 0) (a1 : Hid (cI .even x = 0)) (a2 : Hid (cOk .even x = false)) (a3 : Hid (cI .down x = 0)) (a4 : Hid (cOk .down x = false)) (g1 : fgt x 14114281232179134464 = false) (g2 : feq x 14114281232179134464 = false) (s1 : fgt x 0 = false) (s2 : flt x 0 = false) (cl : Hid (clampB x 0 = 0)) :
    Calls Try.prog 6 #[.float .f64 x, .int .i64 most] w fun e w' => e = .returned (.bool true) ∧ ∃ n, w' = w.drewN n := by
  go_enter Try.func6, Try.ntmps6
  go_wp2_with fail
  refine (awake_any _).mono ?_
  rintro e w' ⟨rfl, k, rfl⟩
  go_wp2_with fail
  refine (round_at x 0 false _ hx a1.out a2.out).mono ?_
  rintro e w' ⟨rfl, k, rfl⟩
  go_wp2_with fail
  refine (floor_at x 0 false _ hx a3.out a4.out).mono ?_
  rintro e w' ⟨rfl, k, rfl⟩
  go_wp2_with fail
  refine (clamp_at x 0 0 _ hx (by decide) cl.out).mono ?_
  rintro e w' ⟨rfl, k, rfl⟩
  go_wp2
  go_ret
  exact ⟨rfl, _, rfl⟩

set_option maxHeartbeats 2000000 in
theorem oposA (x : Nat) (most : Int) (w : World) (hx : x < 18446744073709551616) (c0 : most < 0) (a1 : Hid (cI .even x = 0)) (a2 : Hid (cOk .even x = false)) (a3 : Hid (cI .down x = 0)) (a4 : Hid (cOk .down x = false)) (g1 : (fgt x 14114281232179134464 || feq x 14114281232179134464) = true) (g2 : flt x 4890909195324358656 = false) (s1 : fgt x 0 = true) (s2 : flt x 0 = false) (cl : Hid (clampB x 0 = 0)) :
    Calls Try.prog 6 #[.float .f64 x, .int .i64 most] w fun e w' => e = .returned (.bool true) ∧ ∃ n, w' = w.drewN n := by
  go_enter Try.func6, Try.ntmps6
  go_wp2_with fail
  refine (awake_any _).mono ?_
  rintro e w' ⟨rfl, k, rfl⟩
  go_wp2_with fail
  refine (round_at x 0 false _ hx a1.out a2.out).mono ?_
  rintro e w' ⟨rfl, k, rfl⟩
  go_wp2_with fail
  refine (floor_at x 0 false _ hx a3.out a4.out).mono ?_
  rintro e w' ⟨rfl, k, rfl⟩
  go_wp2_with fail
  refine (clamp_at x 0 0 _ hx (by decide) cl.out).mono ?_
  rintro e w' ⟨rfl, k, rfl⟩
  go_wp2
  go_ret
  exact ⟨rfl, _, rfl⟩

set_option maxHeartbeats 2000000 in
theorem onegA (x : Nat) (most : Int) (w : World) (hx : x < 18446744073709551616) (c0 : most < 0) (a1 : Hid (cI .even x = 0)) (a2 : Hid (cOk .even x = false)) (a3 : Hid (cI .down x = 0)) (a4 : Hid (cOk .down x = false)) (g1 : fgt x 14114281232179134464 = false) (g2 : feq x 14114281232179134464 = false) (s1 : fgt x 0 = false) (s2 : flt x 0 = true) (cl : Hid (clampB x 0 = 0)) :
    Calls Try.prog 6 #[.float .f64 x, .int .i64 most] w fun e w' => e = .returned (.bool true) ∧ ∃ n, w' = w.drewN n := by
  go_enter Try.func6, Try.ntmps6
  go_wp2_with fail
  refine (awake_any _).mono ?_
  rintro e w' ⟨rfl, k, rfl⟩
  go_wp2_with fail
  refine (round_at x 0 false _ hx a1.out a2.out).mono ?_
  rintro e w' ⟨rfl, k, rfl⟩
  go_wp2_with fail
  refine (floor_at x 0 false _ hx a3.out a4.out).mono ?_
  rintro e w' ⟨rfl, k, rfl⟩
  go_wp2_with fail
  refine (clamp_at x 0 0 _ hx (by decide) cl.out).mono ?_
  rintro e w' ⟨rfl, k, rfl⟩
  go_wp2
  go_ret
  exact ⟨rfl, _, rfl⟩

set_option maxHeartbeats 2000000 in
theorem inloHzA (x : Nat) (most : Int) (w : World) (hx : x < 18446744073709551616) (c0 : most < 0) (n f : Int) (a1 : Hid (cI .even x = n)) (a2 : Hid (cOk .even x = true)) (a3 : Hid (cI .down x = f)) (a4 : Hid (cOk .down x = true)) (g1 : (fgt x 14114281232179134464 || feq x 14114281232179134464) = true) (g2 : flt x 4890909195324358656 = true) (N F d e : Nat) (n1 : floatOfInt .f64 n = N) (f1 : floatOfInt .f64 f = F) (d0 : floatBits .sub .f64 x N = some d) (e0 : floatBits .sub .f64 x F = some e) (cl : Hid (clampB x 0 = 0)) (c : n < 0) (d1 : fgt d 13826050856027422720 = true) (d2 : flt d 4602678819172646912 = false) (d3 : feq d 4602678819172646912 = true) (ev : n.tmod 2 = 0) (e1 : fgt e 0 = false) (e3 : feq e 0 = true) (e2 : flt e 4607182418800017408 = true) :
    Calls Try.prog 6 #[.float .f64 x, .int .i64 most] w fun e w' => e = .returned (.bool true) ∧ ∃ n, w' = w.drewN n := by
  have cn := fun (w : World) => run_convert_int_float (P := Try.prog) w 2 24 .i64 .f64 n (by kernel_rfl) (by kernel_rfl)
  have cf := fun (w : World) => run_convert_int_float (P := Try.prog) w 2 24 .i64 .f64 f (by kernel_rfl) (by kernel_rfl)
  rw [n1] at cn
  rw [f1] at cf
  have sd := fun (t : TypeId) (w : World) => run_float_arith (P := Try.prog) w .sub t .f64 x N d d0
  have se := fun (t : TypeId) (w : World) => run_float_arith (P := Try.prog) w .sub t .f64 x F e e0
  clear n1 f1 d0 e0
  go_enter Try.func6, Try.ntmps6
  go_wp2_with fail
  refine (awake_any _).mono ?_
  rintro e w' ⟨rfl, k, rfl⟩
  go_wp2_with fail
  refine (round_at x n true _ hx a1.out a2.out).mono ?_
  rintro e w' ⟨rfl, k, rfl⟩
  go_wp2_with fail
  refine (floor_at x f true _ hx a3.out a4.out).mono ?_
  rintro e w' ⟨rfl, k, rfl⟩
  go_wp2_with fail
  refine (clamp_at x 0 0 _ hx (by decide) cl.out).mono ?_
  rintro e w' ⟨rfl, k, rfl⟩
  go_wp2
  go_ret
  exact ⟨rfl, _, rfl⟩

set_option maxHeartbeats 2000000 in
theorem inloHlA (x : Nat) (most : Int) (w : World) (hx : x < 18446744073709551616) (c0 : most < 0) (n f : Int) (a1 : Hid (cI .even x = n)) (a2 : Hid (cOk .even x = true)) (a3 : Hid (cI .down x = f)) (a4 : Hid (cOk .down x = true)) (g1 : (fgt x 14114281232179134464 || feq x 14114281232179134464) = true) (g2 : flt x 4890909195324358656 = true) (N F d e : Nat) (n1 : floatOfInt .f64 n = N) (f1 : floatOfInt .f64 f = F) (d0 : floatBits .sub .f64 x N = some d) (e0 : floatBits .sub .f64 x F = some e) (cl : Hid (clampB x 0 = 0)) (c : n < 0) (d1 : fgt d 13826050856027422720 = true) (d2 : flt d 4602678819172646912 = false) (d3 : feq d 4602678819172646912 = true) (ev : n.tmod 2 = 0) (e1 : fgt e 0 = true) (e2 : flt e 4607182418800017408 = true) :
    Calls Try.prog 6 #[.float .f64 x, .int .i64 most] w fun e w' => e = .returned (.bool true) ∧ ∃ n, w' = w.drewN n := by
  have cn := fun (w : World) => run_convert_int_float (P := Try.prog) w 2 24 .i64 .f64 n (by kernel_rfl) (by kernel_rfl)
  have cf := fun (w : World) => run_convert_int_float (P := Try.prog) w 2 24 .i64 .f64 f (by kernel_rfl) (by kernel_rfl)
  rw [n1] at cn
  rw [f1] at cf
  have sd := fun (t : TypeId) (w : World) => run_float_arith (P := Try.prog) w .sub t .f64 x N d d0
  have se := fun (t : TypeId) (w : World) => run_float_arith (P := Try.prog) w .sub t .f64 x F e e0
  clear n1 f1 d0 e0
  go_enter Try.func6, Try.ntmps6
  go_wp2_with fail
  refine (awake_any _).mono ?_
  rintro e w' ⟨rfl, k, rfl⟩
  go_wp2_with fail
  refine (round_at x n true _ hx a1.out a2.out).mono ?_
  rintro e w' ⟨rfl, k, rfl⟩
  go_wp2_with fail
  refine (floor_at x f true _ hx a3.out a4.out).mono ?_
  rintro e w' ⟨rfl, k, rfl⟩
  go_wp2_with fail
  refine (clamp_at x 0 0 _ hx (by decide) cl.out).mono ?_
  rintro e w' ⟨rfl, k, rfl⟩
  go_wp2
  go_ret
  exact ⟨rfl, _, rfl⟩

set_option maxHeartbeats 2000000 in
theorem inloHqA (x : Nat) (most : Int) (w : World) (hx : x < 18446744073709551616) (c0 : most < 0) (n f : Int) (a1 : Hid (cI .even x = n)) (a2 : Hid (cOk .even x = true)) (a3 : Hid (cI .down x = f)) (a4 : Hid (cOk .down x = true)) (g1 : (fgt x 14114281232179134464 || feq x 14114281232179134464) = true) (g2 : flt x 4890909195324358656 = true) (N F d e : Nat) (n1 : floatOfInt .f64 n = N) (f1 : floatOfInt .f64 f = F) (d0 : floatBits .sub .f64 x N = some d) (e0 : floatBits .sub .f64 x F = some e) (cl : Hid (clampB x 0 = 0)) (c : n < 0) (d1 : fgt d 13826050856027422720 = true) (d2 : flt d 4602678819172646912 = false) (d3 : feq d 4602678819172646912 = true) (ev : n.tmod 2 = 0) (e1 : fgt e 0 = true) (e2 : flt e 4607182418800017408 = false) (e3 : feq e 4607182418800017408 = true) (e4 : flt x 0 = true) (e5 : fgt x 13830554455654793216 = true) :
    Calls Try.prog 6 #[.float .f64 x, .int .i64 most] w fun e w' => e = .returned (.bool true) ∧ ∃ n, w' = w.drewN n := by
  have cn := fun (w : World) => run_convert_int_float (P := Try.prog) w 2 24 .i64 .f64 n (by kernel_rfl) (by kernel_rfl)
  have cf := fun (w : World) => run_convert_int_float (P := Try.prog) w 2 24 .i64 .f64 f (by kernel_rfl) (by kernel_rfl)
  rw [n1] at cn
  rw [f1] at cf
  have sd := fun (t : TypeId) (w : World) => run_float_arith (P := Try.prog) w .sub t .f64 x N d d0
  have se := fun (t : TypeId) (w : World) => run_float_arith (P := Try.prog) w .sub t .f64 x F e e0
  clear n1 f1 d0 e0
  go_enter Try.func6, Try.ntmps6
  go_wp2_with fail
  refine (awake_any _).mono ?_
  rintro e w' ⟨rfl, k, rfl⟩
  go_wp2_with fail
  refine (round_at x n true _ hx a1.out a2.out).mono ?_
  rintro e w' ⟨rfl, k, rfl⟩
  go_wp2_with fail
  refine (floor_at x f true _ hx a3.out a4.out).mono ?_
  rintro e w' ⟨rfl, k, rfl⟩
  go_wp2_with fail
  refine (clamp_at x 0 0 _ hx (by decide) cl.out).mono ?_
  rintro e w' ⟨rfl, k, rfl⟩
  go_wp2
  go_ret
  exact ⟨rfl, _, rfl⟩

set_option maxHeartbeats 2000000 in
theorem inloNzA (x : Nat) (most : Int) (w : World) (hx : x < 18446744073709551616) (c0 : most < 0) (n f : Int) (a1 : Hid (cI .even x = n)) (a2 : Hid (cOk .even x = true)) (a3 : Hid (cI .down x = f)) (a4 : Hid (cOk .down x = true)) (g1 : (fgt x 14114281232179134464 || feq x 14114281232179134464) = true) (g2 : flt x 4890909195324358656 = true) (N F d e : Nat) (n1 : floatOfInt .f64 n = N) (f1 : floatOfInt .f64 f = F) (d0 : floatBits .sub .f64 x N = some d) (e0 : floatBits .sub .f64 x F = some e) (cl : Hid (clampB x 0 = 0)) (c : n < 0) (d1 : fgt d 13826050856027422720 = false) (d2 : flt d 4602678819172646912 = true) (d3 : feq d 4602678819172646912 = false) (d4 : feq d 13826050856027422720 = true) (ev : n.tmod 2 = 0) (e1 : fgt e 0 = false) (e3 : feq e 0 = true) (e2 : flt e 4607182418800017408 = true) :
    Calls Try.prog 6 #[.float .f64 x, .int .i64 most] w fun e w' => e = .returned (.bool true) ∧ ∃ n, w' = w.drewN n := by
  have cn := fun (w : World) => run_convert_int_float (P := Try.prog) w 2 24 .i64 .f64 n (by kernel_rfl) (by kernel_rfl)
  have cf := fun (w : World) => run_convert_int_float (P := Try.prog) w 2 24 .i64 .f64 f (by kernel_rfl) (by kernel_rfl)
  rw [n1] at cn
  rw [f1] at cf
  have sd := fun (t : TypeId) (w : World) => run_float_arith (P := Try.prog) w .sub t .f64 x N d d0
  have se := fun (t : TypeId) (w : World) => run_float_arith (P := Try.prog) w .sub t .f64 x F e e0
  clear n1 f1 d0 e0
  go_enter Try.func6, Try.ntmps6
  go_wp2_with fail
  refine (awake_any _).mono ?_
  rintro e w' ⟨rfl, k, rfl⟩
  go_wp2_with fail
  refine (round_at x n true _ hx a1.out a2.out).mono ?_
  rintro e w' ⟨rfl, k, rfl⟩
  go_wp2_with fail
  refine (floor_at x f true _ hx a3.out a4.out).mono ?_
  rintro e w' ⟨rfl, k, rfl⟩
  go_wp2_with fail
  refine (clamp_at x 0 0 _ hx (by decide) cl.out).mono ?_
  rintro e w' ⟨rfl, k, rfl⟩
  go_wp2
  go_ret
  exact ⟨rfl, _, rfl⟩

set_option maxHeartbeats 2000000 in
theorem inloNlA (x : Nat) (most : Int) (w : World) (hx : x < 18446744073709551616) (c0 : most < 0) (n f : Int) (a1 : Hid (cI .even x = n)) (a2 : Hid (cOk .even x = true)) (a3 : Hid (cI .down x = f)) (a4 : Hid (cOk .down x = true)) (g1 : (fgt x 14114281232179134464 || feq x 14114281232179134464) = true) (g2 : flt x 4890909195324358656 = true) (N F d e : Nat) (n1 : floatOfInt .f64 n = N) (f1 : floatOfInt .f64 f = F) (d0 : floatBits .sub .f64 x N = some d) (e0 : floatBits .sub .f64 x F = some e) (cl : Hid (clampB x 0 = 0)) (c : n < 0) (d1 : fgt d 13826050856027422720 = false) (d2 : flt d 4602678819172646912 = true) (d3 : feq d 4602678819172646912 = false) (d4 : feq d 13826050856027422720 = true) (ev : n.tmod 2 = 0) (e1 : fgt e 0 = true) (e2 : flt e 4607182418800017408 = true) :
    Calls Try.prog 6 #[.float .f64 x, .int .i64 most] w fun e w' => e = .returned (.bool true) ∧ ∃ n, w' = w.drewN n := by
  have cn := fun (w : World) => run_convert_int_float (P := Try.prog) w 2 24 .i64 .f64 n (by kernel_rfl) (by kernel_rfl)
  have cf := fun (w : World) => run_convert_int_float (P := Try.prog) w 2 24 .i64 .f64 f (by kernel_rfl) (by kernel_rfl)
  rw [n1] at cn
  rw [f1] at cf
  have sd := fun (t : TypeId) (w : World) => run_float_arith (P := Try.prog) w .sub t .f64 x N d d0
  have se := fun (t : TypeId) (w : World) => run_float_arith (P := Try.prog) w .sub t .f64 x F e e0
  clear n1 f1 d0 e0
  go_enter Try.func6, Try.ntmps6
  go_wp2_with fail
  refine (awake_any _).mono ?_
  rintro e w' ⟨rfl, k, rfl⟩
  go_wp2_with fail
  refine (round_at x n true _ hx a1.out a2.out).mono ?_
  rintro e w' ⟨rfl, k, rfl⟩
  go_wp2_with fail
  refine (floor_at x f true _ hx a3.out a4.out).mono ?_
  rintro e w' ⟨rfl, k, rfl⟩
  go_wp2_with fail
  refine (clamp_at x 0 0 _ hx (by decide) cl.out).mono ?_
  rintro e w' ⟨rfl, k, rfl⟩
  go_wp2
  go_ret
  exact ⟨rfl, _, rfl⟩

set_option maxHeartbeats 2000000 in
theorem inloNqA (x : Nat) (most : Int) (w : World) (hx : x < 18446744073709551616) (c0 : most < 0) (n f : Int) (a1 : Hid (cI .even x = n)) (a2 : Hid (cOk .even x = true)) (a3 : Hid (cI .down x = f)) (a4 : Hid (cOk .down x = true)) (g1 : (fgt x 14114281232179134464 || feq x 14114281232179134464) = true) (g2 : flt x 4890909195324358656 = true) (N F d e : Nat) (n1 : floatOfInt .f64 n = N) (f1 : floatOfInt .f64 f = F) (d0 : floatBits .sub .f64 x N = some d) (e0 : floatBits .sub .f64 x F = some e) (cl : Hid (clampB x 0 = 0)) (c : n < 0) (d1 : fgt d 13826050856027422720 = false) (d2 : flt d 4602678819172646912 = true) (d3 : feq d 4602678819172646912 = false) (d4 : feq d 13826050856027422720 = true) (ev : n.tmod 2 = 0) (e1 : fgt e 0 = true) (e2 : flt e 4607182418800017408 = false) (e3 : feq e 4607182418800017408 = true) (e4 : flt x 0 = true) (e5 : fgt x 13830554455654793216 = true) :
    Calls Try.prog 6 #[.float .f64 x, .int .i64 most] w fun e w' => e = .returned (.bool true) ∧ ∃ n, w' = w.drewN n := by
  have cn := fun (w : World) => run_convert_int_float (P := Try.prog) w 2 24 .i64 .f64 n (by kernel_rfl) (by kernel_rfl)
  have cf := fun (w : World) => run_convert_int_float (P := Try.prog) w 2 24 .i64 .f64 f (by kernel_rfl) (by kernel_rfl)
  rw [n1] at cn
  rw [f1] at cf
  have sd := fun (t : TypeId) (w : World) => run_float_arith (P := Try.prog) w .sub t .f64 x N d d0
  have se := fun (t : TypeId) (w : World) => run_float_arith (P := Try.prog) w .sub t .f64 x F e e0
  clear n1 f1 d0 e0
  go_enter Try.func6, Try.ntmps6
  go_wp2_with fail
  refine (awake_any _).mono ?_
  rintro e w' ⟨rfl, k, rfl⟩
  go_wp2_with fail
  refine (round_at x n true _ hx a1.out a2.out).mono ?_
  rintro e w' ⟨rfl, k, rfl⟩
  go_wp2_with fail
  refine (floor_at x f true _ hx a3.out a4.out).mono ?_
  rintro e w' ⟨rfl, k, rfl⟩
  go_wp2_with fail
  refine (clamp_at x 0 0 _ hx (by decide) cl.out).mono ?_
  rintro e w' ⟨rfl, k, rfl⟩
  go_wp2
  go_ret
  exact ⟨rfl, _, rfl⟩

set_option maxHeartbeats 2000000 in
theorem inloozA (x : Nat) (most : Int) (w : World) (hx : x < 18446744073709551616) (c0 : most < 0) (n f : Int) (a1 : Hid (cI .even x = n)) (a2 : Hid (cOk .even x = true)) (a3 : Hid (cI .down x = f)) (a4 : Hid (cOk .down x = true)) (g1 : (fgt x 14114281232179134464 || feq x 14114281232179134464) = true) (g2 : flt x 4890909195324358656 = true) (N F d e : Nat) (n1 : floatOfInt .f64 n = N) (f1 : floatOfInt .f64 f = F) (d0 : floatBits .sub .f64 x N = some d) (e0 : floatBits .sub .f64 x F = some e) (cl : Hid (clampB x 0 = 0)) (c : n < 0) (d1 : fgt d 13826050856027422720 = true) (d2 : flt d 4602678819172646912 = true) (d3 : feq d 4602678819172646912 = false) (d4 : feq d 13826050856027422720 = false) (e1 : fgt e 0 = false) (e3 : feq e 0 = true) (e2 : flt e 4607182418800017408 = true) :
    Calls Try.prog 6 #[.float .f64 x, .int .i64 most] w fun e w' => e = .returned (.bool true) ∧ ∃ n, w' = w.drewN n := by
  have cn := fun (w : World) => run_convert_int_float (P := Try.prog) w 2 24 .i64 .f64 n (by kernel_rfl) (by kernel_rfl)
  have cf := fun (w : World) => run_convert_int_float (P := Try.prog) w 2 24 .i64 .f64 f (by kernel_rfl) (by kernel_rfl)
  rw [n1] at cn
  rw [f1] at cf
  have sd := fun (t : TypeId) (w : World) => run_float_arith (P := Try.prog) w .sub t .f64 x N d d0
  have se := fun (t : TypeId) (w : World) => run_float_arith (P := Try.prog) w .sub t .f64 x F e e0
  clear n1 f1 d0 e0
  go_enter Try.func6, Try.ntmps6
  go_wp2_with fail
  refine (awake_any _).mono ?_
  rintro e w' ⟨rfl, k, rfl⟩
  go_wp2_with fail
  refine (round_at x n true _ hx a1.out a2.out).mono ?_
  rintro e w' ⟨rfl, k, rfl⟩
  go_wp2_with fail
  refine (floor_at x f true _ hx a3.out a4.out).mono ?_
  rintro e w' ⟨rfl, k, rfl⟩
  go_wp2_with fail
  refine (clamp_at x 0 0 _ hx (by decide) cl.out).mono ?_
  rintro e w' ⟨rfl, k, rfl⟩
  go_wp2
  go_ret
  exact ⟨rfl, _, rfl⟩

set_option maxHeartbeats 2000000 in
theorem inloolA (x : Nat) (most : Int) (w : World) (hx : x < 18446744073709551616) (c0 : most < 0) (n f : Int) (a1 : Hid (cI .even x = n)) (a2 : Hid (cOk .even x = true)) (a3 : Hid (cI .down x = f)) (a4 : Hid (cOk .down x = true)) (g1 : (fgt x 14114281232179134464 || feq x 14114281232179134464) = true) (g2 : flt x 4890909195324358656 = true) (N F d e : Nat) (n1 : floatOfInt .f64 n = N) (f1 : floatOfInt .f64 f = F) (d0 : floatBits .sub .f64 x N = some d) (e0 : floatBits .sub .f64 x F = some e) (cl : Hid (clampB x 0 = 0)) (c : n < 0) (d1 : fgt d 13826050856027422720 = true) (d2 : flt d 4602678819172646912 = true) (d3 : feq d 4602678819172646912 = false) (d4 : feq d 13826050856027422720 = false) (e1 : fgt e 0 = true) (e2 : flt e 4607182418800017408 = true) :
    Calls Try.prog 6 #[.float .f64 x, .int .i64 most] w fun e w' => e = .returned (.bool true) ∧ ∃ n, w' = w.drewN n := by
  have cn := fun (w : World) => run_convert_int_float (P := Try.prog) w 2 24 .i64 .f64 n (by kernel_rfl) (by kernel_rfl)
  have cf := fun (w : World) => run_convert_int_float (P := Try.prog) w 2 24 .i64 .f64 f (by kernel_rfl) (by kernel_rfl)
  rw [n1] at cn
  rw [f1] at cf
  have sd := fun (t : TypeId) (w : World) => run_float_arith (P := Try.prog) w .sub t .f64 x N d d0
  have se := fun (t : TypeId) (w : World) => run_float_arith (P := Try.prog) w .sub t .f64 x F e e0
  clear n1 f1 d0 e0
  go_enter Try.func6, Try.ntmps6
  go_wp2_with fail
  refine (awake_any _).mono ?_
  rintro e w' ⟨rfl, k, rfl⟩
  go_wp2_with fail
  refine (round_at x n true _ hx a1.out a2.out).mono ?_
  rintro e w' ⟨rfl, k, rfl⟩
  go_wp2_with fail
  refine (floor_at x f true _ hx a3.out a4.out).mono ?_
  rintro e w' ⟨rfl, k, rfl⟩
  go_wp2_with fail
  refine (clamp_at x 0 0 _ hx (by decide) cl.out).mono ?_
  rintro e w' ⟨rfl, k, rfl⟩
  go_wp2
  go_ret
  exact ⟨rfl, _, rfl⟩

set_option maxHeartbeats 2000000 in
theorem inlooqA (x : Nat) (most : Int) (w : World) (hx : x < 18446744073709551616) (c0 : most < 0) (n f : Int) (a1 : Hid (cI .even x = n)) (a2 : Hid (cOk .even x = true)) (a3 : Hid (cI .down x = f)) (a4 : Hid (cOk .down x = true)) (g1 : (fgt x 14114281232179134464 || feq x 14114281232179134464) = true) (g2 : flt x 4890909195324358656 = true) (N F d e : Nat) (n1 : floatOfInt .f64 n = N) (f1 : floatOfInt .f64 f = F) (d0 : floatBits .sub .f64 x N = some d) (e0 : floatBits .sub .f64 x F = some e) (cl : Hid (clampB x 0 = 0)) (c : n < 0) (d1 : fgt d 13826050856027422720 = true) (d2 : flt d 4602678819172646912 = true) (d3 : feq d 4602678819172646912 = false) (d4 : feq d 13826050856027422720 = false) (e1 : fgt e 0 = true) (e2 : flt e 4607182418800017408 = false) (e3 : feq e 4607182418800017408 = true) (e4 : flt x 0 = true) (e5 : fgt x 13830554455654793216 = true) :
    Calls Try.prog 6 #[.float .f64 x, .int .i64 most] w fun e w' => e = .returned (.bool true) ∧ ∃ n, w' = w.drewN n := by
  have cn := fun (w : World) => run_convert_int_float (P := Try.prog) w 2 24 .i64 .f64 n (by kernel_rfl) (by kernel_rfl)
  have cf := fun (w : World) => run_convert_int_float (P := Try.prog) w 2 24 .i64 .f64 f (by kernel_rfl) (by kernel_rfl)
  rw [n1] at cn
  rw [f1] at cf
  have sd := fun (t : TypeId) (w : World) => run_float_arith (P := Try.prog) w .sub t .f64 x N d d0
  have se := fun (t : TypeId) (w : World) => run_float_arith (P := Try.prog) w .sub t .f64 x F e e0
  clear n1 f1 d0 e0
  go_enter Try.func6, Try.ntmps6
  go_wp2_with fail
  refine (awake_any _).mono ?_
  rintro e w' ⟨rfl, k, rfl⟩
  go_wp2_with fail
  refine (round_at x n true _ hx a1.out a2.out).mono ?_
  rintro e w' ⟨rfl, k, rfl⟩
  go_wp2_with fail
  refine (floor_at x f true _ hx a3.out a4.out).mono ?_
  rintro e w' ⟨rfl, k, rfl⟩
  go_wp2_with fail
  refine (clamp_at x 0 0 _ hx (by decide) cl.out).mono ?_
  rintro e w' ⟨rfl, k, rfl⟩
  go_wp2
  go_ret
  exact ⟨rfl, _, rfl⟩

set_option maxHeartbeats 2000000 in
theorem inhiHzA (x : Nat) (most : Int) (w : World) (hx : x < 18446744073709551616) (c0 : most < 0) (n f : Int) (a1 : Hid (cI .even x = n)) (a2 : Hid (cOk .even x = true)) (a3 : Hid (cI .down x = f)) (a4 : Hid (cOk .down x = true)) (g1 : (fgt x 14114281232179134464 || feq x 14114281232179134464) = true) (g2 : flt x 4890909195324358656 = true) (N F d e : Nat) (n1 : floatOfInt .f64 n = N) (f1 : floatOfInt .f64 f = F) (d0 : floatBits .sub .f64 x N = some d) (e0 : floatBits .sub .f64 x F = some e) (cl : Hid (clampB x 0 = 0)) (c : 0 < n) (d1 : fgt d 13826050856027422720 = true) (d2 : flt d 4602678819172646912 = false) (d3 : feq d 4602678819172646912 = true) (ev : n.tmod 2 = 0) (e1 : fgt e 0 = false) (e3 : feq e 0 = true) (e2 : flt e 4607182418800017408 = true) :
    Calls Try.prog 6 #[.float .f64 x, .int .i64 most] w fun e w' => e = .returned (.bool true) ∧ ∃ n, w' = w.drewN n := by
  have cn := fun (w : World) => run_convert_int_float (P := Try.prog) w 2 24 .i64 .f64 n (by kernel_rfl) (by kernel_rfl)
  have cf := fun (w : World) => run_convert_int_float (P := Try.prog) w 2 24 .i64 .f64 f (by kernel_rfl) (by kernel_rfl)
  rw [n1] at cn
  rw [f1] at cf
  have sd := fun (t : TypeId) (w : World) => run_float_arith (P := Try.prog) w .sub t .f64 x N d d0
  have se := fun (t : TypeId) (w : World) => run_float_arith (P := Try.prog) w .sub t .f64 x F e e0
  clear n1 f1 d0 e0
  go_enter Try.func6, Try.ntmps6
  go_wp2_with fail
  refine (awake_any _).mono ?_
  rintro e w' ⟨rfl, k, rfl⟩
  go_wp2_with fail
  refine (round_at x n true _ hx a1.out a2.out).mono ?_
  rintro e w' ⟨rfl, k, rfl⟩
  go_wp2_with fail
  refine (floor_at x f true _ hx a3.out a4.out).mono ?_
  rintro e w' ⟨rfl, k, rfl⟩
  go_wp2_with fail
  refine (clamp_at x 0 0 _ hx (by decide) cl.out).mono ?_
  rintro e w' ⟨rfl, k, rfl⟩
  go_wp2
  go_ret
  exact ⟨rfl, _, rfl⟩

set_option maxHeartbeats 2000000 in
theorem inhiHlA (x : Nat) (most : Int) (w : World) (hx : x < 18446744073709551616) (c0 : most < 0) (n f : Int) (a1 : Hid (cI .even x = n)) (a2 : Hid (cOk .even x = true)) (a3 : Hid (cI .down x = f)) (a4 : Hid (cOk .down x = true)) (g1 : (fgt x 14114281232179134464 || feq x 14114281232179134464) = true) (g2 : flt x 4890909195324358656 = true) (N F d e : Nat) (n1 : floatOfInt .f64 n = N) (f1 : floatOfInt .f64 f = F) (d0 : floatBits .sub .f64 x N = some d) (e0 : floatBits .sub .f64 x F = some e) (cl : Hid (clampB x 0 = 0)) (c : 0 < n) (d1 : fgt d 13826050856027422720 = true) (d2 : flt d 4602678819172646912 = false) (d3 : feq d 4602678819172646912 = true) (ev : n.tmod 2 = 0) (e1 : fgt e 0 = true) (e2 : flt e 4607182418800017408 = true) :
    Calls Try.prog 6 #[.float .f64 x, .int .i64 most] w fun e w' => e = .returned (.bool true) ∧ ∃ n, w' = w.drewN n := by
  have cn := fun (w : World) => run_convert_int_float (P := Try.prog) w 2 24 .i64 .f64 n (by kernel_rfl) (by kernel_rfl)
  have cf := fun (w : World) => run_convert_int_float (P := Try.prog) w 2 24 .i64 .f64 f (by kernel_rfl) (by kernel_rfl)
  rw [n1] at cn
  rw [f1] at cf
  have sd := fun (t : TypeId) (w : World) => run_float_arith (P := Try.prog) w .sub t .f64 x N d d0
  have se := fun (t : TypeId) (w : World) => run_float_arith (P := Try.prog) w .sub t .f64 x F e e0
  clear n1 f1 d0 e0
  go_enter Try.func6, Try.ntmps6
  go_wp2_with fail
  refine (awake_any _).mono ?_
  rintro e w' ⟨rfl, k, rfl⟩
  go_wp2_with fail
  refine (round_at x n true _ hx a1.out a2.out).mono ?_
  rintro e w' ⟨rfl, k, rfl⟩
  go_wp2_with fail
  refine (floor_at x f true _ hx a3.out a4.out).mono ?_
  rintro e w' ⟨rfl, k, rfl⟩
  go_wp2_with fail
  refine (clamp_at x 0 0 _ hx (by decide) cl.out).mono ?_
  rintro e w' ⟨rfl, k, rfl⟩
  go_wp2
  go_ret
  exact ⟨rfl, _, rfl⟩

set_option maxHeartbeats 2000000 in
theorem inhiHqA (x : Nat) (most : Int) (w : World) (hx : x < 18446744073709551616) (c0 : most < 0) (n f : Int) (a1 : Hid (cI .even x = n)) (a2 : Hid (cOk .even x = true)) (a3 : Hid (cI .down x = f)) (a4 : Hid (cOk .down x = true)) (g1 : (fgt x 14114281232179134464 || feq x 14114281232179134464) = true) (g2 : flt x 4890909195324358656 = true) (N F d e : Nat) (n1 : floatOfInt .f64 n = N) (f1 : floatOfInt .f64 f = F) (d0 : floatBits .sub .f64 x N = some d) (e0 : floatBits .sub .f64 x F = some e) (cl : Hid (clampB x 0 = 0)) (c : 0 < n) (d1 : fgt d 13826050856027422720 = true) (d2 : flt d 4602678819172646912 = false) (d3 : feq d 4602678819172646912 = true) (ev : n.tmod 2 = 0) (e1 : fgt e 0 = true) (e2 : flt e 4607182418800017408 = false) (e3 : feq e 4607182418800017408 = true) (e4 : flt x 0 = true) (e5 : fgt x 13830554455654793216 = true) :
    Calls Try.prog 6 #[.float .f64 x, .int .i64 most] w fun e w' => e = .returned (.bool true) ∧ ∃ n, w' = w.drewN n := by
  have cn := fun (w : World) => run_convert_int_float (P := Try.prog) w 2 24 .i64 .f64 n (by kernel_rfl) (by kernel_rfl)
  have cf := fun (w : World) => run_convert_int_float (P := Try.prog) w 2 24 .i64 .f64 f (by kernel_rfl) (by kernel_rfl)
  rw [n1] at cn
  rw [f1] at cf
  have sd := fun (t : TypeId) (w : World) => run_float_arith (P := Try.prog) w .sub t .f64 x N d d0
  have se := fun (t : TypeId) (w : World) => run_float_arith (P := Try.prog) w .sub t .f64 x F e e0
  clear n1 f1 d0 e0
  go_enter Try.func6, Try.ntmps6
  go_wp2_with fail
  refine (awake_any _).mono ?_
  rintro e w' ⟨rfl, k, rfl⟩
  go_wp2_with fail
  refine (round_at x n true _ hx a1.out a2.out).mono ?_
  rintro e w' ⟨rfl, k, rfl⟩
  go_wp2_with fail
  refine (floor_at x f true _ hx a3.out a4.out).mono ?_
  rintro e w' ⟨rfl, k, rfl⟩
  go_wp2_with fail
  refine (clamp_at x 0 0 _ hx (by decide) cl.out).mono ?_
  rintro e w' ⟨rfl, k, rfl⟩
  go_wp2
  go_ret
  exact ⟨rfl, _, rfl⟩

set_option maxHeartbeats 2000000 in
theorem inhiNzA (x : Nat) (most : Int) (w : World) (hx : x < 18446744073709551616) (c0 : most < 0) (n f : Int) (a1 : Hid (cI .even x = n)) (a2 : Hid (cOk .even x = true)) (a3 : Hid (cI .down x = f)) (a4 : Hid (cOk .down x = true)) (g1 : (fgt x 14114281232179134464 || feq x 14114281232179134464) = true) (g2 : flt x 4890909195324358656 = true) (N F d e : Nat) (n1 : floatOfInt .f64 n = N) (f1 : floatOfInt .f64 f = F) (d0 : floatBits .sub .f64 x N = some d) (e0 : floatBits .sub .f64 x F = some e) (cl : Hid (clampB x 0 = 0)) (c : 0 < n) (d1 : fgt d 13826050856027422720 = false) (d2 : flt d 4602678819172646912 = true) (d3 : feq d 4602678819172646912 = false) (d4 : feq d 13826050856027422720 = true) (ev : n.tmod 2 = 0) (e1 : fgt e 0 = false) (e3 : feq e 0 = true) (e2 : flt e 4607182418800017408 = true) :
    Calls Try.prog 6 #[.float .f64 x, .int .i64 most] w fun e w' => e = .returned (.bool true) ∧ ∃ n, w' = w.drewN n := by
  have cn := fun (w : World) => run_convert_int_float (P := Try.prog) w 2 24 .i64 .f64 n (by kernel_rfl) (by kernel_rfl)
  have cf := fun (w : World) => run_convert_int_float (P := Try.prog) w 2 24 .i64 .f64 f (by kernel_rfl) (by kernel_rfl)
  rw [n1] at cn
  rw [f1] at cf
  have sd := fun (t : TypeId) (w : World) => run_float_arith (P := Try.prog) w .sub t .f64 x N d d0
  have se := fun (t : TypeId) (w : World) => run_float_arith (P := Try.prog) w .sub t .f64 x F e e0
  clear n1 f1 d0 e0
  go_enter Try.func6, Try.ntmps6
  go_wp2_with fail
  refine (awake_any _).mono ?_
  rintro e w' ⟨rfl, k, rfl⟩
  go_wp2_with fail
  refine (round_at x n true _ hx a1.out a2.out).mono ?_
  rintro e w' ⟨rfl, k, rfl⟩
  go_wp2_with fail
  refine (floor_at x f true _ hx a3.out a4.out).mono ?_
  rintro e w' ⟨rfl, k, rfl⟩
  go_wp2_with fail
  refine (clamp_at x 0 0 _ hx (by decide) cl.out).mono ?_
  rintro e w' ⟨rfl, k, rfl⟩
  go_wp2
  go_ret
  exact ⟨rfl, _, rfl⟩

set_option maxHeartbeats 2000000 in
theorem inhiNlA (x : Nat) (most : Int) (w : World) (hx : x < 18446744073709551616) (c0 : most < 0) (n f : Int) (a1 : Hid (cI .even x = n)) (a2 : Hid (cOk .even x = true)) (a3 : Hid (cI .down x = f)) (a4 : Hid (cOk .down x = true)) (g1 : (fgt x 14114281232179134464 || feq x 14114281232179134464) = true) (g2 : flt x 4890909195324358656 = true) (N F d e : Nat) (n1 : floatOfInt .f64 n = N) (f1 : floatOfInt .f64 f = F) (d0 : floatBits .sub .f64 x N = some d) (e0 : floatBits .sub .f64 x F = some e) (cl : Hid (clampB x 0 = 0)) (c : 0 < n) (d1 : fgt d 13826050856027422720 = false) (d2 : flt d 4602678819172646912 = true) (d3 : feq d 4602678819172646912 = false) (d4 : feq d 13826050856027422720 = true) (ev : n.tmod 2 = 0) (e1 : fgt e 0 = true) (e2 : flt e 4607182418800017408 = true) :
    Calls Try.prog 6 #[.float .f64 x, .int .i64 most] w fun e w' => e = .returned (.bool true) ∧ ∃ n, w' = w.drewN n := by
  have cn := fun (w : World) => run_convert_int_float (P := Try.prog) w 2 24 .i64 .f64 n (by kernel_rfl) (by kernel_rfl)
  have cf := fun (w : World) => run_convert_int_float (P := Try.prog) w 2 24 .i64 .f64 f (by kernel_rfl) (by kernel_rfl)
  rw [n1] at cn
  rw [f1] at cf
  have sd := fun (t : TypeId) (w : World) => run_float_arith (P := Try.prog) w .sub t .f64 x N d d0
  have se := fun (t : TypeId) (w : World) => run_float_arith (P := Try.prog) w .sub t .f64 x F e e0
  clear n1 f1 d0 e0
  go_enter Try.func6, Try.ntmps6
  go_wp2_with fail
  refine (awake_any _).mono ?_
  rintro e w' ⟨rfl, k, rfl⟩
  go_wp2_with fail
  refine (round_at x n true _ hx a1.out a2.out).mono ?_
  rintro e w' ⟨rfl, k, rfl⟩
  go_wp2_with fail
  refine (floor_at x f true _ hx a3.out a4.out).mono ?_
  rintro e w' ⟨rfl, k, rfl⟩
  go_wp2_with fail
  refine (clamp_at x 0 0 _ hx (by decide) cl.out).mono ?_
  rintro e w' ⟨rfl, k, rfl⟩
  go_wp2
  go_ret
  exact ⟨rfl, _, rfl⟩

set_option maxHeartbeats 2000000 in
theorem inhiNqA (x : Nat) (most : Int) (w : World) (hx : x < 18446744073709551616) (c0 : most < 0) (n f : Int) (a1 : Hid (cI .even x = n)) (a2 : Hid (cOk .even x = true)) (a3 : Hid (cI .down x = f)) (a4 : Hid (cOk .down x = true)) (g1 : (fgt x 14114281232179134464 || feq x 14114281232179134464) = true) (g2 : flt x 4890909195324358656 = true) (N F d e : Nat) (n1 : floatOfInt .f64 n = N) (f1 : floatOfInt .f64 f = F) (d0 : floatBits .sub .f64 x N = some d) (e0 : floatBits .sub .f64 x F = some e) (cl : Hid (clampB x 0 = 0)) (c : 0 < n) (d1 : fgt d 13826050856027422720 = false) (d2 : flt d 4602678819172646912 = true) (d3 : feq d 4602678819172646912 = false) (d4 : feq d 13826050856027422720 = true) (ev : n.tmod 2 = 0) (e1 : fgt e 0 = true) (e2 : flt e 4607182418800017408 = false) (e3 : feq e 4607182418800017408 = true) (e4 : flt x 0 = true) (e5 : fgt x 13830554455654793216 = true) :
    Calls Try.prog 6 #[.float .f64 x, .int .i64 most] w fun e w' => e = .returned (.bool true) ∧ ∃ n, w' = w.drewN n := by
  have cn := fun (w : World) => run_convert_int_float (P := Try.prog) w 2 24 .i64 .f64 n (by kernel_rfl) (by kernel_rfl)
  have cf := fun (w : World) => run_convert_int_float (P := Try.prog) w 2 24 .i64 .f64 f (by kernel_rfl) (by kernel_rfl)
  rw [n1] at cn
  rw [f1] at cf
  have sd := fun (t : TypeId) (w : World) => run_float_arith (P := Try.prog) w .sub t .f64 x N d d0
  have se := fun (t : TypeId) (w : World) => run_float_arith (P := Try.prog) w .sub t .f64 x F e e0
  clear n1 f1 d0 e0
  go_enter Try.func6, Try.ntmps6
  go_wp2_with fail
  refine (awake_any _).mono ?_
  rintro e w' ⟨rfl, k, rfl⟩
  go_wp2_with fail
  refine (round_at x n true _ hx a1.out a2.out).mono ?_
  rintro e w' ⟨rfl, k, rfl⟩
  go_wp2_with fail
  refine (floor_at x f true _ hx a3.out a4.out).mono ?_
  rintro e w' ⟨rfl, k, rfl⟩
  go_wp2_with fail
  refine (clamp_at x 0 0 _ hx (by decide) cl.out).mono ?_
  rintro e w' ⟨rfl, k, rfl⟩
  go_wp2
  go_ret
  exact ⟨rfl, _, rfl⟩

set_option maxHeartbeats 2000000 in
theorem inhiozA (x : Nat) (most : Int) (w : World) (hx : x < 18446744073709551616) (c0 : most < 0) (n f : Int) (a1 : Hid (cI .even x = n)) (a2 : Hid (cOk .even x = true)) (a3 : Hid (cI .down x = f)) (a4 : Hid (cOk .down x = true)) (g1 : (fgt x 14114281232179134464 || feq x 14114281232179134464) = true) (g2 : flt x 4890909195324358656 = true) (N F d e : Nat) (n1 : floatOfInt .f64 n = N) (f1 : floatOfInt .f64 f = F) (d0 : floatBits .sub .f64 x N = some d) (e0 : floatBits .sub .f64 x F = some e) (cl : Hid (clampB x 0 = 0)) (c : 0 < n) (d1 : fgt d 13826050856027422720 = true) (d2 : flt d 4602678819172646912 = true) (d3 : feq d 4602678819172646912 = false) (d4 : feq d 13826050856027422720 = false) (e1 : fgt e 0 = false) (e3 : feq e 0 = true) (e2 : flt e 4607182418800017408 = true) :
    Calls Try.prog 6 #[.float .f64 x, .int .i64 most] w fun e w' => e = .returned (.bool true) ∧ ∃ n, w' = w.drewN n := by
  have cn := fun (w : World) => run_convert_int_float (P := Try.prog) w 2 24 .i64 .f64 n (by kernel_rfl) (by kernel_rfl)
  have cf := fun (w : World) => run_convert_int_float (P := Try.prog) w 2 24 .i64 .f64 f (by kernel_rfl) (by kernel_rfl)
  rw [n1] at cn
  rw [f1] at cf
  have sd := fun (t : TypeId) (w : World) => run_float_arith (P := Try.prog) w .sub t .f64 x N d d0
  have se := fun (t : TypeId) (w : World) => run_float_arith (P := Try.prog) w .sub t .f64 x F e e0
  clear n1 f1 d0 e0
  go_enter Try.func6, Try.ntmps6
  go_wp2_with fail
  refine (awake_any _).mono ?_
  rintro e w' ⟨rfl, k, rfl⟩
  go_wp2_with fail
  refine (round_at x n true _ hx a1.out a2.out).mono ?_
  rintro e w' ⟨rfl, k, rfl⟩
  go_wp2_with fail
  refine (floor_at x f true _ hx a3.out a4.out).mono ?_
  rintro e w' ⟨rfl, k, rfl⟩
  go_wp2_with fail
  refine (clamp_at x 0 0 _ hx (by decide) cl.out).mono ?_
  rintro e w' ⟨rfl, k, rfl⟩
  go_wp2
  go_ret
  exact ⟨rfl, _, rfl⟩

set_option maxHeartbeats 2000000 in
theorem inhiolA (x : Nat) (most : Int) (w : World) (hx : x < 18446744073709551616) (c0 : most < 0) (n f : Int) (a1 : Hid (cI .even x = n)) (a2 : Hid (cOk .even x = true)) (a3 : Hid (cI .down x = f)) (a4 : Hid (cOk .down x = true)) (g1 : (fgt x 14114281232179134464 || feq x 14114281232179134464) = true) (g2 : flt x 4890909195324358656 = true) (N F d e : Nat) (n1 : floatOfInt .f64 n = N) (f1 : floatOfInt .f64 f = F) (d0 : floatBits .sub .f64 x N = some d) (e0 : floatBits .sub .f64 x F = some e) (cl : Hid (clampB x 0 = 0)) (c : 0 < n) (d1 : fgt d 13826050856027422720 = true) (d2 : flt d 4602678819172646912 = true) (d3 : feq d 4602678819172646912 = false) (d4 : feq d 13826050856027422720 = false) (e1 : fgt e 0 = true) (e2 : flt e 4607182418800017408 = true) :
    Calls Try.prog 6 #[.float .f64 x, .int .i64 most] w fun e w' => e = .returned (.bool true) ∧ ∃ n, w' = w.drewN n := by
  have cn := fun (w : World) => run_convert_int_float (P := Try.prog) w 2 24 .i64 .f64 n (by kernel_rfl) (by kernel_rfl)
  have cf := fun (w : World) => run_convert_int_float (P := Try.prog) w 2 24 .i64 .f64 f (by kernel_rfl) (by kernel_rfl)
  rw [n1] at cn
  rw [f1] at cf
  have sd := fun (t : TypeId) (w : World) => run_float_arith (P := Try.prog) w .sub t .f64 x N d d0
  have se := fun (t : TypeId) (w : World) => run_float_arith (P := Try.prog) w .sub t .f64 x F e e0
  clear n1 f1 d0 e0
  go_enter Try.func6, Try.ntmps6
  go_wp2_with fail
  refine (awake_any _).mono ?_
  rintro e w' ⟨rfl, k, rfl⟩
  go_wp2_with fail
  refine (round_at x n true _ hx a1.out a2.out).mono ?_
  rintro e w' ⟨rfl, k, rfl⟩
  go_wp2_with fail
  refine (floor_at x f true _ hx a3.out a4.out).mono ?_
  rintro e w' ⟨rfl, k, rfl⟩
  go_wp2_with fail
  refine (clamp_at x 0 0 _ hx (by decide) cl.out).mono ?_
  rintro e w' ⟨rfl, k, rfl⟩
  go_wp2
  go_ret
  exact ⟨rfl, _, rfl⟩

set_option maxHeartbeats 2000000 in
theorem inhioqA (x : Nat) (most : Int) (w : World) (hx : x < 18446744073709551616) (c0 : most < 0) (n f : Int) (a1 : Hid (cI .even x = n)) (a2 : Hid (cOk .even x = true)) (a3 : Hid (cI .down x = f)) (a4 : Hid (cOk .down x = true)) (g1 : (fgt x 14114281232179134464 || feq x 14114281232179134464) = true) (g2 : flt x 4890909195324358656 = true) (N F d e : Nat) (n1 : floatOfInt .f64 n = N) (f1 : floatOfInt .f64 f = F) (d0 : floatBits .sub .f64 x N = some d) (e0 : floatBits .sub .f64 x F = some e) (cl : Hid (clampB x 0 = 0)) (c : 0 < n) (d1 : fgt d 13826050856027422720 = true) (d2 : flt d 4602678819172646912 = true) (d3 : feq d 4602678819172646912 = false) (d4 : feq d 13826050856027422720 = false) (e1 : fgt e 0 = true) (e2 : flt e 4607182418800017408 = false) (e3 : feq e 4607182418800017408 = true) (e4 : flt x 0 = true) (e5 : fgt x 13830554455654793216 = true) :
    Calls Try.prog 6 #[.float .f64 x, .int .i64 most] w fun e w' => e = .returned (.bool true) ∧ ∃ n, w' = w.drewN n := by
  have cn := fun (w : World) => run_convert_int_float (P := Try.prog) w 2 24 .i64 .f64 n (by kernel_rfl) (by kernel_rfl)
  have cf := fun (w : World) => run_convert_int_float (P := Try.prog) w 2 24 .i64 .f64 f (by kernel_rfl) (by kernel_rfl)
  rw [n1] at cn
  rw [f1] at cf
  have sd := fun (t : TypeId) (w : World) => run_float_arith (P := Try.prog) w .sub t .f64 x N d d0
  have se := fun (t : TypeId) (w : World) => run_float_arith (P := Try.prog) w .sub t .f64 x F e e0
  clear n1 f1 d0 e0
  go_enter Try.func6, Try.ntmps6
  go_wp2_with fail
  refine (awake_any _).mono ?_
  rintro e w' ⟨rfl, k, rfl⟩
  go_wp2_with fail
  refine (round_at x n true _ hx a1.out a2.out).mono ?_
  rintro e w' ⟨rfl, k, rfl⟩
  go_wp2_with fail
  refine (floor_at x f true _ hx a3.out a4.out).mono ?_
  rintro e w' ⟨rfl, k, rfl⟩
  go_wp2_with fail
  refine (clamp_at x 0 0 _ hx (by decide) cl.out).mono ?_
  rintro e w' ⟨rfl, k, rfl⟩
  go_wp2
  go_ret
  exact ⟨rfl, _, rfl⟩

set_option maxHeartbeats 2000000 in
theorem ininHzA (x : Nat) (most : Int) (w : World) (hx : x < 18446744073709551616) (c0 : most < 0) (n f : Int) (a1 : Hid (cI .even x = n)) (a2 : Hid (cOk .even x = true)) (a3 : Hid (cI .down x = f)) (a4 : Hid (cOk .down x = true)) (g1 : (fgt x 14114281232179134464 || feq x 14114281232179134464) = true) (g2 : flt x 4890909195324358656 = true) (N F d e : Nat) (n1 : floatOfInt .f64 n = N) (f1 : floatOfInt .f64 f = F) (d0 : floatBits .sub .f64 x N = some d) (e0 : floatBits .sub .f64 x F = some e) (cl : Hid (clampB x 0 = n)) (c : 0 ≤ n) (c' : n ≤ 0) (d1 : fgt d 13826050856027422720 = true) (d2 : flt d 4602678819172646912 = false) (d3 : feq d 4602678819172646912 = true) (ev : n.tmod 2 = 0) (e1 : fgt e 0 = false) (e3 : feq e 0 = true) (e2 : flt e 4607182418800017408 = true) :
    Calls Try.prog 6 #[.float .f64 x, .int .i64 most] w fun e w' => e = .returned (.bool true) ∧ ∃ n, w' = w.drewN n := by
  have cn := fun (w : World) => run_convert_int_float (P := Try.prog) w 2 24 .i64 .f64 n (by kernel_rfl) (by kernel_rfl)
  have cf := fun (w : World) => run_convert_int_float (P := Try.prog) w 2 24 .i64 .f64 f (by kernel_rfl) (by kernel_rfl)
  rw [n1] at cn
  rw [f1] at cf
  have sd := fun (t : TypeId) (w : World) => run_float_arith (P := Try.prog) w .sub t .f64 x N d d0
  have se := fun (t : TypeId) (w : World) => run_float_arith (P := Try.prog) w .sub t .f64 x F e e0
  clear n1 f1 d0 e0
  go_enter Try.func6, Try.ntmps6
  go_wp2_with fail
  refine (awake_any _).mono ?_
  rintro e w' ⟨rfl, k, rfl⟩
  go_wp2_with fail
  refine (round_at x n true _ hx a1.out a2.out).mono ?_
  rintro e w' ⟨rfl, k, rfl⟩
  go_wp2_with fail
  refine (floor_at x f true _ hx a3.out a4.out).mono ?_
  rintro e w' ⟨rfl, k, rfl⟩
  go_wp2_with fail
  refine (clamp_at x 0 n _ hx (by decide) cl.out).mono ?_
  rintro e w' ⟨rfl, k, rfl⟩
  go_wp2
  go_ret
  exact ⟨rfl, _, rfl⟩

set_option maxHeartbeats 2000000 in
theorem ininHlA (x : Nat) (most : Int) (w : World) (hx : x < 18446744073709551616) (c0 : most < 0) (n f : Int) (a1 : Hid (cI .even x = n)) (a2 : Hid (cOk .even x = true)) (a3 : Hid (cI .down x = f)) (a4 : Hid (cOk .down x = true)) (g1 : (fgt x 14114281232179134464 || feq x 14114281232179134464) = true) (g2 : flt x 4890909195324358656 = true) (N F d e : Nat) (n1 : floatOfInt .f64 n = N) (f1 : floatOfInt .f64 f = F) (d0 : floatBits .sub .f64 x N = some d) (e0 : floatBits .sub .f64 x F = some e) (cl : Hid (clampB x 0 = n)) (c : 0 ≤ n) (c' : n ≤ 0) (d1 : fgt d 13826050856027422720 = true) (d2 : flt d 4602678819172646912 = false) (d3 : feq d 4602678819172646912 = true) (ev : n.tmod 2 = 0) (e1 : fgt e 0 = true) (e2 : flt e 4607182418800017408 = true) :
    Calls Try.prog 6 #[.float .f64 x, .int .i64 most] w fun e w' => e = .returned (.bool true) ∧ ∃ n, w' = w.drewN n := by
  have cn := fun (w : World) => run_convert_int_float (P := Try.prog) w 2 24 .i64 .f64 n (by kernel_rfl) (by kernel_rfl)
  have cf := fun (w : World) => run_convert_int_float (P := Try.prog) w 2 24 .i64 .f64 f (by kernel_rfl) (by kernel_rfl)
  rw [n1] at cn
  rw [f1] at cf
  have sd := fun (t : TypeId) (w : World) => run_float_arith (P := Try.prog) w .sub t .f64 x N d d0
  have se := fun (t : TypeId) (w : World) => run_float_arith (P := Try.prog) w .sub t .f64 x F e e0
  clear n1 f1 d0 e0
  go_enter Try.func6, Try.ntmps6
  go_wp2_with fail
  refine (awake_any _).mono ?_
  rintro e w' ⟨rfl, k, rfl⟩
  go_wp2_with fail
  refine (round_at x n true _ hx a1.out a2.out).mono ?_
  rintro e w' ⟨rfl, k, rfl⟩
  go_wp2_with fail
  refine (floor_at x f true _ hx a3.out a4.out).mono ?_
  rintro e w' ⟨rfl, k, rfl⟩
  go_wp2_with fail
  refine (clamp_at x 0 n _ hx (by decide) cl.out).mono ?_
  rintro e w' ⟨rfl, k, rfl⟩
  go_wp2
  go_ret
  exact ⟨rfl, _, rfl⟩

set_option maxHeartbeats 2000000 in
theorem ininHqA (x : Nat) (most : Int) (w : World) (hx : x < 18446744073709551616) (c0 : most < 0) (n f : Int) (a1 : Hid (cI .even x = n)) (a2 : Hid (cOk .even x = true)) (a3 : Hid (cI .down x = f)) (a4 : Hid (cOk .down x = true)) (g1 : (fgt x 14114281232179134464 || feq x 14114281232179134464) = true) (g2 : flt x 4890909195324358656 = true) (N F d e : Nat) (n1 : floatOfInt .f64 n = N) (f1 : floatOfInt .f64 f = F) (d0 : floatBits .sub .f64 x N = some d) (e0 : floatBits .sub .f64 x F = some e) (cl : Hid (clampB x 0 = n)) (c : 0 ≤ n) (c' : n ≤ 0) (d1 : fgt d 13826050856027422720 = true) (d2 : flt d 4602678819172646912 = false) (d3 : feq d 4602678819172646912 = true) (ev : n.tmod 2 = 0) (e1 : fgt e 0 = true) (e2 : flt e 4607182418800017408 = false) (e3 : feq e 4607182418800017408 = true) (e4 : flt x 0 = true) (e5 : fgt x 13830554455654793216 = true) :
    Calls Try.prog 6 #[.float .f64 x, .int .i64 most] w fun e w' => e = .returned (.bool true) ∧ ∃ n, w' = w.drewN n := by
  have cn := fun (w : World) => run_convert_int_float (P := Try.prog) w 2 24 .i64 .f64 n (by kernel_rfl) (by kernel_rfl)
  have cf := fun (w : World) => run_convert_int_float (P := Try.prog) w 2 24 .i64 .f64 f (by kernel_rfl) (by kernel_rfl)
  rw [n1] at cn
  rw [f1] at cf
  have sd := fun (t : TypeId) (w : World) => run_float_arith (P := Try.prog) w .sub t .f64 x N d d0
  have se := fun (t : TypeId) (w : World) => run_float_arith (P := Try.prog) w .sub t .f64 x F e e0
  clear n1 f1 d0 e0
  go_enter Try.func6, Try.ntmps6
  go_wp2_with fail
  refine (awake_any _).mono ?_
  rintro e w' ⟨rfl, k, rfl⟩
  go_wp2_with fail
  refine (round_at x n true _ hx a1.out a2.out).mono ?_
  rintro e w' ⟨rfl, k, rfl⟩
  go_wp2_with fail
  refine (floor_at x f true _ hx a3.out a4.out).mono ?_
  rintro e w' ⟨rfl, k, rfl⟩
  go_wp2_with fail
  refine (clamp_at x 0 n _ hx (by decide) cl.out).mono ?_
  rintro e w' ⟨rfl, k, rfl⟩
  go_wp2
  go_ret
  exact ⟨rfl, _, rfl⟩

set_option maxHeartbeats 2000000 in
theorem ininNzA (x : Nat) (most : Int) (w : World) (hx : x < 18446744073709551616) (c0 : most < 0) (n f : Int) (a1 : Hid (cI .even x = n)) (a2 : Hid (cOk .even x = true)) (a3 : Hid (cI .down x = f)) (a4 : Hid (cOk .down x = true)) (g1 : (fgt x 14114281232179134464 || feq x 14114281232179134464) = true) (g2 : flt x 4890909195324358656 = true) (N F d e : Nat) (n1 : floatOfInt .f64 n = N) (f1 : floatOfInt .f64 f = F) (d0 : floatBits .sub .f64 x N = some d) (e0 : floatBits .sub .f64 x F = some e) (cl : Hid (clampB x 0 = n)) (c : 0 ≤ n) (c' : n ≤ 0) (d1 : fgt d 13826050856027422720 = false) (d2 : flt d 4602678819172646912 = true) (d3 : feq d 4602678819172646912 = false) (d4 : feq d 13826050856027422720 = true) (ev : n.tmod 2 = 0) (e1 : fgt e 0 = false) (e3 : feq e 0 = true) (e2 : flt e 4607182418800017408 = true) :
    Calls Try.prog 6 #[.float .f64 x, .int .i64 most] w fun e w' => e = .returned (.bool true) ∧ ∃ n, w' = w.drewN n := by
  have cn := fun (w : World) => run_convert_int_float (P := Try.prog) w 2 24 .i64 .f64 n (by kernel_rfl) (by kernel_rfl)
  have cf := fun (w : World) => run_convert_int_float (P := Try.prog) w 2 24 .i64 .f64 f (by kernel_rfl) (by kernel_rfl)
  rw [n1] at cn
  rw [f1] at cf
  have sd := fun (t : TypeId) (w : World) => run_float_arith (P := Try.prog) w .sub t .f64 x N d d0
  have se := fun (t : TypeId) (w : World) => run_float_arith (P := Try.prog) w .sub t .f64 x F e e0
  clear n1 f1 d0 e0
  go_enter Try.func6, Try.ntmps6
  go_wp2_with fail
  refine (awake_any _).mono ?_
  rintro e w' ⟨rfl, k, rfl⟩
  go_wp2_with fail
  refine (round_at x n true _ hx a1.out a2.out).mono ?_
  rintro e w' ⟨rfl, k, rfl⟩
  go_wp2_with fail
  refine (floor_at x f true _ hx a3.out a4.out).mono ?_
  rintro e w' ⟨rfl, k, rfl⟩
  go_wp2_with fail
  refine (clamp_at x 0 n _ hx (by decide) cl.out).mono ?_
  rintro e w' ⟨rfl, k, rfl⟩
  go_wp2
  go_ret
  exact ⟨rfl, _, rfl⟩

set_option maxHeartbeats 2000000 in
theorem ininNlA (x : Nat) (most : Int) (w : World) (hx : x < 18446744073709551616) (c0 : most < 0) (n f : Int) (a1 : Hid (cI .even x = n)) (a2 : Hid (cOk .even x = true)) (a3 : Hid (cI .down x = f)) (a4 : Hid (cOk .down x = true)) (g1 : (fgt x 14114281232179134464 || feq x 14114281232179134464) = true) (g2 : flt x 4890909195324358656 = true) (N F d e : Nat) (n1 : floatOfInt .f64 n = N) (f1 : floatOfInt .f64 f = F) (d0 : floatBits .sub .f64 x N = some d) (e0 : floatBits .sub .f64 x F = some e) (cl : Hid (clampB x 0 = n)) (c : 0 ≤ n) (c' : n ≤ 0) (d1 : fgt d 13826050856027422720 = false) (d2 : flt d 4602678819172646912 = true) (d3 : feq d 4602678819172646912 = false) (d4 : feq d 13826050856027422720 = true) (ev : n.tmod 2 = 0) (e1 : fgt e 0 = true) (e2 : flt e 4607182418800017408 = true) :
    Calls Try.prog 6 #[.float .f64 x, .int .i64 most] w fun e w' => e = .returned (.bool true) ∧ ∃ n, w' = w.drewN n := by
  have cn := fun (w : World) => run_convert_int_float (P := Try.prog) w 2 24 .i64 .f64 n (by kernel_rfl) (by kernel_rfl)
  have cf := fun (w : World) => run_convert_int_float (P := Try.prog) w 2 24 .i64 .f64 f (by kernel_rfl) (by kernel_rfl)
  rw [n1] at cn
  rw [f1] at cf
  have sd := fun (t : TypeId) (w : World) => run_float_arith (P := Try.prog) w .sub t .f64 x N d d0
  have se := fun (t : TypeId) (w : World) => run_float_arith (P := Try.prog) w .sub t .f64 x F e e0
  clear n1 f1 d0 e0
  go_enter Try.func6, Try.ntmps6
  go_wp2_with fail
  refine (awake_any _).mono ?_
  rintro e w' ⟨rfl, k, rfl⟩
  go_wp2_with fail
  refine (round_at x n true _ hx a1.out a2.out).mono ?_
  rintro e w' ⟨rfl, k, rfl⟩
  go_wp2_with fail
  refine (floor_at x f true _ hx a3.out a4.out).mono ?_
  rintro e w' ⟨rfl, k, rfl⟩
  go_wp2_with fail
  refine (clamp_at x 0 n _ hx (by decide) cl.out).mono ?_
  rintro e w' ⟨rfl, k, rfl⟩
  go_wp2
  go_ret
  exact ⟨rfl, _, rfl⟩

set_option maxHeartbeats 2000000 in
theorem ininNqA (x : Nat) (most : Int) (w : World) (hx : x < 18446744073709551616) (c0 : most < 0) (n f : Int) (a1 : Hid (cI .even x = n)) (a2 : Hid (cOk .even x = true)) (a3 : Hid (cI .down x = f)) (a4 : Hid (cOk .down x = true)) (g1 : (fgt x 14114281232179134464 || feq x 14114281232179134464) = true) (g2 : flt x 4890909195324358656 = true) (N F d e : Nat) (n1 : floatOfInt .f64 n = N) (f1 : floatOfInt .f64 f = F) (d0 : floatBits .sub .f64 x N = some d) (e0 : floatBits .sub .f64 x F = some e) (cl : Hid (clampB x 0 = n)) (c : 0 ≤ n) (c' : n ≤ 0) (d1 : fgt d 13826050856027422720 = false) (d2 : flt d 4602678819172646912 = true) (d3 : feq d 4602678819172646912 = false) (d4 : feq d 13826050856027422720 = true) (ev : n.tmod 2 = 0) (e1 : fgt e 0 = true) (e2 : flt e 4607182418800017408 = false) (e3 : feq e 4607182418800017408 = true) (e4 : flt x 0 = true) (e5 : fgt x 13830554455654793216 = true) :
    Calls Try.prog 6 #[.float .f64 x, .int .i64 most] w fun e w' => e = .returned (.bool true) ∧ ∃ n, w' = w.drewN n := by
  have cn := fun (w : World) => run_convert_int_float (P := Try.prog) w 2 24 .i64 .f64 n (by kernel_rfl) (by kernel_rfl)
  have cf := fun (w : World) => run_convert_int_float (P := Try.prog) w 2 24 .i64 .f64 f (by kernel_rfl) (by kernel_rfl)
  rw [n1] at cn
  rw [f1] at cf
  have sd := fun (t : TypeId) (w : World) => run_float_arith (P := Try.prog) w .sub t .f64 x N d d0
  have se := fun (t : TypeId) (w : World) => run_float_arith (P := Try.prog) w .sub t .f64 x F e e0
  clear n1 f1 d0 e0
  go_enter Try.func6, Try.ntmps6
  go_wp2_with fail
  refine (awake_any _).mono ?_
  rintro e w' ⟨rfl, k, rfl⟩
  go_wp2_with fail
  refine (round_at x n true _ hx a1.out a2.out).mono ?_
  rintro e w' ⟨rfl, k, rfl⟩
  go_wp2_with fail
  refine (floor_at x f true _ hx a3.out a4.out).mono ?_
  rintro e w' ⟨rfl, k, rfl⟩
  go_wp2_with fail
  refine (clamp_at x 0 n _ hx (by decide) cl.out).mono ?_
  rintro e w' ⟨rfl, k, rfl⟩
  go_wp2
  go_ret
  exact ⟨rfl, _, rfl⟩

set_option maxHeartbeats 2000000 in
theorem ininozA (x : Nat) (most : Int) (w : World) (hx : x < 18446744073709551616) (c0 : most < 0) (n f : Int) (a1 : Hid (cI .even x = n)) (a2 : Hid (cOk .even x = true)) (a3 : Hid (cI .down x = f)) (a4 : Hid (cOk .down x = true)) (g1 : (fgt x 14114281232179134464 || feq x 14114281232179134464) = true) (g2 : flt x 4890909195324358656 = true) (N F d e : Nat) (n1 : floatOfInt .f64 n = N) (f1 : floatOfInt .f64 f = F) (d0 : floatBits .sub .f64 x N = some d) (e0 : floatBits .sub .f64 x F = some e) (cl : Hid (clampB x 0 = n)) (c : 0 ≤ n) (c' : n ≤ 0) (d1 : fgt d 13826050856027422720 = true) (d2 : flt d 4602678819172646912 = true) (d3 : feq d 4602678819172646912 = false) (d4 : feq d 13826050856027422720 = false) (e1 : fgt e 0 = false) (e3 : feq e 0 = true) (e2 : flt e 4607182418800017408 = true) :
    Calls Try.prog 6 #[.float .f64 x, .int .i64 most] w fun e w' => e = .returned (.bool true) ∧ ∃ n, w' = w.drewN n := by
  have cn := fun (w : World) => run_convert_int_float (P := Try.prog) w 2 24 .i64 .f64 n (by kernel_rfl) (by kernel_rfl)
  have cf := fun (w : World) => run_convert_int_float (P := Try.prog) w 2 24 .i64 .f64 f (by kernel_rfl) (by kernel_rfl)
  rw [n1] at cn
  rw [f1] at cf
  have sd := fun (t : TypeId) (w : World) => run_float_arith (P := Try.prog) w .sub t .f64 x N d d0
  have se := fun (t : TypeId) (w : World) => run_float_arith (P := Try.prog) w .sub t .f64 x F e e0
  clear n1 f1 d0 e0
  go_enter Try.func6, Try.ntmps6
  go_wp2_with fail
  refine (awake_any _).mono ?_
  rintro e w' ⟨rfl, k, rfl⟩
  go_wp2_with fail
  refine (round_at x n true _ hx a1.out a2.out).mono ?_
  rintro e w' ⟨rfl, k, rfl⟩
  go_wp2_with fail
  refine (floor_at x f true _ hx a3.out a4.out).mono ?_
  rintro e w' ⟨rfl, k, rfl⟩
  go_wp2_with fail
  refine (clamp_at x 0 n _ hx (by decide) cl.out).mono ?_
  rintro e w' ⟨rfl, k, rfl⟩
  go_wp2
  go_ret
  exact ⟨rfl, _, rfl⟩

set_option maxHeartbeats 2000000 in
theorem ininolA (x : Nat) (most : Int) (w : World) (hx : x < 18446744073709551616) (c0 : most < 0) (n f : Int) (a1 : Hid (cI .even x = n)) (a2 : Hid (cOk .even x = true)) (a3 : Hid (cI .down x = f)) (a4 : Hid (cOk .down x = true)) (g1 : (fgt x 14114281232179134464 || feq x 14114281232179134464) = true) (g2 : flt x 4890909195324358656 = true) (N F d e : Nat) (n1 : floatOfInt .f64 n = N) (f1 : floatOfInt .f64 f = F) (d0 : floatBits .sub .f64 x N = some d) (e0 : floatBits .sub .f64 x F = some e) (cl : Hid (clampB x 0 = n)) (c : 0 ≤ n) (c' : n ≤ 0) (d1 : fgt d 13826050856027422720 = true) (d2 : flt d 4602678819172646912 = true) (d3 : feq d 4602678819172646912 = false) (d4 : feq d 13826050856027422720 = false) (e1 : fgt e 0 = true) (e2 : flt e 4607182418800017408 = true) :
    Calls Try.prog 6 #[.float .f64 x, .int .i64 most] w fun e w' => e = .returned (.bool true) ∧ ∃ n, w' = w.drewN n := by
  have cn := fun (w : World) => run_convert_int_float (P := Try.prog) w 2 24 .i64 .f64 n (by kernel_rfl) (by kernel_rfl)
  have cf := fun (w : World) => run_convert_int_float (P := Try.prog) w 2 24 .i64 .f64 f (by kernel_rfl) (by kernel_rfl)
  rw [n1] at cn
  rw [f1] at cf
  have sd := fun (t : TypeId) (w : World) => run_float_arith (P := Try.prog) w .sub t .f64 x N d d0
  have se := fun (t : TypeId) (w : World) => run_float_arith (P := Try.prog) w .sub t .f64 x F e e0
  clear n1 f1 d0 e0
  go_enter Try.func6, Try.ntmps6
  go_wp2_with fail
  refine (awake_any _).mono ?_
  rintro e w' ⟨rfl, k, rfl⟩
  go_wp2_with fail
  refine (round_at x n true _ hx a1.out a2.out).mono ?_
  rintro e w' ⟨rfl, k, rfl⟩
  go_wp2_with fail
  refine (floor_at x f true _ hx a3.out a4.out).mono ?_
  rintro e w' ⟨rfl, k, rfl⟩
  go_wp2_with fail
  refine (clamp_at x 0 n _ hx (by decide) cl.out).mono ?_
  rintro e w' ⟨rfl, k, rfl⟩
  go_wp2
  go_ret
  exact ⟨rfl, _, rfl⟩

set_option maxHeartbeats 2000000 in
theorem ininoqA (x : Nat) (most : Int) (w : World) (hx : x < 18446744073709551616) (c0 : most < 0) (n f : Int) (a1 : Hid (cI .even x = n)) (a2 : Hid (cOk .even x = true)) (a3 : Hid (cI .down x = f)) (a4 : Hid (cOk .down x = true)) (g1 : (fgt x 14114281232179134464 || feq x 14114281232179134464) = true) (g2 : flt x 4890909195324358656 = true) (N F d e : Nat) (n1 : floatOfInt .f64 n = N) (f1 : floatOfInt .f64 f = F) (d0 : floatBits .sub .f64 x N = some d) (e0 : floatBits .sub .f64 x F = some e) (cl : Hid (clampB x 0 = n)) (c : 0 ≤ n) (c' : n ≤ 0) (d1 : fgt d 13826050856027422720 = true) (d2 : flt d 4602678819172646912 = true) (d3 : feq d 4602678819172646912 = false) (d4 : feq d 13826050856027422720 = false) (e1 : fgt e 0 = true) (e2 : flt e 4607182418800017408 = false) (e3 : feq e 4607182418800017408 = true) (e4 : flt x 0 = true) (e5 : fgt x 13830554455654793216 = true) :
    Calls Try.prog 6 #[.float .f64 x, .int .i64 most] w fun e w' => e = .returned (.bool true) ∧ ∃ n, w' = w.drewN n := by
  have cn := fun (w : World) => run_convert_int_float (P := Try.prog) w 2 24 .i64 .f64 n (by kernel_rfl) (by kernel_rfl)
  have cf := fun (w : World) => run_convert_int_float (P := Try.prog) w 2 24 .i64 .f64 f (by kernel_rfl) (by kernel_rfl)
  rw [n1] at cn
  rw [f1] at cf
  have sd := fun (t : TypeId) (w : World) => run_float_arith (P := Try.prog) w .sub t .f64 x N d d0
  have se := fun (t : TypeId) (w : World) => run_float_arith (P := Try.prog) w .sub t .f64 x F e e0
  clear n1 f1 d0 e0
  go_enter Try.func6, Try.ntmps6
  go_wp2_with fail
  refine (awake_any _).mono ?_
  rintro e w' ⟨rfl, k, rfl⟩
  go_wp2_with fail
  refine (round_at x n true _ hx a1.out a2.out).mono ?_
  rintro e w' ⟨rfl, k, rfl⟩
  go_wp2_with fail
  refine (floor_at x f true _ hx a3.out a4.out).mono ?_
  rintro e w' ⟨rfl, k, rfl⟩
  go_wp2_with fail
  refine (clamp_at x 0 n _ hx (by decide) cl.out).mono ?_
  rintro e w' ⟨rfl, k, rfl⟩
  go_wp2
  go_ret
  exact ⟨rfl, _, rfl⟩

end Go.Proofs.Ytpncpbpdbdlamaa.convWholeDone
