/-
  What the reference's Sum of layer 3 returns: walks over the program.
-/
import Derived.Test.YtflkbjcaajchjaaTk
namespace Go.Proofs.Ytflkbjcaajchjaa
open Go.RowKit Tf
attribute [local go_sem] run_bits run_from raw_feq raw_fne raw_flt raw_fgt run_neg

theorem refCanon_to (x r : Nat) (w : World) (hr : canonB x = r) :
    Calls Try.prog 40 #[.float .f64 x] w fun e w' => e = .returned (.float .f64 r) ∧ w' = w := by
  subst hr; exact refCanon_any x w
theorem refMag_to (x : Nat) (m : Int) (w : World) (hr : ((mg x : Nat) : Int) = m) :
    Calls Try.prog 39 #[.float .f64 x] w fun e w' => e = .returned (.int .u64 m) ∧ w' = w := by
  subst hr; exact refMag_any x w
theorem refBelow_to (x : Nat) (b : Bool) (w : World) (hr : ng x = b) :
    Calls Try.prog 43 #[.float .f64 x] w fun e w' => e = .returned (.bool b) ∧ w' = w := by
  subst hr; exact refBelow_any x w

set_option maxHeartbeats 1000000 in
theorem rsum_nan (a b : Nat) (w : World) (h : Ieee.double.add a b = none) :
    Calls Try.prog 29 #[.float .f64 a, .float .f64 b] w fun e w' => e = .returned (.tuple #[.float .f64 quiet, .float .f64 0]) ∧ w' = w.drew := by
  have hc := fun (t : TypeId) (w : World) => run_nan_add (P := Try.prog) w t a b h
  obtain ⟨m, hm⟩ : ∃ m : World → Int, ∀ w, ((mg (nanOf w a b) : Nat) : Int) = m w := ⟨_, fun _ => rfl⟩
  have hb : ∀ w, 9218868437227405312 ≤ m w := by
    intro w
    have := isN_true.1 (isN_nanOf w a b)
    rw [← hm]; omega
  have M : Hid (∀ w w' : World, Calls Try.prog 39 #[.float .f64 (nanOf w a b)] w' fun e w'' => e = .returned (.int .u64 (m w)) ∧ w'' = w') := fun w w' => refMag_to _ _ w' (hm w)
  have C : Hid (∀ w w' : World, Calls Try.prog 40 #[.float .f64 (nanOf w a b)] w' fun e w'' => e = .returned (.float .f64 quiet) ∧ w'' = w') := by
    intro w w'
    refine refCanon_to _ _ w' ?_
    unfold canonB; rw [isN_nanOf]; rfl
  clear hm h
  have hd : ∀ w, decide (9218868437227405312 ≤ m w) = true := fun w => decide_eq_true (hb w)
  go_enter Try.func29, Try.ntmps29
  go_wp2_with fail
  refine (M.out _ _).mono ?_
  rintro e w' ⟨rfl, rfl⟩
  go_wp2_with fail
  refine (C.out _ _).mono ?_
  rintro e w' ⟨rfl, rfl⟩
  go_wp2
  go_ret2
  exact ⟨rfl, rfl⟩
set_option maxHeartbeats 1000000 in
theorem rsum_inf (a b s r : Nat) (m : Int) (w : World) (h : Ieee.double.add a b = some s) (M : Hid (∀ w, Calls Try.prog 39 #[.float .f64 s] w fun e w' => e = .returned (.int .u64 m) ∧ w' = w)) (hm : 9218868437227405312 ≤ m) (C : Hid (∀ w, Calls Try.prog 40 #[.float .f64 s] w fun e w' => e = .returned (.float .f64 r) ∧ w' = w)) :
    Calls Try.prog 29 #[.float .f64 a, .float .f64 b] w fun e w' => e = .returned (.tuple #[.float .f64 r, .float .f64 0]) ∧ w' = w := by
  have hc := fun (t : TypeId) (w : World) => run_float_arith (P := Try.prog) w .add t .f64 a b s h
  clear h
  go_enter Try.func29, Try.ntmps29
  go_wp2_with fail
  refine (M.out _).mono ?_
  rintro e w' ⟨rfl, rfl⟩
  go_wp2_with fail
  refine (C.out _).mono ?_
  rintro e w' ⟨rfl, rfl⟩
  go_wp2
  go_ret2
  exact ⟨rfl, rfl⟩
set_option maxHeartbeats 1000000 in
theorem rsum_zero_u (g h s r : Nat) (mg_ mh ms Mg Mh Ms Eg Eh Es : Int) (w : World) (hadd : Ieee.double.add g h = some s)
    (MS : Hid (∀ w, Calls Try.prog 39 #[.float .f64 s] w fun e w' => e = .returned (.int .u64 ms) ∧ w' = w)) (hms : ms < 9218868437227405312)
    (MG : Hid (∀ w, Calls Try.prog 39 #[.float .f64 g] w fun e w' => e = .returned (.int .u64 mg_) ∧ w' = w)) (MH : Hid (∀ w, Calls Try.prog 39 #[.float .f64 h] w fun e w' => e = .returned (.int .u64 mh) ∧ w' = w)) (ho : ¬ mg_ < mh)
    (PG : Hid (∀ w, Calls Try.prog 41 #[.float .f64 g] w fun e w' => e = .returned (.tuple #[.int .u64 Mg, .int .i64 Eg]) ∧ w' = w)) (PH : Hid (∀ w, Calls Try.prog 41 #[.float .f64 h] w fun e w' => e = .returned (.tuple #[.int .u64 Mh, .int .i64 Eh]) ∧ w' = w)) (PS : Hid (∀ w, Calls Try.prog 41 #[.float .f64 s] w fun e w' => e = .returned (.tuple #[.int .u64 Ms, .int .i64 Es]) ∧ w' = w))
    (C : Hid (∀ w, Calls Try.prog 40 #[.float .f64 s] w fun e w' => e = .returned (.float .f64 r) ∧ w' = w)) (hz : Mh = 0) :
    Calls Try.prog 29 #[.float .f64 g, .float .f64 h] w fun e w' => e = .returned (.tuple #[.float .f64 r, .float .f64 0]) ∧ w' = w := by
  have hc := fun (t : TypeId) (w : World) => run_float_arith (P := Try.prog) w .add t .f64 g h s hadd
  clear hadd
  subst hz
  go_enter Try.func29, Try.ntmps29
  go_wp2_with fail
  refine (MS.out _).mono ?_
  rintro e w' ⟨rfl, rfl⟩
  go_wp2_with fail
  refine (MG.out _).mono ?_
  rintro e w' ⟨rfl, rfl⟩
  go_wp2_with fail
  refine (MH.out _).mono ?_
  rintro e w' ⟨rfl, rfl⟩
  go_wp2_with fail
  refine (PG.out _).mono ?_
  rintro e w' ⟨rfl, rfl⟩
  go_wp2_with fail
  refine (PH.out _).mono ?_
  rintro e w' ⟨rfl, rfl⟩
  go_wp2_with fail
  refine (PS.out _).mono ?_
  rintro e w' ⟨rfl, rfl⟩
  go_wp2_with fail
  refine (C.out _).mono ?_
  rintro e w' ⟨rfl, rfl⟩
  go_wp2
  go_ret2
  exact ⟨rfl, rfl⟩
set_option maxHeartbeats 1000000 in
theorem rsum_far_u (g h s r : Nat) (mg_ mh ms Mg Mh Ms Eg Eh Es : Int) (w : World) (hadd : Ieee.double.add g h = some s)
    (MS : Hid (∀ w, Calls Try.prog 39 #[.float .f64 s] w fun e w' => e = .returned (.int .u64 ms) ∧ w' = w)) (hms : ms < 9218868437227405312)
    (MG : Hid (∀ w, Calls Try.prog 39 #[.float .f64 g] w fun e w' => e = .returned (.int .u64 mg_) ∧ w' = w)) (MH : Hid (∀ w, Calls Try.prog 39 #[.float .f64 h] w fun e w' => e = .returned (.int .u64 mh) ∧ w' = w)) (ho : ¬ mg_ < mh)
    (PG : Hid (∀ w, Calls Try.prog 41 #[.float .f64 g] w fun e w' => e = .returned (.tuple #[.int .u64 Mg, .int .i64 Eg]) ∧ w' = w)) (PH : Hid (∀ w, Calls Try.prog 41 #[.float .f64 h] w fun e w' => e = .returned (.tuple #[.int .u64 Mh, .int .i64 Eh]) ∧ w' = w)) (PS : Hid (∀ w, Calls Try.prog 41 #[.float .f64 s] w fun e w' => e = .returned (.tuple #[.int .u64 Ms, .int .i64 Es]) ∧ w' = w))
    (C : Hid (∀ w, Calls Try.prog 40 #[.float .f64 s] w fun e w' => e = .returned (.float .f64 r) ∧ w' = w)) (hz : (Mh == 0) = false) (b1 : -1074 ≤ Eh) (b2 : Eg ≤ 971) (hf : 56 < Eg - Eh) :
    Calls Try.prog 29 #[.float .f64 g, .float .f64 h] w fun e w' => e = .returned (.tuple #[.float .f64 r, .float .f64 h]) ∧ w' = w := by
  have hc := fun (t : TypeId) (w : World) => run_float_arith (P := Try.prog) w .add t .f64 g h s hadd
  clear hadd
  go_enter Try.func29, Try.ntmps29
  go_wp2_with fail
  refine (MS.out _).mono ?_
  rintro e w' ⟨rfl, rfl⟩
  go_wp2_with fail
  refine (MG.out _).mono ?_
  rintro e w' ⟨rfl, rfl⟩
  go_wp2_with fail
  refine (MH.out _).mono ?_
  rintro e w' ⟨rfl, rfl⟩
  go_wp2_with fail
  refine (PG.out _).mono ?_
  rintro e w' ⟨rfl, rfl⟩
  go_wp2_with fail
  refine (PH.out _).mono ?_
  rintro e w' ⟨rfl, rfl⟩
  go_wp2_with fail
  refine (PS.out _).mono ?_
  rintro e w' ⟨rfl, rfl⟩
  go_wp2_with fail
  refine (C.out _).mono ?_
  rintro e w' ⟨rfl, rfl⟩
  go_wp2
  go_ret2
  exact ⟨rfl, rfl⟩
set_option maxHeartbeats 2000000 in
theorem rsum_uhp (g h s r : Nat) (mg_ mh ms Mg Mh Ms Eg Eh Es : Int) (w : World) (hadd : Ieee.double.add g h = some s)
    (MS : Hid (∀ w, Calls Try.prog 39 #[.float .f64 s] w fun e w' => e = .returned (.int .u64 ms) ∧ w' = w)) (hms : ms < 9218868437227405312)
    (MG : Hid (∀ w, Calls Try.prog 39 #[.float .f64 g] w fun e w' => e = .returned (.int .u64 mg_) ∧ w' = w)) (MH : Hid (∀ w, Calls Try.prog 39 #[.float .f64 h] w fun e w' => e = .returned (.int .u64 mh) ∧ w' = w)) (ho : ¬ mg_ < mh)
    (PG : Hid (∀ w, Calls Try.prog 41 #[.float .f64 g] w fun e w' => e = .returned (.tuple #[.int .u64 Mg, .int .i64 Eg]) ∧ w' = w)) (PH : Hid (∀ w, Calls Try.prog 41 #[.float .f64 h] w fun e w' => e = .returned (.tuple #[.int .u64 Mh, .int .i64 Eh]) ∧ w' = w)) (PS : Hid (∀ w, Calls Try.prog 41 #[.float .f64 s] w fun e w' => e = .returned (.tuple #[.int .u64 Ms, .int .i64 Es]) ∧ w' = w))
    (C : Hid (∀ w, Calls Try.prog 40 #[.float .f64 s] w fun e w' => e = .returned (.float .f64 r) ∧ w' = w)) (hz : (Mh == 0) = false) (b1 : -1074 ≤ Eh) (_b2 : Eg ≤ 971) (b3 : -1074 ≤ Es) (b4 : Es ≤ 971) (b5 : Eh ≤ Eg) (hf : ¬ 56 < Eg - Eh) (hl : ¬ Es < Eh)
    (bg bh bs : Bool) (BG : Hid (∀ w, Calls Try.prog 43 #[.float .f64 g] w fun e w' => e = .returned (.bool bg) ∧ w' = w)) (BH : Hid (∀ w, Calls Try.prog 43 #[.float .f64 h] w fun e w' => e = .returned (.bool bh) ∧ w' = w)) (BS : Hid (∀ w, Calls Try.prog 43 #[.float .f64 s] w fun e w' => e = .returned (.bool bs) ∧ w' = w)) (t1 t2 t3 X : Int)
    (S1 : Hid (∀ w, Calls Try.prog 42 #[.int .u64 Mg, .int .i64 (Eg - Eh), .bool bg] w fun e w' => e = .returned (.int .u64 t1) ∧ w' = w)) (S2 : Hid (∀ w, Calls Try.prog 42 #[.int .u64 Mh, .int .i64 (0), .bool bh] w fun e w' => e = .returned (.int .u64 t2) ∧ w' = w)) (S3 : Hid (∀ w, Calls Try.prog 42 #[.int .u64 Ms, .int .i64 (Es - Eh), .bool bs] w fun e w' => e = .returned (.int .u64 t3) ∧ w' = w))
    (hX : IntKind.i64.wrap (IntKind.u64.wrap (IntKind.u64.wrap (t1 + t2) - t3)) = X) (hX1 : 0 ≤ X) (hX2 : X ≤ 9007199254740992)
    (y q p l : Nat) (hy : floatOfInt .f64 X = y) (PW : Hid (∀ w, Calls Try.prog 44 #[.int .i64 Eh] w fun e w' => e = .returned (.float .f64 q) ∧ w' = w)) (hm : Ieee.double.mul y q = some p) (CP : Hid (∀ w, Calls Try.prog 40 #[.float .f64 p] w fun e w' => e = .returned (.float .f64 l) ∧ w' = w)) :
    Calls Try.prog 29 #[.float .f64 g, .float .f64 h] w fun e w' => e = .returned (.tuple #[.float .f64 r, .float .f64 l]) ∧ w' = w := by
  have hc := fun (t : TypeId) (w : World) => run_float_arith (P := Try.prog) w .add t .f64 g h s hadd
  clear hadd
  have hcv := fun (w : World) => run_convert_int_float (P := Try.prog) w 2 25 .i64 .f64 X (by kernel_rfl) (by kernel_rfl)
  rw [hy] at hcv
  have hcm := fun (t : TypeId) (w : World) => run_float_arith (P := Try.prog) w .mul t .f64 y q p hm
  clear hy hm
  go_enter Try.func29, Try.ntmps29
  go_wp2_with fail
  refine (MS.out _).mono ?_
  rintro e w' ⟨rfl, rfl⟩
  go_wp2_with fail
  refine (MG.out _).mono ?_
  rintro e w' ⟨rfl, rfl⟩
  go_wp2_with fail
  refine (MH.out _).mono ?_
  rintro e w' ⟨rfl, rfl⟩
  go_wp2_with fail
  refine (PG.out _).mono ?_
  rintro e w' ⟨rfl, rfl⟩
  go_wp2_with fail
  refine (PH.out _).mono ?_
  rintro e w' ⟨rfl, rfl⟩
  go_wp2_with fail
  refine (PS.out _).mono ?_
  rintro e w' ⟨rfl, rfl⟩
  go_wp2_with fail
  refine (BG.out _).mono ?_
  rintro e w' ⟨rfl, rfl⟩
  go_wp2_with fail
  refine (S1.out _).mono ?_
  rintro e w' ⟨rfl, rfl⟩
  go_wp2_with fail
  refine (BH.out _).mono ?_
  rintro e w' ⟨rfl, rfl⟩
  go_wp2_with fail
  refine (S2.out _).mono ?_
  rintro e w' ⟨rfl, rfl⟩
  go_wp2_with fail
  refine (BS.out _).mono ?_
  rintro e w' ⟨rfl, rfl⟩
  go_wp2_with fail
  refine (S3.out _).mono ?_
  rintro e w' ⟨rfl, rfl⟩
  go_wp2_with fail
  refine (C.out _).mono ?_
  rintro e w' ⟨rfl, rfl⟩
  go_wp2_with fail
  refine (PW.out _).mono ?_
  rintro e w' ⟨rfl, rfl⟩
  go_wp2_with fail
  refine (CP.out _).mono ?_
  rintro e w' ⟨rfl, rfl⟩
  go_wp2
  go_ret2
  exact ⟨rfl, rfl⟩
set_option maxHeartbeats 2000000 in
theorem rsum_uhn (g h s r : Nat) (mg_ mh ms Mg Mh Ms Eg Eh Es : Int) (w : World) (hadd : Ieee.double.add g h = some s)
    (MS : Hid (∀ w, Calls Try.prog 39 #[.float .f64 s] w fun e w' => e = .returned (.int .u64 ms) ∧ w' = w)) (hms : ms < 9218868437227405312)
    (MG : Hid (∀ w, Calls Try.prog 39 #[.float .f64 g] w fun e w' => e = .returned (.int .u64 mg_) ∧ w' = w)) (MH : Hid (∀ w, Calls Try.prog 39 #[.float .f64 h] w fun e w' => e = .returned (.int .u64 mh) ∧ w' = w)) (ho : ¬ mg_ < mh)
    (PG : Hid (∀ w, Calls Try.prog 41 #[.float .f64 g] w fun e w' => e = .returned (.tuple #[.int .u64 Mg, .int .i64 Eg]) ∧ w' = w)) (PH : Hid (∀ w, Calls Try.prog 41 #[.float .f64 h] w fun e w' => e = .returned (.tuple #[.int .u64 Mh, .int .i64 Eh]) ∧ w' = w)) (PS : Hid (∀ w, Calls Try.prog 41 #[.float .f64 s] w fun e w' => e = .returned (.tuple #[.int .u64 Ms, .int .i64 Es]) ∧ w' = w))
    (C : Hid (∀ w, Calls Try.prog 40 #[.float .f64 s] w fun e w' => e = .returned (.float .f64 r) ∧ w' = w)) (hz : (Mh == 0) = false) (b1 : -1074 ≤ Eh) (_b2 : Eg ≤ 971) (b3 : -1074 ≤ Es) (b4 : Es ≤ 971) (b5 : Eh ≤ Eg) (hf : ¬ 56 < Eg - Eh) (hl : ¬ Es < Eh)
    (bg bh bs : Bool) (BG : Hid (∀ w, Calls Try.prog 43 #[.float .f64 g] w fun e w' => e = .returned (.bool bg) ∧ w' = w)) (BH : Hid (∀ w, Calls Try.prog 43 #[.float .f64 h] w fun e w' => e = .returned (.bool bh) ∧ w' = w)) (BS : Hid (∀ w, Calls Try.prog 43 #[.float .f64 s] w fun e w' => e = .returned (.bool bs) ∧ w' = w)) (t1 t2 t3 X : Int)
    (S1 : Hid (∀ w, Calls Try.prog 42 #[.int .u64 Mg, .int .i64 (Eg - Eh), .bool bg] w fun e w' => e = .returned (.int .u64 t1) ∧ w' = w)) (S2 : Hid (∀ w, Calls Try.prog 42 #[.int .u64 Mh, .int .i64 (0), .bool bh] w fun e w' => e = .returned (.int .u64 t2) ∧ w' = w)) (S3 : Hid (∀ w, Calls Try.prog 42 #[.int .u64 Ms, .int .i64 (Es - Eh), .bool bs] w fun e w' => e = .returned (.int .u64 t3) ∧ w' = w))
    (hX : IntKind.i64.wrap (IntKind.u64.wrap (IntKind.u64.wrap (t1 + t2) - t3)) = X) (hX1 : X < 0) (hX2 : -9007199254740992 ≤ X)
    (y yn q p l : Nat) (hy : floatOfInt .f64 (-X) = y) (hyn : Op.negFloat .f64 y = yn) (PW : Hid (∀ w, Calls Try.prog 44 #[.int .i64 Eh] w fun e w' => e = .returned (.float .f64 q) ∧ w' = w)) (hm : Ieee.double.mul yn q = some p) (CP : Hid (∀ w, Calls Try.prog 40 #[.float .f64 p] w fun e w' => e = .returned (.float .f64 l) ∧ w' = w)) :
    Calls Try.prog 29 #[.float .f64 g, .float .f64 h] w fun e w' => e = .returned (.tuple #[.float .f64 r, .float .f64 l]) ∧ w' = w := by
  have hc := fun (t : TypeId) (w : World) => run_float_arith (P := Try.prog) w .add t .f64 g h s hadd
  clear hadd
  have hcv := fun (w : World) => run_convert_int_float (P := Try.prog) w 2 25 .i64 .f64 (-X) (by kernel_rfl) (by kernel_rfl)
  rw [hy] at hcv
  have hcm := fun (t : TypeId) (w : World) => run_float_arith (P := Try.prog) w .mul t .f64 yn q p hm
  clear hy hm
  go_enter Try.func29, Try.ntmps29
  go_wp2_with fail
  refine (MS.out _).mono ?_
  rintro e w' ⟨rfl, rfl⟩
  go_wp2_with fail
  refine (MG.out _).mono ?_
  rintro e w' ⟨rfl, rfl⟩
  go_wp2_with fail
  refine (MH.out _).mono ?_
  rintro e w' ⟨rfl, rfl⟩
  go_wp2_with fail
  refine (PG.out _).mono ?_
  rintro e w' ⟨rfl, rfl⟩
  go_wp2_with fail
  refine (PH.out _).mono ?_
  rintro e w' ⟨rfl, rfl⟩
  go_wp2_with fail
  refine (PS.out _).mono ?_
  rintro e w' ⟨rfl, rfl⟩
  go_wp2_with fail
  refine (BG.out _).mono ?_
  rintro e w' ⟨rfl, rfl⟩
  go_wp2_with fail
  refine (S1.out _).mono ?_
  rintro e w' ⟨rfl, rfl⟩
  go_wp2_with fail
  refine (BH.out _).mono ?_
  rintro e w' ⟨rfl, rfl⟩
  go_wp2_with fail
  refine (S2.out _).mono ?_
  rintro e w' ⟨rfl, rfl⟩
  go_wp2_with fail
  refine (BS.out _).mono ?_
  rintro e w' ⟨rfl, rfl⟩
  go_wp2_with fail
  refine (S3.out _).mono ?_
  rintro e w' ⟨rfl, rfl⟩
  go_wp2_with fail
  refine (C.out _).mono ?_
  rintro e w' ⟨rfl, rfl⟩
  go_wp2_with fail
  refine (PW.out _).mono ?_
  rintro e w' ⟨rfl, rfl⟩
  go_wp2_with fail
  refine (CP.out _).mono ?_
  rintro e w' ⟨rfl, rfl⟩
  go_wp2
  go_ret2
  exact ⟨rfl, rfl⟩
set_option maxHeartbeats 2000000 in
theorem rsum_usp (g h s r : Nat) (mg_ mh ms Mg Mh Ms Eg Eh Es : Int) (w : World) (hadd : Ieee.double.add g h = some s)
    (MS : Hid (∀ w, Calls Try.prog 39 #[.float .f64 s] w fun e w' => e = .returned (.int .u64 ms) ∧ w' = w)) (hms : ms < 9218868437227405312)
    (MG : Hid (∀ w, Calls Try.prog 39 #[.float .f64 g] w fun e w' => e = .returned (.int .u64 mg_) ∧ w' = w)) (MH : Hid (∀ w, Calls Try.prog 39 #[.float .f64 h] w fun e w' => e = .returned (.int .u64 mh) ∧ w' = w)) (ho : ¬ mg_ < mh)
    (PG : Hid (∀ w, Calls Try.prog 41 #[.float .f64 g] w fun e w' => e = .returned (.tuple #[.int .u64 Mg, .int .i64 Eg]) ∧ w' = w)) (PH : Hid (∀ w, Calls Try.prog 41 #[.float .f64 h] w fun e w' => e = .returned (.tuple #[.int .u64 Mh, .int .i64 Eh]) ∧ w' = w)) (PS : Hid (∀ w, Calls Try.prog 41 #[.float .f64 s] w fun e w' => e = .returned (.tuple #[.int .u64 Ms, .int .i64 Es]) ∧ w' = w))
    (C : Hid (∀ w, Calls Try.prog 40 #[.float .f64 s] w fun e w' => e = .returned (.float .f64 r) ∧ w' = w)) (hz : (Mh == 0) = false) (b1 : -1074 ≤ Eh) (b2 : Eg ≤ 971) (b3 : -1074 ≤ Es) (b4 : Es ≤ 971) (b5 : Eh ≤ Eg) (hf : ¬ 56 < Eg - Eh) (hl : Es < Eh)
    (bg bh bs : Bool) (BG : Hid (∀ w, Calls Try.prog 43 #[.float .f64 g] w fun e w' => e = .returned (.bool bg) ∧ w' = w)) (BH : Hid (∀ w, Calls Try.prog 43 #[.float .f64 h] w fun e w' => e = .returned (.bool bh) ∧ w' = w)) (BS : Hid (∀ w, Calls Try.prog 43 #[.float .f64 s] w fun e w' => e = .returned (.bool bs) ∧ w' = w)) (t1 t2 t3 X : Int)
    (S1 : Hid (∀ w, Calls Try.prog 42 #[.int .u64 Mg, .int .i64 (Eg - Es), .bool bg] w fun e w' => e = .returned (.int .u64 t1) ∧ w' = w)) (S2 : Hid (∀ w, Calls Try.prog 42 #[.int .u64 Mh, .int .i64 (Eh - Es), .bool bh] w fun e w' => e = .returned (.int .u64 t2) ∧ w' = w)) (S3 : Hid (∀ w, Calls Try.prog 42 #[.int .u64 Ms, .int .i64 (0), .bool bs] w fun e w' => e = .returned (.int .u64 t3) ∧ w' = w))
    (hX : IntKind.i64.wrap (IntKind.u64.wrap (IntKind.u64.wrap (t1 + t2) - t3)) = X) (hX1 : 0 ≤ X) (hX2 : X ≤ 9007199254740992)
    (y q p l : Nat) (hy : floatOfInt .f64 X = y) (PW : Hid (∀ w, Calls Try.prog 44 #[.int .i64 Es] w fun e w' => e = .returned (.float .f64 q) ∧ w' = w)) (hm : Ieee.double.mul y q = some p) (CP : Hid (∀ w, Calls Try.prog 40 #[.float .f64 p] w fun e w' => e = .returned (.float .f64 l) ∧ w' = w)) :
    Calls Try.prog 29 #[.float .f64 g, .float .f64 h] w fun e w' => e = .returned (.tuple #[.float .f64 r, .float .f64 l]) ∧ w' = w := by
  have hc := fun (t : TypeId) (w : World) => run_float_arith (P := Try.prog) w .add t .f64 g h s hadd
  clear hadd
  have hcv := fun (w : World) => run_convert_int_float (P := Try.prog) w 2 25 .i64 .f64 X (by kernel_rfl) (by kernel_rfl)
  rw [hy] at hcv
  have hcm := fun (t : TypeId) (w : World) => run_float_arith (P := Try.prog) w .mul t .f64 y q p hm
  clear hy hm
  go_enter Try.func29, Try.ntmps29
  go_wp2_with fail
  refine (MS.out _).mono ?_
  rintro e w' ⟨rfl, rfl⟩
  go_wp2_with fail
  refine (MG.out _).mono ?_
  rintro e w' ⟨rfl, rfl⟩
  go_wp2_with fail
  refine (MH.out _).mono ?_
  rintro e w' ⟨rfl, rfl⟩
  go_wp2_with fail
  refine (PG.out _).mono ?_
  rintro e w' ⟨rfl, rfl⟩
  go_wp2_with fail
  refine (PH.out _).mono ?_
  rintro e w' ⟨rfl, rfl⟩
  go_wp2_with fail
  refine (PS.out _).mono ?_
  rintro e w' ⟨rfl, rfl⟩
  go_wp2_with fail
  refine (BG.out _).mono ?_
  rintro e w' ⟨rfl, rfl⟩
  go_wp2_with fail
  refine (S1.out _).mono ?_
  rintro e w' ⟨rfl, rfl⟩
  go_wp2_with fail
  refine (BH.out _).mono ?_
  rintro e w' ⟨rfl, rfl⟩
  go_wp2_with fail
  refine (S2.out _).mono ?_
  rintro e w' ⟨rfl, rfl⟩
  go_wp2_with fail
  refine (BS.out _).mono ?_
  rintro e w' ⟨rfl, rfl⟩
  go_wp2_with fail
  refine (S3.out _).mono ?_
  rintro e w' ⟨rfl, rfl⟩
  go_wp2_with fail
  refine (C.out _).mono ?_
  rintro e w' ⟨rfl, rfl⟩
  go_wp2_with fail
  refine (PW.out _).mono ?_
  rintro e w' ⟨rfl, rfl⟩
  go_wp2_with fail
  refine (CP.out _).mono ?_
  rintro e w' ⟨rfl, rfl⟩
  go_wp2
  go_ret2
  exact ⟨rfl, rfl⟩
set_option maxHeartbeats 2000000 in
theorem rsum_usn (g h s r : Nat) (mg_ mh ms Mg Mh Ms Eg Eh Es : Int) (w : World) (hadd : Ieee.double.add g h = some s)
    (MS : Hid (∀ w, Calls Try.prog 39 #[.float .f64 s] w fun e w' => e = .returned (.int .u64 ms) ∧ w' = w)) (hms : ms < 9218868437227405312)
    (MG : Hid (∀ w, Calls Try.prog 39 #[.float .f64 g] w fun e w' => e = .returned (.int .u64 mg_) ∧ w' = w)) (MH : Hid (∀ w, Calls Try.prog 39 #[.float .f64 h] w fun e w' => e = .returned (.int .u64 mh) ∧ w' = w)) (ho : ¬ mg_ < mh)
    (PG : Hid (∀ w, Calls Try.prog 41 #[.float .f64 g] w fun e w' => e = .returned (.tuple #[.int .u64 Mg, .int .i64 Eg]) ∧ w' = w)) (PH : Hid (∀ w, Calls Try.prog 41 #[.float .f64 h] w fun e w' => e = .returned (.tuple #[.int .u64 Mh, .int .i64 Eh]) ∧ w' = w)) (PS : Hid (∀ w, Calls Try.prog 41 #[.float .f64 s] w fun e w' => e = .returned (.tuple #[.int .u64 Ms, .int .i64 Es]) ∧ w' = w))
    (C : Hid (∀ w, Calls Try.prog 40 #[.float .f64 s] w fun e w' => e = .returned (.float .f64 r) ∧ w' = w)) (hz : (Mh == 0) = false) (b1 : -1074 ≤ Eh) (b2 : Eg ≤ 971) (b3 : -1074 ≤ Es) (b4 : Es ≤ 971) (b5 : Eh ≤ Eg) (hf : ¬ 56 < Eg - Eh) (hl : Es < Eh)
    (bg bh bs : Bool) (BG : Hid (∀ w, Calls Try.prog 43 #[.float .f64 g] w fun e w' => e = .returned (.bool bg) ∧ w' = w)) (BH : Hid (∀ w, Calls Try.prog 43 #[.float .f64 h] w fun e w' => e = .returned (.bool bh) ∧ w' = w)) (BS : Hid (∀ w, Calls Try.prog 43 #[.float .f64 s] w fun e w' => e = .returned (.bool bs) ∧ w' = w)) (t1 t2 t3 X : Int)
    (S1 : Hid (∀ w, Calls Try.prog 42 #[.int .u64 Mg, .int .i64 (Eg - Es), .bool bg] w fun e w' => e = .returned (.int .u64 t1) ∧ w' = w)) (S2 : Hid (∀ w, Calls Try.prog 42 #[.int .u64 Mh, .int .i64 (Eh - Es), .bool bh] w fun e w' => e = .returned (.int .u64 t2) ∧ w' = w)) (S3 : Hid (∀ w, Calls Try.prog 42 #[.int .u64 Ms, .int .i64 (0), .bool bs] w fun e w' => e = .returned (.int .u64 t3) ∧ w' = w))
    (hX : IntKind.i64.wrap (IntKind.u64.wrap (IntKind.u64.wrap (t1 + t2) - t3)) = X) (hX1 : X < 0) (hX2 : -9007199254740992 ≤ X)
    (y yn q p l : Nat) (hy : floatOfInt .f64 (-X) = y) (hyn : Op.negFloat .f64 y = yn) (PW : Hid (∀ w, Calls Try.prog 44 #[.int .i64 Es] w fun e w' => e = .returned (.float .f64 q) ∧ w' = w)) (hm : Ieee.double.mul yn q = some p) (CP : Hid (∀ w, Calls Try.prog 40 #[.float .f64 p] w fun e w' => e = .returned (.float .f64 l) ∧ w' = w)) :
    Calls Try.prog 29 #[.float .f64 g, .float .f64 h] w fun e w' => e = .returned (.tuple #[.float .f64 r, .float .f64 l]) ∧ w' = w := by
  have hc := fun (t : TypeId) (w : World) => run_float_arith (P := Try.prog) w .add t .f64 g h s hadd
  clear hadd
  have hcv := fun (w : World) => run_convert_int_float (P := Try.prog) w 2 25 .i64 .f64 (-X) (by kernel_rfl) (by kernel_rfl)
  rw [hy] at hcv
  have hcm := fun (t : TypeId) (w : World) => run_float_arith (P := Try.prog) w .mul t .f64 yn q p hm
  clear hy hm
  go_enter Try.func29, Try.ntmps29
  go_wp2_with fail
  refine (MS.out _).mono ?_
  rintro e w' ⟨rfl, rfl⟩
  go_wp2_with fail
  refine (MG.out _).mono ?_
  rintro e w' ⟨rfl, rfl⟩
  go_wp2_with fail
  refine (MH.out _).mono ?_
  rintro e w' ⟨rfl, rfl⟩
  go_wp2_with fail
  refine (PG.out _).mono ?_
  rintro e w' ⟨rfl, rfl⟩
  go_wp2_with fail
  refine (PH.out _).mono ?_
  rintro e w' ⟨rfl, rfl⟩
  go_wp2_with fail
  refine (PS.out _).mono ?_
  rintro e w' ⟨rfl, rfl⟩
  go_wp2_with fail
  refine (BG.out _).mono ?_
  rintro e w' ⟨rfl, rfl⟩
  go_wp2_with fail
  refine (S1.out _).mono ?_
  rintro e w' ⟨rfl, rfl⟩
  go_wp2_with fail
  refine (BH.out _).mono ?_
  rintro e w' ⟨rfl, rfl⟩
  go_wp2_with fail
  refine (S2.out _).mono ?_
  rintro e w' ⟨rfl, rfl⟩
  go_wp2_with fail
  refine (BS.out _).mono ?_
  rintro e w' ⟨rfl, rfl⟩
  go_wp2_with fail
  refine (S3.out _).mono ?_
  rintro e w' ⟨rfl, rfl⟩
  go_wp2_with fail
  refine (C.out _).mono ?_
  rintro e w' ⟨rfl, rfl⟩
  go_wp2_with fail
  refine (PW.out _).mono ?_
  rintro e w' ⟨rfl, rfl⟩
  go_wp2_with fail
  refine (CP.out _).mono ?_
  rintro e w' ⟨rfl, rfl⟩
  go_wp2
  go_ret2
  exact ⟨rfl, rfl⟩
set_option maxHeartbeats 1000000 in
theorem rsum_zero_s (g h s r : Nat) (mg_ mh ms Mg Mh Ms Eg Eh Es : Int) (w : World) (hadd : Ieee.double.add h g = some s)
    (MS : Hid (∀ w, Calls Try.prog 39 #[.float .f64 s] w fun e w' => e = .returned (.int .u64 ms) ∧ w' = w)) (hms : ms < 9218868437227405312)
    (MG : Hid (∀ w, Calls Try.prog 39 #[.float .f64 g] w fun e w' => e = .returned (.int .u64 mg_) ∧ w' = w)) (MH : Hid (∀ w, Calls Try.prog 39 #[.float .f64 h] w fun e w' => e = .returned (.int .u64 mh) ∧ w' = w)) (ho : mh < mg_)
    (PG : Hid (∀ w, Calls Try.prog 41 #[.float .f64 g] w fun e w' => e = .returned (.tuple #[.int .u64 Mg, .int .i64 Eg]) ∧ w' = w)) (PH : Hid (∀ w, Calls Try.prog 41 #[.float .f64 h] w fun e w' => e = .returned (.tuple #[.int .u64 Mh, .int .i64 Eh]) ∧ w' = w)) (PS : Hid (∀ w, Calls Try.prog 41 #[.float .f64 s] w fun e w' => e = .returned (.tuple #[.int .u64 Ms, .int .i64 Es]) ∧ w' = w))
    (C : Hid (∀ w, Calls Try.prog 40 #[.float .f64 s] w fun e w' => e = .returned (.float .f64 r) ∧ w' = w)) (hz : Mh = 0) :
    Calls Try.prog 29 #[.float .f64 h, .float .f64 g] w fun e w' => e = .returned (.tuple #[.float .f64 r, .float .f64 0]) ∧ w' = w := by
  have hc := fun (t : TypeId) (w : World) => run_float_arith (P := Try.prog) w .add t .f64 h g s hadd
  clear hadd
  subst hz
  go_enter Try.func29, Try.ntmps29
  go_wp2_with fail
  refine (MS.out _).mono ?_
  rintro e w' ⟨rfl, rfl⟩
  go_wp2_with fail
  refine (MH.out _).mono ?_
  rintro e w' ⟨rfl, rfl⟩
  go_wp2_with fail
  refine (MG.out _).mono ?_
  rintro e w' ⟨rfl, rfl⟩
  go_wp2_with fail
  refine (PG.out _).mono ?_
  rintro e w' ⟨rfl, rfl⟩
  go_wp2_with fail
  refine (PH.out _).mono ?_
  rintro e w' ⟨rfl, rfl⟩
  go_wp2_with fail
  refine (PS.out _).mono ?_
  rintro e w' ⟨rfl, rfl⟩
  go_wp2_with fail
  refine (C.out _).mono ?_
  rintro e w' ⟨rfl, rfl⟩
  go_wp2
  go_ret2
  exact ⟨rfl, rfl⟩
set_option maxHeartbeats 1000000 in
theorem rsum_far_s (g h s r : Nat) (mg_ mh ms Mg Mh Ms Eg Eh Es : Int) (w : World) (hadd : Ieee.double.add h g = some s)
    (MS : Hid (∀ w, Calls Try.prog 39 #[.float .f64 s] w fun e w' => e = .returned (.int .u64 ms) ∧ w' = w)) (hms : ms < 9218868437227405312)
    (MG : Hid (∀ w, Calls Try.prog 39 #[.float .f64 g] w fun e w' => e = .returned (.int .u64 mg_) ∧ w' = w)) (MH : Hid (∀ w, Calls Try.prog 39 #[.float .f64 h] w fun e w' => e = .returned (.int .u64 mh) ∧ w' = w)) (ho : mh < mg_)
    (PG : Hid (∀ w, Calls Try.prog 41 #[.float .f64 g] w fun e w' => e = .returned (.tuple #[.int .u64 Mg, .int .i64 Eg]) ∧ w' = w)) (PH : Hid (∀ w, Calls Try.prog 41 #[.float .f64 h] w fun e w' => e = .returned (.tuple #[.int .u64 Mh, .int .i64 Eh]) ∧ w' = w)) (PS : Hid (∀ w, Calls Try.prog 41 #[.float .f64 s] w fun e w' => e = .returned (.tuple #[.int .u64 Ms, .int .i64 Es]) ∧ w' = w))
    (C : Hid (∀ w, Calls Try.prog 40 #[.float .f64 s] w fun e w' => e = .returned (.float .f64 r) ∧ w' = w)) (hz : (Mh == 0) = false) (b1 : -1074 ≤ Eh) (b2 : Eg ≤ 971) (hf : 56 < Eg - Eh) :
    Calls Try.prog 29 #[.float .f64 h, .float .f64 g] w fun e w' => e = .returned (.tuple #[.float .f64 r, .float .f64 h]) ∧ w' = w := by
  have hc := fun (t : TypeId) (w : World) => run_float_arith (P := Try.prog) w .add t .f64 h g s hadd
  clear hadd
  go_enter Try.func29, Try.ntmps29
  go_wp2_with fail
  refine (MS.out _).mono ?_
  rintro e w' ⟨rfl, rfl⟩
  go_wp2_with fail
  refine (MH.out _).mono ?_
  rintro e w' ⟨rfl, rfl⟩
  go_wp2_with fail
  refine (MG.out _).mono ?_
  rintro e w' ⟨rfl, rfl⟩
  go_wp2_with fail
  refine (PG.out _).mono ?_
  rintro e w' ⟨rfl, rfl⟩
  go_wp2_with fail
  refine (PH.out _).mono ?_
  rintro e w' ⟨rfl, rfl⟩
  go_wp2_with fail
  refine (PS.out _).mono ?_
  rintro e w' ⟨rfl, rfl⟩
  go_wp2_with fail
  refine (C.out _).mono ?_
  rintro e w' ⟨rfl, rfl⟩
  go_wp2
  go_ret2
  exact ⟨rfl, rfl⟩
set_option maxHeartbeats 2000000 in
theorem rsum_shp (g h s r : Nat) (mg_ mh ms Mg Mh Ms Eg Eh Es : Int) (w : World) (hadd : Ieee.double.add h g = some s)
    (MS : Hid (∀ w, Calls Try.prog 39 #[.float .f64 s] w fun e w' => e = .returned (.int .u64 ms) ∧ w' = w)) (hms : ms < 9218868437227405312)
    (MG : Hid (∀ w, Calls Try.prog 39 #[.float .f64 g] w fun e w' => e = .returned (.int .u64 mg_) ∧ w' = w)) (MH : Hid (∀ w, Calls Try.prog 39 #[.float .f64 h] w fun e w' => e = .returned (.int .u64 mh) ∧ w' = w)) (ho : mh < mg_)
    (PG : Hid (∀ w, Calls Try.prog 41 #[.float .f64 g] w fun e w' => e = .returned (.tuple #[.int .u64 Mg, .int .i64 Eg]) ∧ w' = w)) (PH : Hid (∀ w, Calls Try.prog 41 #[.float .f64 h] w fun e w' => e = .returned (.tuple #[.int .u64 Mh, .int .i64 Eh]) ∧ w' = w)) (PS : Hid (∀ w, Calls Try.prog 41 #[.float .f64 s] w fun e w' => e = .returned (.tuple #[.int .u64 Ms, .int .i64 Es]) ∧ w' = w))
    (C : Hid (∀ w, Calls Try.prog 40 #[.float .f64 s] w fun e w' => e = .returned (.float .f64 r) ∧ w' = w)) (hz : (Mh == 0) = false) (b1 : -1074 ≤ Eh) (_b2 : Eg ≤ 971) (b3 : -1074 ≤ Es) (b4 : Es ≤ 971) (b5 : Eh ≤ Eg) (hf : ¬ 56 < Eg - Eh) (hl : ¬ Es < Eh)
    (bg bh bs : Bool) (BG : Hid (∀ w, Calls Try.prog 43 #[.float .f64 g] w fun e w' => e = .returned (.bool bg) ∧ w' = w)) (BH : Hid (∀ w, Calls Try.prog 43 #[.float .f64 h] w fun e w' => e = .returned (.bool bh) ∧ w' = w)) (BS : Hid (∀ w, Calls Try.prog 43 #[.float .f64 s] w fun e w' => e = .returned (.bool bs) ∧ w' = w)) (t1 t2 t3 X : Int)
    (S1 : Hid (∀ w, Calls Try.prog 42 #[.int .u64 Mg, .int .i64 (Eg - Eh), .bool bg] w fun e w' => e = .returned (.int .u64 t1) ∧ w' = w)) (S2 : Hid (∀ w, Calls Try.prog 42 #[.int .u64 Mh, .int .i64 (0), .bool bh] w fun e w' => e = .returned (.int .u64 t2) ∧ w' = w)) (S3 : Hid (∀ w, Calls Try.prog 42 #[.int .u64 Ms, .int .i64 (Es - Eh), .bool bs] w fun e w' => e = .returned (.int .u64 t3) ∧ w' = w))
    (hX : IntKind.i64.wrap (IntKind.u64.wrap (IntKind.u64.wrap (t1 + t2) - t3)) = X) (hX1 : 0 ≤ X) (hX2 : X ≤ 9007199254740992)
    (y q p l : Nat) (hy : floatOfInt .f64 X = y) (PW : Hid (∀ w, Calls Try.prog 44 #[.int .i64 Eh] w fun e w' => e = .returned (.float .f64 q) ∧ w' = w)) (hm : Ieee.double.mul y q = some p) (CP : Hid (∀ w, Calls Try.prog 40 #[.float .f64 p] w fun e w' => e = .returned (.float .f64 l) ∧ w' = w)) :
    Calls Try.prog 29 #[.float .f64 h, .float .f64 g] w fun e w' => e = .returned (.tuple #[.float .f64 r, .float .f64 l]) ∧ w' = w := by
  have hc := fun (t : TypeId) (w : World) => run_float_arith (P := Try.prog) w .add t .f64 h g s hadd
  clear hadd
  have hcv := fun (w : World) => run_convert_int_float (P := Try.prog) w 2 25 .i64 .f64 X (by kernel_rfl) (by kernel_rfl)
  rw [hy] at hcv
  have hcm := fun (t : TypeId) (w : World) => run_float_arith (P := Try.prog) w .mul t .f64 y q p hm
  clear hy hm
  go_enter Try.func29, Try.ntmps29
  go_wp2_with fail
  refine (MS.out _).mono ?_
  rintro e w' ⟨rfl, rfl⟩
  go_wp2_with fail
  refine (MH.out _).mono ?_
  rintro e w' ⟨rfl, rfl⟩
  go_wp2_with fail
  refine (MG.out _).mono ?_
  rintro e w' ⟨rfl, rfl⟩
  go_wp2_with fail
  refine (PG.out _).mono ?_
  rintro e w' ⟨rfl, rfl⟩
  go_wp2_with fail
  refine (PH.out _).mono ?_
  rintro e w' ⟨rfl, rfl⟩
  go_wp2_with fail
  refine (PS.out _).mono ?_
  rintro e w' ⟨rfl, rfl⟩
  go_wp2_with fail
  refine (BG.out _).mono ?_
  rintro e w' ⟨rfl, rfl⟩
  go_wp2_with fail
  refine (S1.out _).mono ?_
  rintro e w' ⟨rfl, rfl⟩
  go_wp2_with fail
  refine (BH.out _).mono ?_
  rintro e w' ⟨rfl, rfl⟩
  go_wp2_with fail
  refine (S2.out _).mono ?_
  rintro e w' ⟨rfl, rfl⟩
  go_wp2_with fail
  refine (BS.out _).mono ?_
  rintro e w' ⟨rfl, rfl⟩
  go_wp2_with fail
  refine (S3.out _).mono ?_
  rintro e w' ⟨rfl, rfl⟩
  go_wp2_with fail
  refine (C.out _).mono ?_
  rintro e w' ⟨rfl, rfl⟩
  go_wp2_with fail
  refine (PW.out _).mono ?_
  rintro e w' ⟨rfl, rfl⟩
  go_wp2_with fail
  refine (CP.out _).mono ?_
  rintro e w' ⟨rfl, rfl⟩
  go_wp2
  go_ret2
  exact ⟨rfl, rfl⟩
set_option maxHeartbeats 2000000 in
theorem rsum_shn (g h s r : Nat) (mg_ mh ms Mg Mh Ms Eg Eh Es : Int) (w : World) (hadd : Ieee.double.add h g = some s)
    (MS : Hid (∀ w, Calls Try.prog 39 #[.float .f64 s] w fun e w' => e = .returned (.int .u64 ms) ∧ w' = w)) (hms : ms < 9218868437227405312)
    (MG : Hid (∀ w, Calls Try.prog 39 #[.float .f64 g] w fun e w' => e = .returned (.int .u64 mg_) ∧ w' = w)) (MH : Hid (∀ w, Calls Try.prog 39 #[.float .f64 h] w fun e w' => e = .returned (.int .u64 mh) ∧ w' = w)) (ho : mh < mg_)
    (PG : Hid (∀ w, Calls Try.prog 41 #[.float .f64 g] w fun e w' => e = .returned (.tuple #[.int .u64 Mg, .int .i64 Eg]) ∧ w' = w)) (PH : Hid (∀ w, Calls Try.prog 41 #[.float .f64 h] w fun e w' => e = .returned (.tuple #[.int .u64 Mh, .int .i64 Eh]) ∧ w' = w)) (PS : Hid (∀ w, Calls Try.prog 41 #[.float .f64 s] w fun e w' => e = .returned (.tuple #[.int .u64 Ms, .int .i64 Es]) ∧ w' = w))
    (C : Hid (∀ w, Calls Try.prog 40 #[.float .f64 s] w fun e w' => e = .returned (.float .f64 r) ∧ w' = w)) (hz : (Mh == 0) = false) (b1 : -1074 ≤ Eh) (_b2 : Eg ≤ 971) (b3 : -1074 ≤ Es) (b4 : Es ≤ 971) (b5 : Eh ≤ Eg) (hf : ¬ 56 < Eg - Eh) (hl : ¬ Es < Eh)
    (bg bh bs : Bool) (BG : Hid (∀ w, Calls Try.prog 43 #[.float .f64 g] w fun e w' => e = .returned (.bool bg) ∧ w' = w)) (BH : Hid (∀ w, Calls Try.prog 43 #[.float .f64 h] w fun e w' => e = .returned (.bool bh) ∧ w' = w)) (BS : Hid (∀ w, Calls Try.prog 43 #[.float .f64 s] w fun e w' => e = .returned (.bool bs) ∧ w' = w)) (t1 t2 t3 X : Int)
    (S1 : Hid (∀ w, Calls Try.prog 42 #[.int .u64 Mg, .int .i64 (Eg - Eh), .bool bg] w fun e w' => e = .returned (.int .u64 t1) ∧ w' = w)) (S2 : Hid (∀ w, Calls Try.prog 42 #[.int .u64 Mh, .int .i64 (0), .bool bh] w fun e w' => e = .returned (.int .u64 t2) ∧ w' = w)) (S3 : Hid (∀ w, Calls Try.prog 42 #[.int .u64 Ms, .int .i64 (Es - Eh), .bool bs] w fun e w' => e = .returned (.int .u64 t3) ∧ w' = w))
    (hX : IntKind.i64.wrap (IntKind.u64.wrap (IntKind.u64.wrap (t1 + t2) - t3)) = X) (hX1 : X < 0) (hX2 : -9007199254740992 ≤ X)
    (y yn q p l : Nat) (hy : floatOfInt .f64 (-X) = y) (hyn : Op.negFloat .f64 y = yn) (PW : Hid (∀ w, Calls Try.prog 44 #[.int .i64 Eh] w fun e w' => e = .returned (.float .f64 q) ∧ w' = w)) (hm : Ieee.double.mul yn q = some p) (CP : Hid (∀ w, Calls Try.prog 40 #[.float .f64 p] w fun e w' => e = .returned (.float .f64 l) ∧ w' = w)) :
    Calls Try.prog 29 #[.float .f64 h, .float .f64 g] w fun e w' => e = .returned (.tuple #[.float .f64 r, .float .f64 l]) ∧ w' = w := by
  have hc := fun (t : TypeId) (w : World) => run_float_arith (P := Try.prog) w .add t .f64 h g s hadd
  clear hadd
  have hcv := fun (w : World) => run_convert_int_float (P := Try.prog) w 2 25 .i64 .f64 (-X) (by kernel_rfl) (by kernel_rfl)
  rw [hy] at hcv
  have hcm := fun (t : TypeId) (w : World) => run_float_arith (P := Try.prog) w .mul t .f64 yn q p hm
  clear hy hm
  go_enter Try.func29, Try.ntmps29
  go_wp2_with fail
  refine (MS.out _).mono ?_
  rintro e w' ⟨rfl, rfl⟩
  go_wp2_with fail
  refine (MH.out _).mono ?_
  rintro e w' ⟨rfl, rfl⟩
  go_wp2_with fail
  refine (MG.out _).mono ?_
  rintro e w' ⟨rfl, rfl⟩
  go_wp2_with fail
  refine (PG.out _).mono ?_
  rintro e w' ⟨rfl, rfl⟩
  go_wp2_with fail
  refine (PH.out _).mono ?_
  rintro e w' ⟨rfl, rfl⟩
  go_wp2_with fail
  refine (PS.out _).mono ?_
  rintro e w' ⟨rfl, rfl⟩
  go_wp2_with fail
  refine (BG.out _).mono ?_
  rintro e w' ⟨rfl, rfl⟩
  go_wp2_with fail
  refine (S1.out _).mono ?_
  rintro e w' ⟨rfl, rfl⟩
  go_wp2_with fail
  refine (BH.out _).mono ?_
  rintro e w' ⟨rfl, rfl⟩
  go_wp2_with fail
  refine (S2.out _).mono ?_
  rintro e w' ⟨rfl, rfl⟩
  go_wp2_with fail
  refine (BS.out _).mono ?_
  rintro e w' ⟨rfl, rfl⟩
  go_wp2_with fail
  refine (S3.out _).mono ?_
  rintro e w' ⟨rfl, rfl⟩
  go_wp2_with fail
  refine (C.out _).mono ?_
  rintro e w' ⟨rfl, rfl⟩
  go_wp2_with fail
  refine (PW.out _).mono ?_
  rintro e w' ⟨rfl, rfl⟩
  go_wp2_with fail
  refine (CP.out _).mono ?_
  rintro e w' ⟨rfl, rfl⟩
  go_wp2
  go_ret2
  exact ⟨rfl, rfl⟩
set_option maxHeartbeats 2000000 in
theorem rsum_ssp (g h s r : Nat) (mg_ mh ms Mg Mh Ms Eg Eh Es : Int) (w : World) (hadd : Ieee.double.add h g = some s)
    (MS : Hid (∀ w, Calls Try.prog 39 #[.float .f64 s] w fun e w' => e = .returned (.int .u64 ms) ∧ w' = w)) (hms : ms < 9218868437227405312)
    (MG : Hid (∀ w, Calls Try.prog 39 #[.float .f64 g] w fun e w' => e = .returned (.int .u64 mg_) ∧ w' = w)) (MH : Hid (∀ w, Calls Try.prog 39 #[.float .f64 h] w fun e w' => e = .returned (.int .u64 mh) ∧ w' = w)) (ho : mh < mg_)
    (PG : Hid (∀ w, Calls Try.prog 41 #[.float .f64 g] w fun e w' => e = .returned (.tuple #[.int .u64 Mg, .int .i64 Eg]) ∧ w' = w)) (PH : Hid (∀ w, Calls Try.prog 41 #[.float .f64 h] w fun e w' => e = .returned (.tuple #[.int .u64 Mh, .int .i64 Eh]) ∧ w' = w)) (PS : Hid (∀ w, Calls Try.prog 41 #[.float .f64 s] w fun e w' => e = .returned (.tuple #[.int .u64 Ms, .int .i64 Es]) ∧ w' = w))
    (C : Hid (∀ w, Calls Try.prog 40 #[.float .f64 s] w fun e w' => e = .returned (.float .f64 r) ∧ w' = w)) (hz : (Mh == 0) = false) (b1 : -1074 ≤ Eh) (b2 : Eg ≤ 971) (b3 : -1074 ≤ Es) (b4 : Es ≤ 971) (b5 : Eh ≤ Eg) (hf : ¬ 56 < Eg - Eh) (hl : Es < Eh)
    (bg bh bs : Bool) (BG : Hid (∀ w, Calls Try.prog 43 #[.float .f64 g] w fun e w' => e = .returned (.bool bg) ∧ w' = w)) (BH : Hid (∀ w, Calls Try.prog 43 #[.float .f64 h] w fun e w' => e = .returned (.bool bh) ∧ w' = w)) (BS : Hid (∀ w, Calls Try.prog 43 #[.float .f64 s] w fun e w' => e = .returned (.bool bs) ∧ w' = w)) (t1 t2 t3 X : Int)
    (S1 : Hid (∀ w, Calls Try.prog 42 #[.int .u64 Mg, .int .i64 (Eg - Es), .bool bg] w fun e w' => e = .returned (.int .u64 t1) ∧ w' = w)) (S2 : Hid (∀ w, Calls Try.prog 42 #[.int .u64 Mh, .int .i64 (Eh - Es), .bool bh] w fun e w' => e = .returned (.int .u64 t2) ∧ w' = w)) (S3 : Hid (∀ w, Calls Try.prog 42 #[.int .u64 Ms, .int .i64 (0), .bool bs] w fun e w' => e = .returned (.int .u64 t3) ∧ w' = w))
    (hX : IntKind.i64.wrap (IntKind.u64.wrap (IntKind.u64.wrap (t1 + t2) - t3)) = X) (hX1 : 0 ≤ X) (hX2 : X ≤ 9007199254740992)
    (y q p l : Nat) (hy : floatOfInt .f64 X = y) (PW : Hid (∀ w, Calls Try.prog 44 #[.int .i64 Es] w fun e w' => e = .returned (.float .f64 q) ∧ w' = w)) (hm : Ieee.double.mul y q = some p) (CP : Hid (∀ w, Calls Try.prog 40 #[.float .f64 p] w fun e w' => e = .returned (.float .f64 l) ∧ w' = w)) :
    Calls Try.prog 29 #[.float .f64 h, .float .f64 g] w fun e w' => e = .returned (.tuple #[.float .f64 r, .float .f64 l]) ∧ w' = w := by
  have hc := fun (t : TypeId) (w : World) => run_float_arith (P := Try.prog) w .add t .f64 h g s hadd
  clear hadd
  have hcv := fun (w : World) => run_convert_int_float (P := Try.prog) w 2 25 .i64 .f64 X (by kernel_rfl) (by kernel_rfl)
  rw [hy] at hcv
  have hcm := fun (t : TypeId) (w : World) => run_float_arith (P := Try.prog) w .mul t .f64 y q p hm
  clear hy hm
  go_enter Try.func29, Try.ntmps29
  go_wp2_with fail
  refine (MS.out _).mono ?_
  rintro e w' ⟨rfl, rfl⟩
  go_wp2_with fail
  refine (MH.out _).mono ?_
  rintro e w' ⟨rfl, rfl⟩
  go_wp2_with fail
  refine (MG.out _).mono ?_
  rintro e w' ⟨rfl, rfl⟩
  go_wp2_with fail
  refine (PG.out _).mono ?_
  rintro e w' ⟨rfl, rfl⟩
  go_wp2_with fail
  refine (PH.out _).mono ?_
  rintro e w' ⟨rfl, rfl⟩
  go_wp2_with fail
  refine (PS.out _).mono ?_
  rintro e w' ⟨rfl, rfl⟩
  go_wp2_with fail
  refine (BG.out _).mono ?_
  rintro e w' ⟨rfl, rfl⟩
  go_wp2_with fail
  refine (S1.out _).mono ?_
  rintro e w' ⟨rfl, rfl⟩
  go_wp2_with fail
  refine (BH.out _).mono ?_
  rintro e w' ⟨rfl, rfl⟩
  go_wp2_with fail
  refine (S2.out _).mono ?_
  rintro e w' ⟨rfl, rfl⟩
  go_wp2_with fail
  refine (BS.out _).mono ?_
  rintro e w' ⟨rfl, rfl⟩
  go_wp2_with fail
  refine (S3.out _).mono ?_
  rintro e w' ⟨rfl, rfl⟩
  go_wp2_with fail
  refine (C.out _).mono ?_
  rintro e w' ⟨rfl, rfl⟩
  go_wp2_with fail
  refine (PW.out _).mono ?_
  rintro e w' ⟨rfl, rfl⟩
  go_wp2_with fail
  refine (CP.out _).mono ?_
  rintro e w' ⟨rfl, rfl⟩
  go_wp2
  go_ret2
  exact ⟨rfl, rfl⟩
set_option maxHeartbeats 2000000 in
theorem rsum_ssn (g h s r : Nat) (mg_ mh ms Mg Mh Ms Eg Eh Es : Int) (w : World) (hadd : Ieee.double.add h g = some s)
    (MS : Hid (∀ w, Calls Try.prog 39 #[.float .f64 s] w fun e w' => e = .returned (.int .u64 ms) ∧ w' = w)) (hms : ms < 9218868437227405312)
    (MG : Hid (∀ w, Calls Try.prog 39 #[.float .f64 g] w fun e w' => e = .returned (.int .u64 mg_) ∧ w' = w)) (MH : Hid (∀ w, Calls Try.prog 39 #[.float .f64 h] w fun e w' => e = .returned (.int .u64 mh) ∧ w' = w)) (ho : mh < mg_)
    (PG : Hid (∀ w, Calls Try.prog 41 #[.float .f64 g] w fun e w' => e = .returned (.tuple #[.int .u64 Mg, .int .i64 Eg]) ∧ w' = w)) (PH : Hid (∀ w, Calls Try.prog 41 #[.float .f64 h] w fun e w' => e = .returned (.tuple #[.int .u64 Mh, .int .i64 Eh]) ∧ w' = w)) (PS : Hid (∀ w, Calls Try.prog 41 #[.float .f64 s] w fun e w' => e = .returned (.tuple #[.int .u64 Ms, .int .i64 Es]) ∧ w' = w))
    (C : Hid (∀ w, Calls Try.prog 40 #[.float .f64 s] w fun e w' => e = .returned (.float .f64 r) ∧ w' = w)) (hz : (Mh == 0) = false) (b1 : -1074 ≤ Eh) (b2 : Eg ≤ 971) (b3 : -1074 ≤ Es) (b4 : Es ≤ 971) (b5 : Eh ≤ Eg) (hf : ¬ 56 < Eg - Eh) (hl : Es < Eh)
    (bg bh bs : Bool) (BG : Hid (∀ w, Calls Try.prog 43 #[.float .f64 g] w fun e w' => e = .returned (.bool bg) ∧ w' = w)) (BH : Hid (∀ w, Calls Try.prog 43 #[.float .f64 h] w fun e w' => e = .returned (.bool bh) ∧ w' = w)) (BS : Hid (∀ w, Calls Try.prog 43 #[.float .f64 s] w fun e w' => e = .returned (.bool bs) ∧ w' = w)) (t1 t2 t3 X : Int)
    (S1 : Hid (∀ w, Calls Try.prog 42 #[.int .u64 Mg, .int .i64 (Eg - Es), .bool bg] w fun e w' => e = .returned (.int .u64 t1) ∧ w' = w)) (S2 : Hid (∀ w, Calls Try.prog 42 #[.int .u64 Mh, .int .i64 (Eh - Es), .bool bh] w fun e w' => e = .returned (.int .u64 t2) ∧ w' = w)) (S3 : Hid (∀ w, Calls Try.prog 42 #[.int .u64 Ms, .int .i64 (0), .bool bs] w fun e w' => e = .returned (.int .u64 t3) ∧ w' = w))
    (hX : IntKind.i64.wrap (IntKind.u64.wrap (IntKind.u64.wrap (t1 + t2) - t3)) = X) (hX1 : X < 0) (hX2 : -9007199254740992 ≤ X)
    (y yn q p l : Nat) (hy : floatOfInt .f64 (-X) = y) (hyn : Op.negFloat .f64 y = yn) (PW : Hid (∀ w, Calls Try.prog 44 #[.int .i64 Es] w fun e w' => e = .returned (.float .f64 q) ∧ w' = w)) (hm : Ieee.double.mul yn q = some p) (CP : Hid (∀ w, Calls Try.prog 40 #[.float .f64 p] w fun e w' => e = .returned (.float .f64 l) ∧ w' = w)) :
    Calls Try.prog 29 #[.float .f64 h, .float .f64 g] w fun e w' => e = .returned (.tuple #[.float .f64 r, .float .f64 l]) ∧ w' = w := by
  have hc := fun (t : TypeId) (w : World) => run_float_arith (P := Try.prog) w .add t .f64 h g s hadd
  clear hadd
  have hcv := fun (w : World) => run_convert_int_float (P := Try.prog) w 2 25 .i64 .f64 (-X) (by kernel_rfl) (by kernel_rfl)
  rw [hy] at hcv
  have hcm := fun (t : TypeId) (w : World) => run_float_arith (P := Try.prog) w .mul t .f64 yn q p hm
  clear hy hm
  go_enter Try.func29, Try.ntmps29
  go_wp2_with fail
  refine (MS.out _).mono ?_
  rintro e w' ⟨rfl, rfl⟩
  go_wp2_with fail
  refine (MH.out _).mono ?_
  rintro e w' ⟨rfl, rfl⟩
  go_wp2_with fail
  refine (MG.out _).mono ?_
  rintro e w' ⟨rfl, rfl⟩
  go_wp2_with fail
  refine (PG.out _).mono ?_
  rintro e w' ⟨rfl, rfl⟩
  go_wp2_with fail
  refine (PH.out _).mono ?_
  rintro e w' ⟨rfl, rfl⟩
  go_wp2_with fail
  refine (PS.out _).mono ?_
  rintro e w' ⟨rfl, rfl⟩
  go_wp2_with fail
  refine (BG.out _).mono ?_
  rintro e w' ⟨rfl, rfl⟩
  go_wp2_with fail
  refine (S1.out _).mono ?_
  rintro e w' ⟨rfl, rfl⟩
  go_wp2_with fail
  refine (BH.out _).mono ?_
  rintro e w' ⟨rfl, rfl⟩
  go_wp2_with fail
  refine (S2.out _).mono ?_
  rintro e w' ⟨rfl, rfl⟩
  go_wp2_with fail
  refine (BS.out _).mono ?_
  rintro e w' ⟨rfl, rfl⟩
  go_wp2_with fail
  refine (S3.out _).mono ?_
  rintro e w' ⟨rfl, rfl⟩
  go_wp2_with fail
  refine (C.out _).mono ?_
  rintro e w' ⟨rfl, rfl⟩
  go_wp2_with fail
  refine (PW.out _).mono ?_
  rintro e w' ⟨rfl, rfl⟩
  go_wp2_with fail
  refine (CP.out _).mono ?_
  rintro e w' ⟨rfl, rfl⟩
  go_wp2
  go_ret2
  exact ⟨rfl, rfl⟩
end Go.Proofs.Ytflkbjcaajchjaa
