/-
  What the reference's Product of layer 3 returns: walks over the program.
-/
import Derived.Test.YtcamlhpehnfnlaaTn
namespace Go.Proofs.Ytcamlhpehnfnlaa
open Go.RowKit Tf
attribute [local go_sem] run_bits run_from raw_feq raw_fne raw_flt raw_fgt run_neg

set_option maxHeartbeats 1000000 in
theorem rprod_noa (a b p r : Nat) (mp ma : Int) (w : World) (h : Ieee.double.mul a b = some p) (MP : Hid (∀ w, Calls Try.prog 30 #[.float .f64 p] w fun e w' => e = .returned (.int .u64 mp) ∧ w' = w)) (MA : Hid (∀ w, Calls Try.prog 30 #[.float .f64 a] w fun e w' => e = .returned (.int .u64 ma) ∧ w' = w))  (ca : 9092767647661031424 < ma) (C : Hid (∀ w, Calls Try.prog 31 #[.float .f64 p] w fun e w' => e = .returned (.float .f64 r) ∧ w' = w)) :
    Calls Try.prog 14 #[.float .f64 a, .float .f64 b] w fun e w' => e = .returned (.tuple #[.float .f64 r, .float .f64 0]) ∧ w' = w := by
  have hc := fun (t : TypeId) (w : World) => run_float_arith (P := Try.prog) w .mul t .f64 a b p h
  clear h
  go_enter Try.func14, Try.ntmps14
  go_wp2_with fail
  refine (MP.out _).mono ?_
  rintro e w' ⟨rfl, rfl⟩
  go_wp2_with fail
  refine (MA.out _).mono ?_
  rintro e w' ⟨rfl, rfl⟩
  go_wp2_with fail
  refine (C.out _).mono ?_
  rintro e w' ⟨rfl, rfl⟩
  go_wp2
  go_ret2
  exact ⟨rfl, rfl⟩

set_option maxHeartbeats 1000000 in
theorem rprod_nana (a b : Nat) (ma : Int) (w : World) (h : Ieee.double.mul a b = none) (MA : Hid (∀ w, Calls Try.prog 30 #[.float .f64 a] w fun e w' => e = .returned (.int .u64 ma) ∧ w' = w))  (ca : 9092767647661031424 < ma) :
    Calls Try.prog 14 #[.float .f64 a, .float .f64 b] w fun e w' => e = .returned (.tuple #[.float .f64 quiet, .float .f64 0]) ∧ w' = w.drew := by
  have hc := fun (t : TypeId) (w : World) => run_nan_mul (P := Try.prog) w t a b h
  obtain ⟨m, hm⟩ : ∃ m : World → Int, ∀ w, ((mg (nanOf w a b) : Nat) : Int) = m w := ⟨_, fun _ => rfl⟩
  have hb : ∀ w, 9218868437227405312 ≤ m w := by
    intro w
    have := isN_true.1 (isN_nanOf w a b)
    rw [← hm]; omega
  have M : Hid (∀ w w' : World, Calls Try.prog 30 #[.float .f64 (nanOf w a b)] w' fun e w'' => e = .returned (.int .u64 (m w)) ∧ w'' = w') := fun w w' => refMag_to _ _ w' (hm w)
  have C : Hid (∀ w w' : World, Calls Try.prog 31 #[.float .f64 (nanOf w a b)] w' fun e w'' => e = .returned (.float .f64 quiet) ∧ w'' = w') := by
    intro w w'
    refine refCanon_to _ _ w' ?_
    unfold canonB; rw [isN_nanOf]; rfl
  clear hm h
  have hd : ∀ w, decide (9200854038717923328 < m w) = true := fun w => decide_eq_true (by have := hb w; omega)
  have he : ∀ w, decide (m w < 243194379878006784) = false := fun w => decide_eq_false (by have := hb w; omega)
  clear hb
  go_enter Try.func14, Try.ntmps14
  go_wp2_with fail
  refine (M.out _ _).mono ?_
  rintro e w' ⟨rfl, rfl⟩
  go_wp2_with fail
  refine (MA.out _).mono ?_
  rintro e w' ⟨rfl, rfl⟩
  go_wp2_with fail
  refine (C.out _ _).mono ?_
  rintro e w' ⟨rfl, rfl⟩
  go_wp2
  go_ret2
  exact ⟨rfl, rfl⟩

set_option maxHeartbeats 1000000 in
theorem rprod_nob (a b p r : Nat) (mp ma mb : Int) (w : World) (h : Ieee.double.mul a b = some p) (MP : Hid (∀ w, Calls Try.prog 30 #[.float .f64 p] w fun e w' => e = .returned (.int .u64 mp) ∧ w' = w)) (MA : Hid (∀ w, Calls Try.prog 30 #[.float .f64 a] w fun e w' => e = .returned (.int .u64 ma) ∧ w' = w)) (MB : Hid (∀ w, Calls Try.prog 30 #[.float .f64 b] w fun e w' => e = .returned (.int .u64 mb) ∧ w' = w)) (ca : ¬ 9092767647661031424 < ma) (cb : 9092767647661031424 < mb) (C : Hid (∀ w, Calls Try.prog 31 #[.float .f64 p] w fun e w' => e = .returned (.float .f64 r) ∧ w' = w)) :
    Calls Try.prog 14 #[.float .f64 a, .float .f64 b] w fun e w' => e = .returned (.tuple #[.float .f64 r, .float .f64 0]) ∧ w' = w := by
  have hc := fun (t : TypeId) (w : World) => run_float_arith (P := Try.prog) w .mul t .f64 a b p h
  clear h
  go_enter Try.func14, Try.ntmps14
  go_wp2_with fail
  refine (MP.out _).mono ?_
  rintro e w' ⟨rfl, rfl⟩
  go_wp2_with fail
  refine (MA.out _).mono ?_
  rintro e w' ⟨rfl, rfl⟩
  go_wp2_with fail
  refine (MB.out _).mono ?_
  rintro e w' ⟨rfl, rfl⟩
  go_wp2_with fail
  refine (C.out _).mono ?_
  rintro e w' ⟨rfl, rfl⟩
  go_wp2
  go_ret2
  exact ⟨rfl, rfl⟩

set_option maxHeartbeats 1000000 in
theorem rprod_nanb (a b : Nat) (ma mb : Int) (w : World) (h : Ieee.double.mul a b = none) (MA : Hid (∀ w, Calls Try.prog 30 #[.float .f64 a] w fun e w' => e = .returned (.int .u64 ma) ∧ w' = w)) (MB : Hid (∀ w, Calls Try.prog 30 #[.float .f64 b] w fun e w' => e = .returned (.int .u64 mb) ∧ w' = w)) (ca : ¬ 9092767647661031424 < ma) (cb : 9092767647661031424 < mb) :
    Calls Try.prog 14 #[.float .f64 a, .float .f64 b] w fun e w' => e = .returned (.tuple #[.float .f64 quiet, .float .f64 0]) ∧ w' = w.drew := by
  have hc := fun (t : TypeId) (w : World) => run_nan_mul (P := Try.prog) w t a b h
  obtain ⟨m, hm⟩ : ∃ m : World → Int, ∀ w, ((mg (nanOf w a b) : Nat) : Int) = m w := ⟨_, fun _ => rfl⟩
  have hb : ∀ w, 9218868437227405312 ≤ m w := by
    intro w
    have := isN_true.1 (isN_nanOf w a b)
    rw [← hm]; omega
  have M : Hid (∀ w w' : World, Calls Try.prog 30 #[.float .f64 (nanOf w a b)] w' fun e w'' => e = .returned (.int .u64 (m w)) ∧ w'' = w') := fun w w' => refMag_to _ _ w' (hm w)
  have C : Hid (∀ w w' : World, Calls Try.prog 31 #[.float .f64 (nanOf w a b)] w' fun e w'' => e = .returned (.float .f64 quiet) ∧ w'' = w') := by
    intro w w'
    refine refCanon_to _ _ w' ?_
    unfold canonB; rw [isN_nanOf]; rfl
  clear hm h
  have hd : ∀ w, decide (9200854038717923328 < m w) = true := fun w => decide_eq_true (by have := hb w; omega)
  have he : ∀ w, decide (m w < 243194379878006784) = false := fun w => decide_eq_false (by have := hb w; omega)
  clear hb
  go_enter Try.func14, Try.ntmps14
  go_wp2_with fail
  refine (M.out _ _).mono ?_
  rintro e w' ⟨rfl, rfl⟩
  go_wp2_with fail
  refine (MA.out _).mono ?_
  rintro e w' ⟨rfl, rfl⟩
  go_wp2_with fail
  refine (MB.out _).mono ?_
  rintro e w' ⟨rfl, rfl⟩
  go_wp2_with fail
  refine (C.out _ _).mono ?_
  rintro e w' ⟨rfl, rfl⟩
  go_wp2
  go_ret2
  exact ⟨rfl, rfl⟩

set_option maxHeartbeats 1000000 in
theorem rprod_nol (a b p r : Nat) (mp ma mb : Int) (w : World) (h : Ieee.double.mul a b = some p) (MP : Hid (∀ w, Calls Try.prog 30 #[.float .f64 p] w fun e w' => e = .returned (.int .u64 mp) ∧ w' = w)) (MA : Hid (∀ w, Calls Try.prog 30 #[.float .f64 a] w fun e w' => e = .returned (.int .u64 ma) ∧ w' = w)) (MB : Hid (∀ w, Calls Try.prog 30 #[.float .f64 b] w fun e w' => e = .returned (.int .u64 mb) ∧ w' = w)) (ca : ¬ 9092767647661031424 < ma) (cb : ¬ 9092767647661031424 < mb) (cl : mp < 243194379878006784) (C : Hid (∀ w, Calls Try.prog 31 #[.float .f64 p] w fun e w' => e = .returned (.float .f64 r) ∧ w' = w)) :
    Calls Try.prog 14 #[.float .f64 a, .float .f64 b] w fun e w' => e = .returned (.tuple #[.float .f64 r, .float .f64 0]) ∧ w' = w := by
  have hc := fun (t : TypeId) (w : World) => run_float_arith (P := Try.prog) w .mul t .f64 a b p h
  clear h
  go_enter Try.func14, Try.ntmps14
  go_wp2_with fail
  refine (MP.out _).mono ?_
  rintro e w' ⟨rfl, rfl⟩
  go_wp2_with fail
  refine (MA.out _).mono ?_
  rintro e w' ⟨rfl, rfl⟩
  go_wp2_with fail
  refine (MB.out _).mono ?_
  rintro e w' ⟨rfl, rfl⟩
  go_wp2_with fail
  refine (C.out _).mono ?_
  rintro e w' ⟨rfl, rfl⟩
  go_wp2
  go_ret2
  exact ⟨rfl, rfl⟩

set_option maxHeartbeats 1000000 in
theorem rprod_noh (a b p r : Nat) (mp ma mb : Int) (w : World) (h : Ieee.double.mul a b = some p) (MP : Hid (∀ w, Calls Try.prog 30 #[.float .f64 p] w fun e w' => e = .returned (.int .u64 mp) ∧ w' = w)) (MA : Hid (∀ w, Calls Try.prog 30 #[.float .f64 a] w fun e w' => e = .returned (.int .u64 ma) ∧ w' = w)) (MB : Hid (∀ w, Calls Try.prog 30 #[.float .f64 b] w fun e w' => e = .returned (.int .u64 mb) ∧ w' = w)) (ca : ¬ 9092767647661031424 < ma) (cb : ¬ 9092767647661031424 < mb) (cl : ¬ mp < 243194379878006784) (ch : 9200854038717923328 < mp) (C : Hid (∀ w, Calls Try.prog 31 #[.float .f64 p] w fun e w' => e = .returned (.float .f64 r) ∧ w' = w)) :
    Calls Try.prog 14 #[.float .f64 a, .float .f64 b] w fun e w' => e = .returned (.tuple #[.float .f64 r, .float .f64 0]) ∧ w' = w := by
  have hc := fun (t : TypeId) (w : World) => run_float_arith (P := Try.prog) w .mul t .f64 a b p h
  clear h
  go_enter Try.func14, Try.ntmps14
  go_wp2_with fail
  refine (MP.out _).mono ?_
  rintro e w' ⟨rfl, rfl⟩
  go_wp2_with fail
  refine (MA.out _).mono ?_
  rintro e w' ⟨rfl, rfl⟩
  go_wp2_with fail
  refine (MB.out _).mono ?_
  rintro e w' ⟨rfl, rfl⟩
  go_wp2_with fail
  refine (C.out _).mono ?_
  rintro e w' ⟨rfl, rfl⟩
  go_wp2
  go_ret2
  exact ⟨rfl, rfl⟩

set_option maxHeartbeats 1000000 in
theorem rprod_nanh (a b : Nat) (ma mb : Int) (w : World) (h : Ieee.double.mul a b = none) (MA : Hid (∀ w, Calls Try.prog 30 #[.float .f64 a] w fun e w' => e = .returned (.int .u64 ma) ∧ w' = w)) (MB : Hid (∀ w, Calls Try.prog 30 #[.float .f64 b] w fun e w' => e = .returned (.int .u64 mb) ∧ w' = w)) (ca : ¬ 9092767647661031424 < ma) (cb : ¬ 9092767647661031424 < mb) :
    Calls Try.prog 14 #[.float .f64 a, .float .f64 b] w fun e w' => e = .returned (.tuple #[.float .f64 quiet, .float .f64 0]) ∧ w' = w.drew := by
  have hc := fun (t : TypeId) (w : World) => run_nan_mul (P := Try.prog) w t a b h
  obtain ⟨m, hm⟩ : ∃ m : World → Int, ∀ w, ((mg (nanOf w a b) : Nat) : Int) = m w := ⟨_, fun _ => rfl⟩
  have hb : ∀ w, 9218868437227405312 ≤ m w := by
    intro w
    have := isN_true.1 (isN_nanOf w a b)
    rw [← hm]; omega
  have M : Hid (∀ w w' : World, Calls Try.prog 30 #[.float .f64 (nanOf w a b)] w' fun e w'' => e = .returned (.int .u64 (m w)) ∧ w'' = w') := fun w w' => refMag_to _ _ w' (hm w)
  have C : Hid (∀ w w' : World, Calls Try.prog 31 #[.float .f64 (nanOf w a b)] w' fun e w'' => e = .returned (.float .f64 quiet) ∧ w'' = w') := by
    intro w w'
    refine refCanon_to _ _ w' ?_
    unfold canonB; rw [isN_nanOf]; rfl
  clear hm h
  have hd : ∀ w, decide (9200854038717923328 < m w) = true := fun w => decide_eq_true (by have := hb w; omega)
  have he : ∀ w, decide (m w < 243194379878006784) = false := fun w => decide_eq_false (by have := hb w; omega)
  clear hb
  go_enter Try.func14, Try.ntmps14
  go_wp2_with fail
  refine (M.out _ _).mono ?_
  rintro e w' ⟨rfl, rfl⟩
  go_wp2_with fail
  refine (MA.out _).mono ?_
  rintro e w' ⟨rfl, rfl⟩
  go_wp2_with fail
  refine (MB.out _).mono ?_
  rintro e w' ⟨rfl, rfl⟩
  go_wp2_with fail
  refine (C.out _ _).mono ?_
  rintro e w' ⟨rfl, rfl⟩
  go_wp2
  go_ret2
  exact ⟨rfl, rfl⟩

set_option maxHeartbeats 2000000 in
theorem rprod_ynap (a b p r q : Nat) (mp ma mb Ma Mb Mp Ea Eb Ep : Int) (w : World) (h : Ieee.double.mul a b = some p) (MP : Hid (∀ w, Calls Try.prog 30 #[.float .f64 p] w fun e w' => e = .returned (.int .u64 mp) ∧ w' = w)) (MA : Hid (∀ w, Calls Try.prog 30 #[.float .f64 a] w fun e w' => e = .returned (.int .u64 ma) ∧ w' = w)) (MB : Hid (∀ w, Calls Try.prog 30 #[.float .f64 b] w fun e w' => e = .returned (.int .u64 mb) ∧ w' = w)) (ca : ¬ 9092767647661031424 < ma) (cb : ¬ 9092767647661031424 < mb) (cl : ¬ mp < 243194379878006784) (ch : ¬ 9200854038717923328 < mp)
    (PA : Hid (∀ w, Calls Try.prog 32 #[.float .f64 a] w fun e w' => e = .returned (.tuple #[.int .u64 Ma, .int .i64 Ea]) ∧ w' = w)) (PB : Hid (∀ w, Calls Try.prog 32 #[.float .f64 b] w fun e w' => e = .returned (.tuple #[.int .u64 Mb, .int .i64 Eb]) ∧ w' = w)) (PP : Hid (∀ w, Calls Try.prog 32 #[.float .f64 p] w fun e w' => e = .returned (.tuple #[.int .u64 Mp, .int .i64 Ep]) ∧ w' = w)) (b1 : -1074 ≤ Ea) (b2 : Ea ≤ 971) (b3 : -1074 ≤ Eb) (b4 : Eb ≤ 971) (b5 : -1074 ≤ Ep) (b6 : Ep ≤ 971)
    (hn : 0 ≤ Ep - (Ea + Eb)) (B : Hid (∀ w, Calls Try.prog 34 #[.float .f64 p] w fun e w' => e = .returned (.bool false) ∧ w' = w))
    (t X : Int) (S : Hid (∀ w, Calls Try.prog 33 #[.int .u64 Mp, .int .i64 (Ep - (Ea + Eb)), .bool false] w fun e w' => e = .returned (.int .u64 t) ∧ w' = w)) (hX : IntKind.i64.wrap (IntKind.u64.wrap (IntKind.u64.wrap (Ma * Mb) - t)) = X) (x1 : -9007199254740992 ≤ X) (x2 : X ≤ 9007199254740992) (xs : ¬ X < 0)
    (SC : Hid (∀ w, Calls Try.prog 37 #[.int .i64 X, .int .i64 (Ea + Eb), .bool false] w fun e w' => e = .returned (.float .f64 q) ∧ w' = w)) (C : Hid (∀ w, Calls Try.prog 31 #[.float .f64 p] w fun e w' => e = .returned (.float .f64 r) ∧ w' = w)) :
    Calls Try.prog 14 #[.float .f64 a, .float .f64 b] w fun e w' => e = .returned (.tuple #[.float .f64 r, .float .f64 q]) ∧ w' = w := by
  have hc := fun (t : TypeId) (w : World) => run_float_arith (P := Try.prog) w .mul t .f64 a b p h
  clear h
  go_enter Try.func14, Try.ntmps14
  go_wp2_with fail
  refine (MP.out _).mono ?_
  rintro e w' ⟨rfl, rfl⟩
  go_wp2_with fail
  refine (MA.out _).mono ?_
  rintro e w' ⟨rfl, rfl⟩
  go_wp2_with fail
  refine (MB.out _).mono ?_
  rintro e w' ⟨rfl, rfl⟩
  go_wp2_with fail
  refine (PA.out _).mono ?_
  rintro e w' ⟨rfl, rfl⟩
  go_wp2_with fail
  refine (PB.out _).mono ?_
  rintro e w' ⟨rfl, rfl⟩
  go_wp2_with fail
  refine (PP.out _).mono ?_
  rintro e w' ⟨rfl, rfl⟩
  go_wp2_with fail
  refine (S.out _).mono ?_
  rintro e w' ⟨rfl, rfl⟩
  go_wp2_with fail
  refine (B.out _).mono ?_
  rintro e w' ⟨rfl, rfl⟩
  go_wp2_with fail
  refine (C.out _).mono ?_
  rintro e w' ⟨rfl, rfl⟩
  go_wp2_with fail
  refine (SC.out _).mono ?_
  rintro e w' ⟨rfl, rfl⟩
  go_wp2
  go_ret2
  exact ⟨rfl, rfl⟩

set_option maxHeartbeats 2000000 in
theorem rprod_ynan (a b p r q : Nat) (mp ma mb Ma Mb Mp Ea Eb Ep : Int) (w : World) (h : Ieee.double.mul a b = some p) (MP : Hid (∀ w, Calls Try.prog 30 #[.float .f64 p] w fun e w' => e = .returned (.int .u64 mp) ∧ w' = w)) (MA : Hid (∀ w, Calls Try.prog 30 #[.float .f64 a] w fun e w' => e = .returned (.int .u64 ma) ∧ w' = w)) (MB : Hid (∀ w, Calls Try.prog 30 #[.float .f64 b] w fun e w' => e = .returned (.int .u64 mb) ∧ w' = w)) (ca : ¬ 9092767647661031424 < ma) (cb : ¬ 9092767647661031424 < mb) (cl : ¬ mp < 243194379878006784) (ch : ¬ 9200854038717923328 < mp)
    (PA : Hid (∀ w, Calls Try.prog 32 #[.float .f64 a] w fun e w' => e = .returned (.tuple #[.int .u64 Ma, .int .i64 Ea]) ∧ w' = w)) (PB : Hid (∀ w, Calls Try.prog 32 #[.float .f64 b] w fun e w' => e = .returned (.tuple #[.int .u64 Mb, .int .i64 Eb]) ∧ w' = w)) (PP : Hid (∀ w, Calls Try.prog 32 #[.float .f64 p] w fun e w' => e = .returned (.tuple #[.int .u64 Mp, .int .i64 Ep]) ∧ w' = w)) (b1 : -1074 ≤ Ea) (b2 : Ea ≤ 971) (b3 : -1074 ≤ Eb) (b4 : Eb ≤ 971) (b5 : -1074 ≤ Ep) (b6 : Ep ≤ 971)
    (hn : 0 ≤ Ep - (Ea + Eb)) (B : Hid (∀ w, Calls Try.prog 34 #[.float .f64 p] w fun e w' => e = .returned (.bool false) ∧ w' = w))
    (t X : Int) (S : Hid (∀ w, Calls Try.prog 33 #[.int .u64 Mp, .int .i64 (Ep - (Ea + Eb)), .bool false] w fun e w' => e = .returned (.int .u64 t) ∧ w' = w)) (hX : IntKind.i64.wrap (IntKind.u64.wrap (IntKind.u64.wrap (Ma * Mb) - t)) = X) (x1 : -9007199254740992 ≤ X) (x2 : X ≤ 9007199254740992) (xs : X < 0)
    (SC : Hid (∀ w, Calls Try.prog 37 #[.int .i64 (-X), .int .i64 (Ea + Eb), .bool true] w fun e w' => e = .returned (.float .f64 q) ∧ w' = w)) (C : Hid (∀ w, Calls Try.prog 31 #[.float .f64 p] w fun e w' => e = .returned (.float .f64 r) ∧ w' = w)) :
    Calls Try.prog 14 #[.float .f64 a, .float .f64 b] w fun e w' => e = .returned (.tuple #[.float .f64 r, .float .f64 q]) ∧ w' = w := by
  have hc := fun (t : TypeId) (w : World) => run_float_arith (P := Try.prog) w .mul t .f64 a b p h
  clear h
  go_enter Try.func14, Try.ntmps14
  go_wp2_with fail
  refine (MP.out _).mono ?_
  rintro e w' ⟨rfl, rfl⟩
  go_wp2_with fail
  refine (MA.out _).mono ?_
  rintro e w' ⟨rfl, rfl⟩
  go_wp2_with fail
  refine (MB.out _).mono ?_
  rintro e w' ⟨rfl, rfl⟩
  go_wp2_with fail
  refine (PA.out _).mono ?_
  rintro e w' ⟨rfl, rfl⟩
  go_wp2_with fail
  refine (PB.out _).mono ?_
  rintro e w' ⟨rfl, rfl⟩
  go_wp2_with fail
  refine (PP.out _).mono ?_
  rintro e w' ⟨rfl, rfl⟩
  go_wp2_with fail
  refine (S.out _).mono ?_
  rintro e w' ⟨rfl, rfl⟩
  go_wp2_with fail
  refine (B.out _).mono ?_
  rintro e w' ⟨rfl, rfl⟩
  go_wp2_with fail
  refine (C.out _).mono ?_
  rintro e w' ⟨rfl, rfl⟩
  go_wp2_with fail
  refine (SC.out _).mono ?_
  rintro e w' ⟨rfl, rfl⟩
  go_wp2
  go_ret2
  exact ⟨rfl, rfl⟩

set_option maxHeartbeats 2000000 in
theorem rprod_ynbp (a b p r q : Nat) (mp ma mb Ma Mb Mp Ea Eb Ep : Int) (w : World) (h : Ieee.double.mul a b = some p) (MP : Hid (∀ w, Calls Try.prog 30 #[.float .f64 p] w fun e w' => e = .returned (.int .u64 mp) ∧ w' = w)) (MA : Hid (∀ w, Calls Try.prog 30 #[.float .f64 a] w fun e w' => e = .returned (.int .u64 ma) ∧ w' = w)) (MB : Hid (∀ w, Calls Try.prog 30 #[.float .f64 b] w fun e w' => e = .returned (.int .u64 mb) ∧ w' = w)) (ca : ¬ 9092767647661031424 < ma) (cb : ¬ 9092767647661031424 < mb) (cl : ¬ mp < 243194379878006784) (ch : ¬ 9200854038717923328 < mp)
    (PA : Hid (∀ w, Calls Try.prog 32 #[.float .f64 a] w fun e w' => e = .returned (.tuple #[.int .u64 Ma, .int .i64 Ea]) ∧ w' = w)) (PB : Hid (∀ w, Calls Try.prog 32 #[.float .f64 b] w fun e w' => e = .returned (.tuple #[.int .u64 Mb, .int .i64 Eb]) ∧ w' = w)) (PP : Hid (∀ w, Calls Try.prog 32 #[.float .f64 p] w fun e w' => e = .returned (.tuple #[.int .u64 Mp, .int .i64 Ep]) ∧ w' = w)) (b1 : -1074 ≤ Ea) (b2 : Ea ≤ 971) (b3 : -1074 ≤ Eb) (b4 : Eb ≤ 971) (b5 : -1074 ≤ Ep) (b6 : Ep ≤ 971)
    (hn : 0 ≤ Ep - (Ea + Eb)) (B : Hid (∀ w, Calls Try.prog 34 #[.float .f64 p] w fun e w' => e = .returned (.bool true) ∧ w' = w))
    (t X : Int) (S : Hid (∀ w, Calls Try.prog 33 #[.int .u64 Mp, .int .i64 (Ep - (Ea + Eb)), .bool false] w fun e w' => e = .returned (.int .u64 t) ∧ w' = w)) (hX : IntKind.i64.wrap (IntKind.u64.wrap (IntKind.u64.wrap (Ma * Mb) - t)) = X) (x1 : -9007199254740992 ≤ X) (x2 : X ≤ 9007199254740992) (xs : ¬ (-X) < 0)
    (SC : Hid (∀ w, Calls Try.prog 37 #[.int .i64 (-X), .int .i64 (Ea + Eb), .bool false] w fun e w' => e = .returned (.float .f64 q) ∧ w' = w)) (C : Hid (∀ w, Calls Try.prog 31 #[.float .f64 p] w fun e w' => e = .returned (.float .f64 r) ∧ w' = w)) :
    Calls Try.prog 14 #[.float .f64 a, .float .f64 b] w fun e w' => e = .returned (.tuple #[.float .f64 r, .float .f64 q]) ∧ w' = w := by
  have hc := fun (t : TypeId) (w : World) => run_float_arith (P := Try.prog) w .mul t .f64 a b p h
  clear h
  go_enter Try.func14, Try.ntmps14
  go_wp2_with fail
  refine (MP.out _).mono ?_
  rintro e w' ⟨rfl, rfl⟩
  go_wp2_with fail
  refine (MA.out _).mono ?_
  rintro e w' ⟨rfl, rfl⟩
  go_wp2_with fail
  refine (MB.out _).mono ?_
  rintro e w' ⟨rfl, rfl⟩
  go_wp2_with fail
  refine (PA.out _).mono ?_
  rintro e w' ⟨rfl, rfl⟩
  go_wp2_with fail
  refine (PB.out _).mono ?_
  rintro e w' ⟨rfl, rfl⟩
  go_wp2_with fail
  refine (PP.out _).mono ?_
  rintro e w' ⟨rfl, rfl⟩
  go_wp2_with fail
  refine (S.out _).mono ?_
  rintro e w' ⟨rfl, rfl⟩
  go_wp2_with fail
  refine (B.out _).mono ?_
  rintro e w' ⟨rfl, rfl⟩
  go_wp2_with fail
  refine (C.out _).mono ?_
  rintro e w' ⟨rfl, rfl⟩
  go_wp2_with fail
  refine (SC.out _).mono ?_
  rintro e w' ⟨rfl, rfl⟩
  go_wp2
  go_ret2
  exact ⟨rfl, rfl⟩

set_option maxHeartbeats 2000000 in
theorem rprod_ynbn (a b p r q : Nat) (mp ma mb Ma Mb Mp Ea Eb Ep : Int) (w : World) (h : Ieee.double.mul a b = some p) (MP : Hid (∀ w, Calls Try.prog 30 #[.float .f64 p] w fun e w' => e = .returned (.int .u64 mp) ∧ w' = w)) (MA : Hid (∀ w, Calls Try.prog 30 #[.float .f64 a] w fun e w' => e = .returned (.int .u64 ma) ∧ w' = w)) (MB : Hid (∀ w, Calls Try.prog 30 #[.float .f64 b] w fun e w' => e = .returned (.int .u64 mb) ∧ w' = w)) (ca : ¬ 9092767647661031424 < ma) (cb : ¬ 9092767647661031424 < mb) (cl : ¬ mp < 243194379878006784) (ch : ¬ 9200854038717923328 < mp)
    (PA : Hid (∀ w, Calls Try.prog 32 #[.float .f64 a] w fun e w' => e = .returned (.tuple #[.int .u64 Ma, .int .i64 Ea]) ∧ w' = w)) (PB : Hid (∀ w, Calls Try.prog 32 #[.float .f64 b] w fun e w' => e = .returned (.tuple #[.int .u64 Mb, .int .i64 Eb]) ∧ w' = w)) (PP : Hid (∀ w, Calls Try.prog 32 #[.float .f64 p] w fun e w' => e = .returned (.tuple #[.int .u64 Mp, .int .i64 Ep]) ∧ w' = w)) (b1 : -1074 ≤ Ea) (b2 : Ea ≤ 971) (b3 : -1074 ≤ Eb) (b4 : Eb ≤ 971) (b5 : -1074 ≤ Ep) (b6 : Ep ≤ 971)
    (hn : 0 ≤ Ep - (Ea + Eb)) (B : Hid (∀ w, Calls Try.prog 34 #[.float .f64 p] w fun e w' => e = .returned (.bool true) ∧ w' = w))
    (t X : Int) (S : Hid (∀ w, Calls Try.prog 33 #[.int .u64 Mp, .int .i64 (Ep - (Ea + Eb)), .bool false] w fun e w' => e = .returned (.int .u64 t) ∧ w' = w)) (hX : IntKind.i64.wrap (IntKind.u64.wrap (IntKind.u64.wrap (Ma * Mb) - t)) = X) (x1 : -9007199254740992 ≤ X) (x2 : X ≤ 9007199254740992) (xs : (-X) < 0)
    (SC : Hid (∀ w, Calls Try.prog 37 #[.int .i64 X, .int .i64 (Ea + Eb), .bool true] w fun e w' => e = .returned (.float .f64 q) ∧ w' = w)) (C : Hid (∀ w, Calls Try.prog 31 #[.float .f64 p] w fun e w' => e = .returned (.float .f64 r) ∧ w' = w)) :
    Calls Try.prog 14 #[.float .f64 a, .float .f64 b] w fun e w' => e = .returned (.tuple #[.float .f64 r, .float .f64 q]) ∧ w' = w := by
  have hc := fun (t : TypeId) (w : World) => run_float_arith (P := Try.prog) w .mul t .f64 a b p h
  clear h
  go_enter Try.func14, Try.ntmps14
  go_wp2_with fail
  refine (MP.out _).mono ?_
  rintro e w' ⟨rfl, rfl⟩
  go_wp2_with fail
  refine (MA.out _).mono ?_
  rintro e w' ⟨rfl, rfl⟩
  go_wp2_with fail
  refine (MB.out _).mono ?_
  rintro e w' ⟨rfl, rfl⟩
  go_wp2_with fail
  refine (PA.out _).mono ?_
  rintro e w' ⟨rfl, rfl⟩
  go_wp2_with fail
  refine (PB.out _).mono ?_
  rintro e w' ⟨rfl, rfl⟩
  go_wp2_with fail
  refine (PP.out _).mono ?_
  rintro e w' ⟨rfl, rfl⟩
  go_wp2_with fail
  refine (S.out _).mono ?_
  rintro e w' ⟨rfl, rfl⟩
  go_wp2_with fail
  refine (B.out _).mono ?_
  rintro e w' ⟨rfl, rfl⟩
  go_wp2_with fail
  refine (C.out _).mono ?_
  rintro e w' ⟨rfl, rfl⟩
  go_wp2_with fail
  refine (SC.out _).mono ?_
  rintro e w' ⟨rfl, rfl⟩
  go_wp2
  go_ret2
  exact ⟨rfl, rfl⟩

set_option maxHeartbeats 2000000 in
theorem rprod_yzap (a b p r q : Nat) (mp ma mb Ma Mb Mp Ea Eb Ep : Int) (w : World) (h : Ieee.double.mul a b = some p) (MP : Hid (∀ w, Calls Try.prog 30 #[.float .f64 p] w fun e w' => e = .returned (.int .u64 mp) ∧ w' = w)) (MA : Hid (∀ w, Calls Try.prog 30 #[.float .f64 a] w fun e w' => e = .returned (.int .u64 ma) ∧ w' = w)) (MB : Hid (∀ w, Calls Try.prog 30 #[.float .f64 b] w fun e w' => e = .returned (.int .u64 mb) ∧ w' = w)) (ca : ¬ 9092767647661031424 < ma) (cb : ¬ 9092767647661031424 < mb) (cl : ¬ mp < 243194379878006784) (ch : ¬ 9200854038717923328 < mp)
    (PA : Hid (∀ w, Calls Try.prog 32 #[.float .f64 a] w fun e w' => e = .returned (.tuple #[.int .u64 Ma, .int .i64 Ea]) ∧ w' = w)) (PB : Hid (∀ w, Calls Try.prog 32 #[.float .f64 b] w fun e w' => e = .returned (.tuple #[.int .u64 Mb, .int .i64 Eb]) ∧ w' = w)) (PP : Hid (∀ w, Calls Try.prog 32 #[.float .f64 p] w fun e w' => e = .returned (.tuple #[.int .u64 Mp, .int .i64 Ep]) ∧ w' = w)) (b1 : -1074 ≤ Ea) (b2 : Ea ≤ 971) (b3 : -1074 ≤ Eb) (b4 : Eb ≤ 971) (b5 : -1074 ≤ Ep) (b6 : Ep ≤ 971)
    (hn : ¬ 0 ≤ Ep - (Ea + Eb)) (B : Hid (∀ w, Calls Try.prog 34 #[.float .f64 p] w fun e w' => e = .returned (.bool false) ∧ w' = w))
    (SC : Hid (∀ w, Calls Try.prog 37 #[.int .i64 0, .int .i64 (Ea + Eb), .bool false] w fun e w' => e = .returned (.float .f64 q) ∧ w' = w)) (C : Hid (∀ w, Calls Try.prog 31 #[.float .f64 p] w fun e w' => e = .returned (.float .f64 r) ∧ w' = w)) :
    Calls Try.prog 14 #[.float .f64 a, .float .f64 b] w fun e w' => e = .returned (.tuple #[.float .f64 r, .float .f64 q]) ∧ w' = w := by
  have hc := fun (t : TypeId) (w : World) => run_float_arith (P := Try.prog) w .mul t .f64 a b p h
  clear h
  go_enter Try.func14, Try.ntmps14
  go_wp2_with fail
  refine (MP.out _).mono ?_
  rintro e w' ⟨rfl, rfl⟩
  go_wp2_with fail
  refine (MA.out _).mono ?_
  rintro e w' ⟨rfl, rfl⟩
  go_wp2_with fail
  refine (MB.out _).mono ?_
  rintro e w' ⟨rfl, rfl⟩
  go_wp2_with fail
  refine (PA.out _).mono ?_
  rintro e w' ⟨rfl, rfl⟩
  go_wp2_with fail
  refine (PB.out _).mono ?_
  rintro e w' ⟨rfl, rfl⟩
  go_wp2_with fail
  refine (PP.out _).mono ?_
  rintro e w' ⟨rfl, rfl⟩
  go_wp2_with fail
  refine (B.out _).mono ?_
  rintro e w' ⟨rfl, rfl⟩
  go_wp2_with fail
  refine (C.out _).mono ?_
  rintro e w' ⟨rfl, rfl⟩
  go_wp2_with fail
  refine (SC.out _).mono ?_
  rintro e w' ⟨rfl, rfl⟩
  go_wp2
  go_ret2
  exact ⟨rfl, rfl⟩

set_option maxHeartbeats 2000000 in
theorem rprod_yzbp (a b p r q : Nat) (mp ma mb Ma Mb Mp Ea Eb Ep : Int) (w : World) (h : Ieee.double.mul a b = some p) (MP : Hid (∀ w, Calls Try.prog 30 #[.float .f64 p] w fun e w' => e = .returned (.int .u64 mp) ∧ w' = w)) (MA : Hid (∀ w, Calls Try.prog 30 #[.float .f64 a] w fun e w' => e = .returned (.int .u64 ma) ∧ w' = w)) (MB : Hid (∀ w, Calls Try.prog 30 #[.float .f64 b] w fun e w' => e = .returned (.int .u64 mb) ∧ w' = w)) (ca : ¬ 9092767647661031424 < ma) (cb : ¬ 9092767647661031424 < mb) (cl : ¬ mp < 243194379878006784) (ch : ¬ 9200854038717923328 < mp)
    (PA : Hid (∀ w, Calls Try.prog 32 #[.float .f64 a] w fun e w' => e = .returned (.tuple #[.int .u64 Ma, .int .i64 Ea]) ∧ w' = w)) (PB : Hid (∀ w, Calls Try.prog 32 #[.float .f64 b] w fun e w' => e = .returned (.tuple #[.int .u64 Mb, .int .i64 Eb]) ∧ w' = w)) (PP : Hid (∀ w, Calls Try.prog 32 #[.float .f64 p] w fun e w' => e = .returned (.tuple #[.int .u64 Mp, .int .i64 Ep]) ∧ w' = w)) (b1 : -1074 ≤ Ea) (b2 : Ea ≤ 971) (b3 : -1074 ≤ Eb) (b4 : Eb ≤ 971) (b5 : -1074 ≤ Ep) (b6 : Ep ≤ 971)
    (hn : ¬ 0 ≤ Ep - (Ea + Eb)) (B : Hid (∀ w, Calls Try.prog 34 #[.float .f64 p] w fun e w' => e = .returned (.bool true) ∧ w' = w))
    (SC : Hid (∀ w, Calls Try.prog 37 #[.int .i64 0, .int .i64 (Ea + Eb), .bool false] w fun e w' => e = .returned (.float .f64 q) ∧ w' = w)) (C : Hid (∀ w, Calls Try.prog 31 #[.float .f64 p] w fun e w' => e = .returned (.float .f64 r) ∧ w' = w)) :
    Calls Try.prog 14 #[.float .f64 a, .float .f64 b] w fun e w' => e = .returned (.tuple #[.float .f64 r, .float .f64 q]) ∧ w' = w := by
  have hc := fun (t : TypeId) (w : World) => run_float_arith (P := Try.prog) w .mul t .f64 a b p h
  clear h
  go_enter Try.func14, Try.ntmps14
  go_wp2_with fail
  refine (MP.out _).mono ?_
  rintro e w' ⟨rfl, rfl⟩
  go_wp2_with fail
  refine (MA.out _).mono ?_
  rintro e w' ⟨rfl, rfl⟩
  go_wp2_with fail
  refine (MB.out _).mono ?_
  rintro e w' ⟨rfl, rfl⟩
  go_wp2_with fail
  refine (PA.out _).mono ?_
  rintro e w' ⟨rfl, rfl⟩
  go_wp2_with fail
  refine (PB.out _).mono ?_
  rintro e w' ⟨rfl, rfl⟩
  go_wp2_with fail
  refine (PP.out _).mono ?_
  rintro e w' ⟨rfl, rfl⟩
  go_wp2_with fail
  refine (B.out _).mono ?_
  rintro e w' ⟨rfl, rfl⟩
  go_wp2_with fail
  refine (C.out _).mono ?_
  rintro e w' ⟨rfl, rfl⟩
  go_wp2_with fail
  refine (SC.out _).mono ?_
  rintro e w' ⟨rfl, rfl⟩
  go_wp2
  go_ret2
  exact ⟨rfl, rfl⟩
end Go.Proofs.Ytcamlhpehnfnlaa
