/-
  The statement on exact products, way by way: walks over the program.
-/
import Derived.Test.YtcamlhpehnfnlaaVh
namespace Go.Proofs.Ytcamlhpehnfnlaa.twinTimesDone
open Go.RowKit Tf
open Tf
attribute [local go_sem] run_bits run_from raw_feq raw_fne raw_flt raw_fgt run_neg
theorem neg996 : Op.negFloat .f64 9092767647661031424 = 18316139684515807232 := by decide

set_option maxHeartbeats 2000000 in
theorem t_sp1 (a b p l t : Nat) (w : World) (PP : Hid (∀ w, Calls Try.prog 19 #[.float .f64 p] w fun e w' => e = .returned (.bool true) ∧ w' = w)) (PL : Hid (∀ w, Calls Try.prog 19 #[.float .f64 l] w fun e w' => e = .returned (.bool true) ∧ w' = w))
    (PR : Hid (∀ w, Calls Try.prog 13 #[.float .f64 a, .float .f64 b] w fun e w' => e = .returned (.tuple #[.float .f64 p, .float .f64 l]) ∧ ∃ n, w' = w.drewN n))
    (h : Ieee.double.mul a b = some t) (CN : Hid (∀ w, Calls Try.prog 21 #[.float .f64 t] w fun e w' => e = .returned (.float .f64 p) ∧ w' = w))
    (z : flt p 0 = false) (c1 : (flt a 9092767647661031424 || feq a 9092767647661031424) = false) (hl : l = 0) :
    Calls Try.prog 8 #[.float .f64 a, .float .f64 b] w fun e w' => e = .returned (.bool true) ∧ Below w.heap.size w w' := by
  have A := hid awake_any
  have SR := hid rawSame_refl
  have RB := hid rawBits_any
  have n9 := neg996
  have F1 : Hid (∀ w, Calls Try.prog 25 #[.int .u64 9092767647661031424] w fun e w' => e = .returned (.float .f64 9092767647661031424) ∧ w' = w) := fun w => from_any 9092767647661031424 w
  have F2 : Hid (∀ w, Calls Try.prog 25 #[.int .u64 243194379878006784] w fun e w' => e = .returned (.float .f64 243194379878006784) ∧ w' = w) := fun w => from_any 243194379878006784 w
  have F3 : Hid (∀ w, Calls Try.prog 25 #[.int .u64 9200854038717923328] w fun e w' => e = .returned (.float .f64 9200854038717923328) ∧ w' = w) := fun w => from_any 9200854038717923328 w
  have hc := fun (ty : TypeId) (w : World) => run_float_arith (P := Try.prog) w .mul ty .f64 a b t h
  subst hl
  clear h
  go_enter Try.func8, Try.ntmps8
  go_wp2_with fail
  refine (A.out _).mono ?_
  rintro e w' ⟨rfl, k, rfl⟩
  go_wp2_with fail
  refine (PR.out _).mono ?_
  rintro e w' ⟨rfl, k, rfl⟩
  go_wp2_with fail
  refine (PP.out _).mono ?_
  rintro e w' ⟨rfl, rfl⟩
  go_wp2_with fail
  refine (PL.out _).mono ?_
  rintro e w' ⟨rfl, rfl⟩
  go_wp2_with fail
  refine (CN.out _).mono ?_
  rintro e w' ⟨rfl, rfl⟩
  go_wp2_with fail
  refine (SR.out _ _).mono ?_
  rintro e w' ⟨rfl, rfl⟩
  go_wp2_with fail
  refine (F1.out _).mono ?_
  rintro e w' ⟨rfl, rfl⟩
  go_wp2_with fail
  refine (RB.out _ _).mono ?_
  rintro e w' ⟨rfl, rfl⟩
  go_wp2
  go_ret
  exact ⟨rfl, below_drewN (Below.refl _ _) _⟩

set_option maxHeartbeats 2000000 in
theorem t_sp2 (a b p l t : Nat) (w : World) (PP : Hid (∀ w, Calls Try.prog 19 #[.float .f64 p] w fun e w' => e = .returned (.bool true) ∧ w' = w)) (PL : Hid (∀ w, Calls Try.prog 19 #[.float .f64 l] w fun e w' => e = .returned (.bool true) ∧ w' = w))
    (PR : Hid (∀ w, Calls Try.prog 13 #[.float .f64 a, .float .f64 b] w fun e w' => e = .returned (.tuple #[.float .f64 p, .float .f64 l]) ∧ ∃ n, w' = w.drewN n))
    (h : Ieee.double.mul a b = some t) (CN : Hid (∀ w, Calls Try.prog 21 #[.float .f64 t] w fun e w' => e = .returned (.float .f64 p) ∧ w' = w))
    (z : flt p 0 = false) (c1 : (flt a 9092767647661031424 || feq a 9092767647661031424) = true) (c2 : (fgt a 18316139684515807232 || feq a 18316139684515807232) = false) (hl : l = 0) :
    Calls Try.prog 8 #[.float .f64 a, .float .f64 b] w fun e w' => e = .returned (.bool true) ∧ Below w.heap.size w w' := by
  have A := hid awake_any
  have SR := hid rawSame_refl
  have RB := hid rawBits_any
  have n9 := neg996
  have F1 : Hid (∀ w, Calls Try.prog 25 #[.int .u64 9092767647661031424] w fun e w' => e = .returned (.float .f64 9092767647661031424) ∧ w' = w) := fun w => from_any 9092767647661031424 w
  have F2 : Hid (∀ w, Calls Try.prog 25 #[.int .u64 243194379878006784] w fun e w' => e = .returned (.float .f64 243194379878006784) ∧ w' = w) := fun w => from_any 243194379878006784 w
  have F3 : Hid (∀ w, Calls Try.prog 25 #[.int .u64 9200854038717923328] w fun e w' => e = .returned (.float .f64 9200854038717923328) ∧ w' = w) := fun w => from_any 9200854038717923328 w
  have hc := fun (ty : TypeId) (w : World) => run_float_arith (P := Try.prog) w .mul ty .f64 a b t h
  subst hl
  clear h
  go_enter Try.func8, Try.ntmps8
  go_wp2_with fail
  refine (A.out _).mono ?_
  rintro e w' ⟨rfl, k, rfl⟩
  go_wp2_with fail
  refine (PR.out _).mono ?_
  rintro e w' ⟨rfl, k, rfl⟩
  go_wp2_with fail
  refine (PP.out _).mono ?_
  rintro e w' ⟨rfl, rfl⟩
  go_wp2_with fail
  refine (PL.out _).mono ?_
  rintro e w' ⟨rfl, rfl⟩
  go_wp2_with fail
  refine (CN.out _).mono ?_
  rintro e w' ⟨rfl, rfl⟩
  go_wp2_with fail
  refine (SR.out _ _).mono ?_
  rintro e w' ⟨rfl, rfl⟩
  go_wp2_with fail
  refine (F1.out _).mono ?_
  rintro e w' ⟨rfl, rfl⟩
  go_wp2_with fail
  refine (RB.out _ _).mono ?_
  rintro e w' ⟨rfl, rfl⟩
  go_wp2
  go_ret
  exact ⟨rfl, below_drewN (Below.refl _ _) _⟩

set_option maxHeartbeats 2000000 in
theorem t_sp3 (a b p l t : Nat) (w : World) (PP : Hid (∀ w, Calls Try.prog 19 #[.float .f64 p] w fun e w' => e = .returned (.bool true) ∧ w' = w)) (PL : Hid (∀ w, Calls Try.prog 19 #[.float .f64 l] w fun e w' => e = .returned (.bool true) ∧ w' = w))
    (PR : Hid (∀ w, Calls Try.prog 13 #[.float .f64 a, .float .f64 b] w fun e w' => e = .returned (.tuple #[.float .f64 p, .float .f64 l]) ∧ ∃ n, w' = w.drewN n))
    (h : Ieee.double.mul a b = some t) (CN : Hid (∀ w, Calls Try.prog 21 #[.float .f64 t] w fun e w' => e = .returned (.float .f64 p) ∧ w' = w))
    (z : flt p 0 = false) (c1 : (flt a 9092767647661031424 || feq a 9092767647661031424) = true) (c2 : (fgt a 18316139684515807232 || feq a 18316139684515807232) = true) (c3 : (flt b 9092767647661031424 || feq b 9092767647661031424) = false) (hl : l = 0) :
    Calls Try.prog 8 #[.float .f64 a, .float .f64 b] w fun e w' => e = .returned (.bool true) ∧ Below w.heap.size w w' := by
  have A := hid awake_any
  have SR := hid rawSame_refl
  have RB := hid rawBits_any
  have n9 := neg996
  have F1 : Hid (∀ w, Calls Try.prog 25 #[.int .u64 9092767647661031424] w fun e w' => e = .returned (.float .f64 9092767647661031424) ∧ w' = w) := fun w => from_any 9092767647661031424 w
  have F2 : Hid (∀ w, Calls Try.prog 25 #[.int .u64 243194379878006784] w fun e w' => e = .returned (.float .f64 243194379878006784) ∧ w' = w) := fun w => from_any 243194379878006784 w
  have F3 : Hid (∀ w, Calls Try.prog 25 #[.int .u64 9200854038717923328] w fun e w' => e = .returned (.float .f64 9200854038717923328) ∧ w' = w) := fun w => from_any 9200854038717923328 w
  have hc := fun (ty : TypeId) (w : World) => run_float_arith (P := Try.prog) w .mul ty .f64 a b t h
  subst hl
  clear h
  go_enter Try.func8, Try.ntmps8
  go_wp2_with fail
  refine (A.out _).mono ?_
  rintro e w' ⟨rfl, k, rfl⟩
  go_wp2_with fail
  refine (PR.out _).mono ?_
  rintro e w' ⟨rfl, k, rfl⟩
  go_wp2_with fail
  refine (PP.out _).mono ?_
  rintro e w' ⟨rfl, rfl⟩
  go_wp2_with fail
  refine (PL.out _).mono ?_
  rintro e w' ⟨rfl, rfl⟩
  go_wp2_with fail
  refine (CN.out _).mono ?_
  rintro e w' ⟨rfl, rfl⟩
  go_wp2_with fail
  refine (SR.out _ _).mono ?_
  rintro e w' ⟨rfl, rfl⟩
  go_wp2_with fail
  refine (F1.out _).mono ?_
  rintro e w' ⟨rfl, rfl⟩
  go_wp2_with fail
  refine (RB.out _ _).mono ?_
  rintro e w' ⟨rfl, rfl⟩
  go_wp2
  go_ret
  exact ⟨rfl, below_drewN (Below.refl _ _) _⟩

set_option maxHeartbeats 2000000 in
theorem t_sp4 (a b p l t : Nat) (w : World) (PP : Hid (∀ w, Calls Try.prog 19 #[.float .f64 p] w fun e w' => e = .returned (.bool true) ∧ w' = w)) (PL : Hid (∀ w, Calls Try.prog 19 #[.float .f64 l] w fun e w' => e = .returned (.bool true) ∧ w' = w))
    (PR : Hid (∀ w, Calls Try.prog 13 #[.float .f64 a, .float .f64 b] w fun e w' => e = .returned (.tuple #[.float .f64 p, .float .f64 l]) ∧ ∃ n, w' = w.drewN n))
    (h : Ieee.double.mul a b = some t) (CN : Hid (∀ w, Calls Try.prog 21 #[.float .f64 t] w fun e w' => e = .returned (.float .f64 p) ∧ w' = w))
    (z : flt p 0 = false) (c1 : (flt a 9092767647661031424 || feq a 9092767647661031424) = true) (c2 : (fgt a 18316139684515807232 || feq a 18316139684515807232) = true) (c3 : (flt b 9092767647661031424 || feq b 9092767647661031424) = true) (c4 : (fgt b 18316139684515807232 || feq b 18316139684515807232) = false) (hl : l = 0) :
    Calls Try.prog 8 #[.float .f64 a, .float .f64 b] w fun e w' => e = .returned (.bool true) ∧ Below w.heap.size w w' := by
  have A := hid awake_any
  have SR := hid rawSame_refl
  have RB := hid rawBits_any
  have n9 := neg996
  have F1 : Hid (∀ w, Calls Try.prog 25 #[.int .u64 9092767647661031424] w fun e w' => e = .returned (.float .f64 9092767647661031424) ∧ w' = w) := fun w => from_any 9092767647661031424 w
  have F2 : Hid (∀ w, Calls Try.prog 25 #[.int .u64 243194379878006784] w fun e w' => e = .returned (.float .f64 243194379878006784) ∧ w' = w) := fun w => from_any 243194379878006784 w
  have F3 : Hid (∀ w, Calls Try.prog 25 #[.int .u64 9200854038717923328] w fun e w' => e = .returned (.float .f64 9200854038717923328) ∧ w' = w) := fun w => from_any 9200854038717923328 w
  have hc := fun (ty : TypeId) (w : World) => run_float_arith (P := Try.prog) w .mul ty .f64 a b t h
  subst hl
  clear h
  go_enter Try.func8, Try.ntmps8
  go_wp2_with fail
  refine (A.out _).mono ?_
  rintro e w' ⟨rfl, k, rfl⟩
  go_wp2_with fail
  refine (PR.out _).mono ?_
  rintro e w' ⟨rfl, k, rfl⟩
  go_wp2_with fail
  refine (PP.out _).mono ?_
  rintro e w' ⟨rfl, rfl⟩
  go_wp2_with fail
  refine (PL.out _).mono ?_
  rintro e w' ⟨rfl, rfl⟩
  go_wp2_with fail
  refine (CN.out _).mono ?_
  rintro e w' ⟨rfl, rfl⟩
  go_wp2_with fail
  refine (SR.out _ _).mono ?_
  rintro e w' ⟨rfl, rfl⟩
  go_wp2_with fail
  refine (F1.out _).mono ?_
  rintro e w' ⟨rfl, rfl⟩
  go_wp2_with fail
  refine (RB.out _ _).mono ?_
  rintro e w' ⟨rfl, rfl⟩
  go_wp2
  go_ret
  exact ⟨rfl, below_drewN (Below.refl _ _) _⟩

set_option maxHeartbeats 2000000 in
theorem t_sp5 (a b p l t : Nat) (w : World) (PP : Hid (∀ w, Calls Try.prog 19 #[.float .f64 p] w fun e w' => e = .returned (.bool true) ∧ w' = w)) (PL : Hid (∀ w, Calls Try.prog 19 #[.float .f64 l] w fun e w' => e = .returned (.bool true) ∧ w' = w))
    (PR : Hid (∀ w, Calls Try.prog 13 #[.float .f64 a, .float .f64 b] w fun e w' => e = .returned (.tuple #[.float .f64 p, .float .f64 l]) ∧ ∃ n, w' = w.drewN n))
    (h : Ieee.double.mul a b = some t) (CN : Hid (∀ w, Calls Try.prog 21 #[.float .f64 t] w fun e w' => e = .returned (.float .f64 p) ∧ w' = w))
    (z : flt p 0 = false) (c1 : (flt a 9092767647661031424 || feq a 9092767647661031424) = true) (c2 : (fgt a 18316139684515807232 || feq a 18316139684515807232) = true) (c3 : (flt b 9092767647661031424 || feq b 9092767647661031424) = true) (c4 : (fgt b 18316139684515807232 || feq b 18316139684515807232) = true) (c5 : (fgt p 243194379878006784 || feq p 243194379878006784) = false) (hl : l = 0) :
    Calls Try.prog 8 #[.float .f64 a, .float .f64 b] w fun e w' => e = .returned (.bool true) ∧ Below w.heap.size w w' := by
  have A := hid awake_any
  have SR := hid rawSame_refl
  have RB := hid rawBits_any
  have n9 := neg996
  have F1 : Hid (∀ w, Calls Try.prog 25 #[.int .u64 9092767647661031424] w fun e w' => e = .returned (.float .f64 9092767647661031424) ∧ w' = w) := fun w => from_any 9092767647661031424 w
  have F2 : Hid (∀ w, Calls Try.prog 25 #[.int .u64 243194379878006784] w fun e w' => e = .returned (.float .f64 243194379878006784) ∧ w' = w) := fun w => from_any 243194379878006784 w
  have F3 : Hid (∀ w, Calls Try.prog 25 #[.int .u64 9200854038717923328] w fun e w' => e = .returned (.float .f64 9200854038717923328) ∧ w' = w) := fun w => from_any 9200854038717923328 w
  have hc := fun (ty : TypeId) (w : World) => run_float_arith (P := Try.prog) w .mul ty .f64 a b t h
  subst hl
  clear h
  go_enter Try.func8, Try.ntmps8
  go_wp2_with fail
  refine (A.out _).mono ?_
  rintro e w' ⟨rfl, k, rfl⟩
  go_wp2_with fail
  refine (PR.out _).mono ?_
  rintro e w' ⟨rfl, k, rfl⟩
  go_wp2_with fail
  refine (PP.out _).mono ?_
  rintro e w' ⟨rfl, rfl⟩
  go_wp2_with fail
  refine (PL.out _).mono ?_
  rintro e w' ⟨rfl, rfl⟩
  go_wp2_with fail
  refine (CN.out _).mono ?_
  rintro e w' ⟨rfl, rfl⟩
  go_wp2_with fail
  refine (SR.out _ _).mono ?_
  rintro e w' ⟨rfl, rfl⟩
  go_wp2_with fail
  refine (F1.out _).mono ?_
  rintro e w' ⟨rfl, rfl⟩
  go_wp2_with fail
  refine (F2.out _).mono ?_
  rintro e w' ⟨rfl, rfl⟩
  go_wp2_with fail
  refine (RB.out _ _).mono ?_
  rintro e w' ⟨rfl, rfl⟩
  go_wp2
  go_ret
  exact ⟨rfl, below_drewN (Below.refl _ _) _⟩

set_option maxHeartbeats 2000000 in
theorem t_sp6 (a b p l t : Nat) (w : World) (PP : Hid (∀ w, Calls Try.prog 19 #[.float .f64 p] w fun e w' => e = .returned (.bool true) ∧ w' = w)) (PL : Hid (∀ w, Calls Try.prog 19 #[.float .f64 l] w fun e w' => e = .returned (.bool true) ∧ w' = w))
    (PR : Hid (∀ w, Calls Try.prog 13 #[.float .f64 a, .float .f64 b] w fun e w' => e = .returned (.tuple #[.float .f64 p, .float .f64 l]) ∧ ∃ n, w' = w.drewN n))
    (h : Ieee.double.mul a b = some t) (CN : Hid (∀ w, Calls Try.prog 21 #[.float .f64 t] w fun e w' => e = .returned (.float .f64 p) ∧ w' = w))
    (z : flt p 0 = false) (c1 : (flt a 9092767647661031424 || feq a 9092767647661031424) = true) (c2 : (fgt a 18316139684515807232 || feq a 18316139684515807232) = true) (c3 : (flt b 9092767647661031424 || feq b 9092767647661031424) = true) (c4 : (fgt b 18316139684515807232 || feq b 18316139684515807232) = true) (c5 : (fgt p 243194379878006784 || feq p 243194379878006784) = true) (c6 : (flt p 9200854038717923328 || feq p 9200854038717923328) = false) (hl : l = 0) :
    Calls Try.prog 8 #[.float .f64 a, .float .f64 b] w fun e w' => e = .returned (.bool true) ∧ Below w.heap.size w w' := by
  have A := hid awake_any
  have SR := hid rawSame_refl
  have RB := hid rawBits_any
  have n9 := neg996
  have F1 : Hid (∀ w, Calls Try.prog 25 #[.int .u64 9092767647661031424] w fun e w' => e = .returned (.float .f64 9092767647661031424) ∧ w' = w) := fun w => from_any 9092767647661031424 w
  have F2 : Hid (∀ w, Calls Try.prog 25 #[.int .u64 243194379878006784] w fun e w' => e = .returned (.float .f64 243194379878006784) ∧ w' = w) := fun w => from_any 243194379878006784 w
  have F3 : Hid (∀ w, Calls Try.prog 25 #[.int .u64 9200854038717923328] w fun e w' => e = .returned (.float .f64 9200854038717923328) ∧ w' = w) := fun w => from_any 9200854038717923328 w
  have hc := fun (ty : TypeId) (w : World) => run_float_arith (P := Try.prog) w .mul ty .f64 a b t h
  subst hl
  clear h
  go_enter Try.func8, Try.ntmps8
  go_wp2_with fail
  refine (A.out _).mono ?_
  rintro e w' ⟨rfl, k, rfl⟩
  go_wp2_with fail
  refine (PR.out _).mono ?_
  rintro e w' ⟨rfl, k, rfl⟩
  go_wp2_with fail
  refine (PP.out _).mono ?_
  rintro e w' ⟨rfl, rfl⟩
  go_wp2_with fail
  refine (PL.out _).mono ?_
  rintro e w' ⟨rfl, rfl⟩
  go_wp2_with fail
  refine (CN.out _).mono ?_
  rintro e w' ⟨rfl, rfl⟩
  go_wp2_with fail
  refine (SR.out _ _).mono ?_
  rintro e w' ⟨rfl, rfl⟩
  go_wp2_with fail
  refine (F1.out _).mono ?_
  rintro e w' ⟨rfl, rfl⟩
  go_wp2_with fail
  refine (F2.out _).mono ?_
  rintro e w' ⟨rfl, rfl⟩
  go_wp2_with fail
  refine (F3.out _).mono ?_
  rintro e w' ⟨rfl, rfl⟩
  go_wp2_with fail
  refine (RB.out _ _).mono ?_
  rintro e w' ⟨rfl, rfl⟩
  go_wp2
  go_ret
  exact ⟨rfl, below_drewN (Below.refl _ _) _⟩

set_option maxHeartbeats 2000000 in
theorem t_sp7 (a b p l t : Nat) (w : World) (PP : Hid (∀ w, Calls Try.prog 19 #[.float .f64 p] w fun e w' => e = .returned (.bool true) ∧ w' = w)) (PL : Hid (∀ w, Calls Try.prog 19 #[.float .f64 l] w fun e w' => e = .returned (.bool true) ∧ w' = w))
    (PR : Hid (∀ w, Calls Try.prog 13 #[.float .f64 a, .float .f64 b] w fun e w' => e = .returned (.tuple #[.float .f64 p, .float .f64 l]) ∧ ∃ n, w' = w.drewN n))
    (h : Ieee.double.mul a b = some t) (CN : Hid (∀ w, Calls Try.prog 21 #[.float .f64 t] w fun e w' => e = .returned (.float .f64 p) ∧ w' = w))
    (z : flt p 0 = false) (c1 : (flt a 9092767647661031424 || feq a 9092767647661031424) = true) (c2 : (fgt a 18316139684515807232 || feq a 18316139684515807232) = true) (c3 : (flt b 9092767647661031424 || feq b 9092767647661031424) = true) (c4 : (fgt b 18316139684515807232 || feq b 18316139684515807232) = true) (c5 : (fgt p 243194379878006784 || feq p 243194379878006784) = true) (c6 : (flt p 9200854038717923328 || feq p 9200854038717923328) = true) (TI : Hid (∀ w, Calls Try.prog 27 #[.float .f64 a, .float .f64 b, .float .f64 p, .float .f64 l] w fun e w' => e = .returned (.bool true) ∧ Below w.heap.size w w')) :
    Calls Try.prog 8 #[.float .f64 a, .float .f64 b] w fun e w' => e = .returned (.bool true) ∧ Below w.heap.size w w' := by
  have A := hid awake_any
  have SR := hid rawSame_refl
  have RB := hid rawBits_any
  have n9 := neg996
  have F1 : Hid (∀ w, Calls Try.prog 25 #[.int .u64 9092767647661031424] w fun e w' => e = .returned (.float .f64 9092767647661031424) ∧ w' = w) := fun w => from_any 9092767647661031424 w
  have F2 : Hid (∀ w, Calls Try.prog 25 #[.int .u64 243194379878006784] w fun e w' => e = .returned (.float .f64 243194379878006784) ∧ w' = w) := fun w => from_any 243194379878006784 w
  have F3 : Hid (∀ w, Calls Try.prog 25 #[.int .u64 9200854038717923328] w fun e w' => e = .returned (.float .f64 9200854038717923328) ∧ w' = w) := fun w => from_any 9200854038717923328 w
  have hc := fun (ty : TypeId) (w : World) => run_float_arith (P := Try.prog) w .mul ty .f64 a b t h
  clear h
  go_enter Try.func8, Try.ntmps8
  go_wp2_with fail
  refine (A.out _).mono ?_
  rintro e w' ⟨rfl, k, rfl⟩
  go_wp2_with fail
  refine (PR.out _).mono ?_
  rintro e w' ⟨rfl, k, rfl⟩
  go_wp2_with fail
  refine (PP.out _).mono ?_
  rintro e w' ⟨rfl, rfl⟩
  go_wp2_with fail
  refine (PL.out _).mono ?_
  rintro e w' ⟨rfl, rfl⟩
  go_wp2_with fail
  refine (CN.out _).mono ?_
  rintro e w' ⟨rfl, rfl⟩
  go_wp2_with fail
  refine (SR.out _ _).mono ?_
  rintro e w' ⟨rfl, rfl⟩
  go_wp2_with fail
  refine (F1.out _).mono ?_
  rintro e w' ⟨rfl, rfl⟩
  go_wp2_with fail
  refine (F2.out _).mono ?_
  rintro e w' ⟨rfl, rfl⟩
  go_wp2_with fail
  refine (F3.out _).mono ?_
  rintro e w' ⟨rfl, rfl⟩
  go_wp2_with fail
  refine (TI.out _).mono ?_
  rintro e w' ⟨rfl, hb⟩
  have HB := hid hb
  clear hb
  go_wp2
  go_ret
  exact ⟨rfl, (below_drewN (Below.refl _ _) _).trans HB.out⟩

set_option maxHeartbeats 2000000 in
theorem t_sn1 (a b p l t m : Nat) (w : World) (PP : Hid (∀ w, Calls Try.prog 19 #[.float .f64 p] w fun e w' => e = .returned (.bool true) ∧ w' = w)) (PL : Hid (∀ w, Calls Try.prog 19 #[.float .f64 l] w fun e w' => e = .returned (.bool true) ∧ w' = w))
    (PR : Hid (∀ w, Calls Try.prog 13 #[.float .f64 a, .float .f64 b] w fun e w' => e = .returned (.tuple #[.float .f64 p, .float .f64 l]) ∧ ∃ n, w' = w.drewN n))
    (h : Ieee.double.mul a b = some t) (CN : Hid (∀ w, Calls Try.prog 21 #[.float .f64 t] w fun e w' => e = .returned (.float .f64 p) ∧ w' = w))
    (z : flt p 0 = true) (hm : Op.negFloat .f64 p = m) (c1 : (flt a 9092767647661031424 || feq a 9092767647661031424) = false) (hl : l = 0) :
    Calls Try.prog 8 #[.float .f64 a, .float .f64 b] w fun e w' => e = .returned (.bool true) ∧ Below w.heap.size w w' := by
  have A := hid awake_any
  have SR := hid rawSame_refl
  have RB := hid rawBits_any
  have n9 := neg996
  have F1 : Hid (∀ w, Calls Try.prog 25 #[.int .u64 9092767647661031424] w fun e w' => e = .returned (.float .f64 9092767647661031424) ∧ w' = w) := fun w => from_any 9092767647661031424 w
  have F2 : Hid (∀ w, Calls Try.prog 25 #[.int .u64 243194379878006784] w fun e w' => e = .returned (.float .f64 243194379878006784) ∧ w' = w) := fun w => from_any 243194379878006784 w
  have F3 : Hid (∀ w, Calls Try.prog 25 #[.int .u64 9200854038717923328] w fun e w' => e = .returned (.float .f64 9200854038717923328) ∧ w' = w) := fun w => from_any 9200854038717923328 w
  have hc := fun (ty : TypeId) (w : World) => run_float_arith (P := Try.prog) w .mul ty .f64 a b t h
  subst hl
  clear h
  go_enter Try.func8, Try.ntmps8
  go_wp2_with fail
  refine (A.out _).mono ?_
  rintro e w' ⟨rfl, k, rfl⟩
  go_wp2_with fail
  refine (PR.out _).mono ?_
  rintro e w' ⟨rfl, k, rfl⟩
  go_wp2_with fail
  refine (PP.out _).mono ?_
  rintro e w' ⟨rfl, rfl⟩
  go_wp2_with fail
  refine (PL.out _).mono ?_
  rintro e w' ⟨rfl, rfl⟩
  go_wp2_with fail
  refine (CN.out _).mono ?_
  rintro e w' ⟨rfl, rfl⟩
  go_wp2_with fail
  refine (SR.out _ _).mono ?_
  rintro e w' ⟨rfl, rfl⟩
  go_wp2_with fail
  refine (F1.out _).mono ?_
  rintro e w' ⟨rfl, rfl⟩
  go_wp2_with fail
  refine (RB.out _ _).mono ?_
  rintro e w' ⟨rfl, rfl⟩
  go_wp2
  go_ret
  exact ⟨rfl, below_drewN (Below.refl _ _) _⟩

set_option maxHeartbeats 2000000 in
theorem t_sn2 (a b p l t m : Nat) (w : World) (PP : Hid (∀ w, Calls Try.prog 19 #[.float .f64 p] w fun e w' => e = .returned (.bool true) ∧ w' = w)) (PL : Hid (∀ w, Calls Try.prog 19 #[.float .f64 l] w fun e w' => e = .returned (.bool true) ∧ w' = w))
    (PR : Hid (∀ w, Calls Try.prog 13 #[.float .f64 a, .float .f64 b] w fun e w' => e = .returned (.tuple #[.float .f64 p, .float .f64 l]) ∧ ∃ n, w' = w.drewN n))
    (h : Ieee.double.mul a b = some t) (CN : Hid (∀ w, Calls Try.prog 21 #[.float .f64 t] w fun e w' => e = .returned (.float .f64 p) ∧ w' = w))
    (z : flt p 0 = true) (hm : Op.negFloat .f64 p = m) (c1 : (flt a 9092767647661031424 || feq a 9092767647661031424) = true) (c2 : (fgt a 18316139684515807232 || feq a 18316139684515807232) = false) (hl : l = 0) :
    Calls Try.prog 8 #[.float .f64 a, .float .f64 b] w fun e w' => e = .returned (.bool true) ∧ Below w.heap.size w w' := by
  have A := hid awake_any
  have SR := hid rawSame_refl
  have RB := hid rawBits_any
  have n9 := neg996
  have F1 : Hid (∀ w, Calls Try.prog 25 #[.int .u64 9092767647661031424] w fun e w' => e = .returned (.float .f64 9092767647661031424) ∧ w' = w) := fun w => from_any 9092767647661031424 w
  have F2 : Hid (∀ w, Calls Try.prog 25 #[.int .u64 243194379878006784] w fun e w' => e = .returned (.float .f64 243194379878006784) ∧ w' = w) := fun w => from_any 243194379878006784 w
  have F3 : Hid (∀ w, Calls Try.prog 25 #[.int .u64 9200854038717923328] w fun e w' => e = .returned (.float .f64 9200854038717923328) ∧ w' = w) := fun w => from_any 9200854038717923328 w
  have hc := fun (ty : TypeId) (w : World) => run_float_arith (P := Try.prog) w .mul ty .f64 a b t h
  subst hl
  clear h
  go_enter Try.func8, Try.ntmps8
  go_wp2_with fail
  refine (A.out _).mono ?_
  rintro e w' ⟨rfl, k, rfl⟩
  go_wp2_with fail
  refine (PR.out _).mono ?_
  rintro e w' ⟨rfl, k, rfl⟩
  go_wp2_with fail
  refine (PP.out _).mono ?_
  rintro e w' ⟨rfl, rfl⟩
  go_wp2_with fail
  refine (PL.out _).mono ?_
  rintro e w' ⟨rfl, rfl⟩
  go_wp2_with fail
  refine (CN.out _).mono ?_
  rintro e w' ⟨rfl, rfl⟩
  go_wp2_with fail
  refine (SR.out _ _).mono ?_
  rintro e w' ⟨rfl, rfl⟩
  go_wp2_with fail
  refine (F1.out _).mono ?_
  rintro e w' ⟨rfl, rfl⟩
  go_wp2_with fail
  refine (RB.out _ _).mono ?_
  rintro e w' ⟨rfl, rfl⟩
  go_wp2
  go_ret
  exact ⟨rfl, below_drewN (Below.refl _ _) _⟩

set_option maxHeartbeats 2000000 in
theorem t_sn3 (a b p l t m : Nat) (w : World) (PP : Hid (∀ w, Calls Try.prog 19 #[.float .f64 p] w fun e w' => e = .returned (.bool true) ∧ w' = w)) (PL : Hid (∀ w, Calls Try.prog 19 #[.float .f64 l] w fun e w' => e = .returned (.bool true) ∧ w' = w))
    (PR : Hid (∀ w, Calls Try.prog 13 #[.float .f64 a, .float .f64 b] w fun e w' => e = .returned (.tuple #[.float .f64 p, .float .f64 l]) ∧ ∃ n, w' = w.drewN n))
    (h : Ieee.double.mul a b = some t) (CN : Hid (∀ w, Calls Try.prog 21 #[.float .f64 t] w fun e w' => e = .returned (.float .f64 p) ∧ w' = w))
    (z : flt p 0 = true) (hm : Op.negFloat .f64 p = m) (c1 : (flt a 9092767647661031424 || feq a 9092767647661031424) = true) (c2 : (fgt a 18316139684515807232 || feq a 18316139684515807232) = true) (c3 : (flt b 9092767647661031424 || feq b 9092767647661031424) = false) (hl : l = 0) :
    Calls Try.prog 8 #[.float .f64 a, .float .f64 b] w fun e w' => e = .returned (.bool true) ∧ Below w.heap.size w w' := by
  have A := hid awake_any
  have SR := hid rawSame_refl
  have RB := hid rawBits_any
  have n9 := neg996
  have F1 : Hid (∀ w, Calls Try.prog 25 #[.int .u64 9092767647661031424] w fun e w' => e = .returned (.float .f64 9092767647661031424) ∧ w' = w) := fun w => from_any 9092767647661031424 w
  have F2 : Hid (∀ w, Calls Try.prog 25 #[.int .u64 243194379878006784] w fun e w' => e = .returned (.float .f64 243194379878006784) ∧ w' = w) := fun w => from_any 243194379878006784 w
  have F3 : Hid (∀ w, Calls Try.prog 25 #[.int .u64 9200854038717923328] w fun e w' => e = .returned (.float .f64 9200854038717923328) ∧ w' = w) := fun w => from_any 9200854038717923328 w
  have hc := fun (ty : TypeId) (w : World) => run_float_arith (P := Try.prog) w .mul ty .f64 a b t h
  subst hl
  clear h
  go_enter Try.func8, Try.ntmps8
  go_wp2_with fail
  refine (A.out _).mono ?_
  rintro e w' ⟨rfl, k, rfl⟩
  go_wp2_with fail
  refine (PR.out _).mono ?_
  rintro e w' ⟨rfl, k, rfl⟩
  go_wp2_with fail
  refine (PP.out _).mono ?_
  rintro e w' ⟨rfl, rfl⟩
  go_wp2_with fail
  refine (PL.out _).mono ?_
  rintro e w' ⟨rfl, rfl⟩
  go_wp2_with fail
  refine (CN.out _).mono ?_
  rintro e w' ⟨rfl, rfl⟩
  go_wp2_with fail
  refine (SR.out _ _).mono ?_
  rintro e w' ⟨rfl, rfl⟩
  go_wp2_with fail
  refine (F1.out _).mono ?_
  rintro e w' ⟨rfl, rfl⟩
  go_wp2_with fail
  refine (RB.out _ _).mono ?_
  rintro e w' ⟨rfl, rfl⟩
  go_wp2
  go_ret
  exact ⟨rfl, below_drewN (Below.refl _ _) _⟩

set_option maxHeartbeats 2000000 in
theorem t_sn4 (a b p l t m : Nat) (w : World) (PP : Hid (∀ w, Calls Try.prog 19 #[.float .f64 p] w fun e w' => e = .returned (.bool true) ∧ w' = w)) (PL : Hid (∀ w, Calls Try.prog 19 #[.float .f64 l] w fun e w' => e = .returned (.bool true) ∧ w' = w))
    (PR : Hid (∀ w, Calls Try.prog 13 #[.float .f64 a, .float .f64 b] w fun e w' => e = .returned (.tuple #[.float .f64 p, .float .f64 l]) ∧ ∃ n, w' = w.drewN n))
    (h : Ieee.double.mul a b = some t) (CN : Hid (∀ w, Calls Try.prog 21 #[.float .f64 t] w fun e w' => e = .returned (.float .f64 p) ∧ w' = w))
    (z : flt p 0 = true) (hm : Op.negFloat .f64 p = m) (c1 : (flt a 9092767647661031424 || feq a 9092767647661031424) = true) (c2 : (fgt a 18316139684515807232 || feq a 18316139684515807232) = true) (c3 : (flt b 9092767647661031424 || feq b 9092767647661031424) = true) (c4 : (fgt b 18316139684515807232 || feq b 18316139684515807232) = false) (hl : l = 0) :
    Calls Try.prog 8 #[.float .f64 a, .float .f64 b] w fun e w' => e = .returned (.bool true) ∧ Below w.heap.size w w' := by
  have A := hid awake_any
  have SR := hid rawSame_refl
  have RB := hid rawBits_any
  have n9 := neg996
  have F1 : Hid (∀ w, Calls Try.prog 25 #[.int .u64 9092767647661031424] w fun e w' => e = .returned (.float .f64 9092767647661031424) ∧ w' = w) := fun w => from_any 9092767647661031424 w
  have F2 : Hid (∀ w, Calls Try.prog 25 #[.int .u64 243194379878006784] w fun e w' => e = .returned (.float .f64 243194379878006784) ∧ w' = w) := fun w => from_any 243194379878006784 w
  have F3 : Hid (∀ w, Calls Try.prog 25 #[.int .u64 9200854038717923328] w fun e w' => e = .returned (.float .f64 9200854038717923328) ∧ w' = w) := fun w => from_any 9200854038717923328 w
  have hc := fun (ty : TypeId) (w : World) => run_float_arith (P := Try.prog) w .mul ty .f64 a b t h
  subst hl
  clear h
  go_enter Try.func8, Try.ntmps8
  go_wp2_with fail
  refine (A.out _).mono ?_
  rintro e w' ⟨rfl, k, rfl⟩
  go_wp2_with fail
  refine (PR.out _).mono ?_
  rintro e w' ⟨rfl, k, rfl⟩
  go_wp2_with fail
  refine (PP.out _).mono ?_
  rintro e w' ⟨rfl, rfl⟩
  go_wp2_with fail
  refine (PL.out _).mono ?_
  rintro e w' ⟨rfl, rfl⟩
  go_wp2_with fail
  refine (CN.out _).mono ?_
  rintro e w' ⟨rfl, rfl⟩
  go_wp2_with fail
  refine (SR.out _ _).mono ?_
  rintro e w' ⟨rfl, rfl⟩
  go_wp2_with fail
  refine (F1.out _).mono ?_
  rintro e w' ⟨rfl, rfl⟩
  go_wp2_with fail
  refine (RB.out _ _).mono ?_
  rintro e w' ⟨rfl, rfl⟩
  go_wp2
  go_ret
  exact ⟨rfl, below_drewN (Below.refl _ _) _⟩

set_option maxHeartbeats 2000000 in
theorem t_sn5 (a b p l t m : Nat) (w : World) (PP : Hid (∀ w, Calls Try.prog 19 #[.float .f64 p] w fun e w' => e = .returned (.bool true) ∧ w' = w)) (PL : Hid (∀ w, Calls Try.prog 19 #[.float .f64 l] w fun e w' => e = .returned (.bool true) ∧ w' = w))
    (PR : Hid (∀ w, Calls Try.prog 13 #[.float .f64 a, .float .f64 b] w fun e w' => e = .returned (.tuple #[.float .f64 p, .float .f64 l]) ∧ ∃ n, w' = w.drewN n))
    (h : Ieee.double.mul a b = some t) (CN : Hid (∀ w, Calls Try.prog 21 #[.float .f64 t] w fun e w' => e = .returned (.float .f64 p) ∧ w' = w))
    (z : flt p 0 = true) (hm : Op.negFloat .f64 p = m) (c1 : (flt a 9092767647661031424 || feq a 9092767647661031424) = true) (c2 : (fgt a 18316139684515807232 || feq a 18316139684515807232) = true) (c3 : (flt b 9092767647661031424 || feq b 9092767647661031424) = true) (c4 : (fgt b 18316139684515807232 || feq b 18316139684515807232) = true) (c5 : (fgt m 243194379878006784 || feq m 243194379878006784) = false) (hl : l = 0) :
    Calls Try.prog 8 #[.float .f64 a, .float .f64 b] w fun e w' => e = .returned (.bool true) ∧ Below w.heap.size w w' := by
  have A := hid awake_any
  have SR := hid rawSame_refl
  have RB := hid rawBits_any
  have n9 := neg996
  have F1 : Hid (∀ w, Calls Try.prog 25 #[.int .u64 9092767647661031424] w fun e w' => e = .returned (.float .f64 9092767647661031424) ∧ w' = w) := fun w => from_any 9092767647661031424 w
  have F2 : Hid (∀ w, Calls Try.prog 25 #[.int .u64 243194379878006784] w fun e w' => e = .returned (.float .f64 243194379878006784) ∧ w' = w) := fun w => from_any 243194379878006784 w
  have F3 : Hid (∀ w, Calls Try.prog 25 #[.int .u64 9200854038717923328] w fun e w' => e = .returned (.float .f64 9200854038717923328) ∧ w' = w) := fun w => from_any 9200854038717923328 w
  have hc := fun (ty : TypeId) (w : World) => run_float_arith (P := Try.prog) w .mul ty .f64 a b t h
  subst hl
  clear h
  go_enter Try.func8, Try.ntmps8
  go_wp2_with fail
  refine (A.out _).mono ?_
  rintro e w' ⟨rfl, k, rfl⟩
  go_wp2_with fail
  refine (PR.out _).mono ?_
  rintro e w' ⟨rfl, k, rfl⟩
  go_wp2_with fail
  refine (PP.out _).mono ?_
  rintro e w' ⟨rfl, rfl⟩
  go_wp2_with fail
  refine (PL.out _).mono ?_
  rintro e w' ⟨rfl, rfl⟩
  go_wp2_with fail
  refine (CN.out _).mono ?_
  rintro e w' ⟨rfl, rfl⟩
  go_wp2_with fail
  refine (SR.out _ _).mono ?_
  rintro e w' ⟨rfl, rfl⟩
  go_wp2_with fail
  refine (F1.out _).mono ?_
  rintro e w' ⟨rfl, rfl⟩
  go_wp2_with fail
  refine (F2.out _).mono ?_
  rintro e w' ⟨rfl, rfl⟩
  go_wp2_with fail
  refine (RB.out _ _).mono ?_
  rintro e w' ⟨rfl, rfl⟩
  go_wp2
  go_ret
  exact ⟨rfl, below_drewN (Below.refl _ _) _⟩

set_option maxHeartbeats 2000000 in
theorem t_sn6 (a b p l t m : Nat) (w : World) (PP : Hid (∀ w, Calls Try.prog 19 #[.float .f64 p] w fun e w' => e = .returned (.bool true) ∧ w' = w)) (PL : Hid (∀ w, Calls Try.prog 19 #[.float .f64 l] w fun e w' => e = .returned (.bool true) ∧ w' = w))
    (PR : Hid (∀ w, Calls Try.prog 13 #[.float .f64 a, .float .f64 b] w fun e w' => e = .returned (.tuple #[.float .f64 p, .float .f64 l]) ∧ ∃ n, w' = w.drewN n))
    (h : Ieee.double.mul a b = some t) (CN : Hid (∀ w, Calls Try.prog 21 #[.float .f64 t] w fun e w' => e = .returned (.float .f64 p) ∧ w' = w))
    (z : flt p 0 = true) (hm : Op.negFloat .f64 p = m) (c1 : (flt a 9092767647661031424 || feq a 9092767647661031424) = true) (c2 : (fgt a 18316139684515807232 || feq a 18316139684515807232) = true) (c3 : (flt b 9092767647661031424 || feq b 9092767647661031424) = true) (c4 : (fgt b 18316139684515807232 || feq b 18316139684515807232) = true) (c5 : (fgt m 243194379878006784 || feq m 243194379878006784) = true) (c6 : (flt m 9200854038717923328 || feq m 9200854038717923328) = false) (hl : l = 0) :
    Calls Try.prog 8 #[.float .f64 a, .float .f64 b] w fun e w' => e = .returned (.bool true) ∧ Below w.heap.size w w' := by
  have A := hid awake_any
  have SR := hid rawSame_refl
  have RB := hid rawBits_any
  have n9 := neg996
  have F1 : Hid (∀ w, Calls Try.prog 25 #[.int .u64 9092767647661031424] w fun e w' => e = .returned (.float .f64 9092767647661031424) ∧ w' = w) := fun w => from_any 9092767647661031424 w
  have F2 : Hid (∀ w, Calls Try.prog 25 #[.int .u64 243194379878006784] w fun e w' => e = .returned (.float .f64 243194379878006784) ∧ w' = w) := fun w => from_any 243194379878006784 w
  have F3 : Hid (∀ w, Calls Try.prog 25 #[.int .u64 9200854038717923328] w fun e w' => e = .returned (.float .f64 9200854038717923328) ∧ w' = w) := fun w => from_any 9200854038717923328 w
  have hc := fun (ty : TypeId) (w : World) => run_float_arith (P := Try.prog) w .mul ty .f64 a b t h
  subst hl
  clear h
  go_enter Try.func8, Try.ntmps8
  go_wp2_with fail
  refine (A.out _).mono ?_
  rintro e w' ⟨rfl, k, rfl⟩
  go_wp2_with fail
  refine (PR.out _).mono ?_
  rintro e w' ⟨rfl, k, rfl⟩
  go_wp2_with fail
  refine (PP.out _).mono ?_
  rintro e w' ⟨rfl, rfl⟩
  go_wp2_with fail
  refine (PL.out _).mono ?_
  rintro e w' ⟨rfl, rfl⟩
  go_wp2_with fail
  refine (CN.out _).mono ?_
  rintro e w' ⟨rfl, rfl⟩
  go_wp2_with fail
  refine (SR.out _ _).mono ?_
  rintro e w' ⟨rfl, rfl⟩
  go_wp2_with fail
  refine (F1.out _).mono ?_
  rintro e w' ⟨rfl, rfl⟩
  go_wp2_with fail
  refine (F2.out _).mono ?_
  rintro e w' ⟨rfl, rfl⟩
  go_wp2_with fail
  refine (F3.out _).mono ?_
  rintro e w' ⟨rfl, rfl⟩
  go_wp2_with fail
  refine (RB.out _ _).mono ?_
  rintro e w' ⟨rfl, rfl⟩
  go_wp2
  go_ret
  exact ⟨rfl, below_drewN (Below.refl _ _) _⟩

set_option maxHeartbeats 2000000 in
theorem t_sn7 (a b p l t m : Nat) (w : World) (PP : Hid (∀ w, Calls Try.prog 19 #[.float .f64 p] w fun e w' => e = .returned (.bool true) ∧ w' = w)) (PL : Hid (∀ w, Calls Try.prog 19 #[.float .f64 l] w fun e w' => e = .returned (.bool true) ∧ w' = w))
    (PR : Hid (∀ w, Calls Try.prog 13 #[.float .f64 a, .float .f64 b] w fun e w' => e = .returned (.tuple #[.float .f64 p, .float .f64 l]) ∧ ∃ n, w' = w.drewN n))
    (h : Ieee.double.mul a b = some t) (CN : Hid (∀ w, Calls Try.prog 21 #[.float .f64 t] w fun e w' => e = .returned (.float .f64 p) ∧ w' = w))
    (z : flt p 0 = true) (hm : Op.negFloat .f64 p = m) (c1 : (flt a 9092767647661031424 || feq a 9092767647661031424) = true) (c2 : (fgt a 18316139684515807232 || feq a 18316139684515807232) = true) (c3 : (flt b 9092767647661031424 || feq b 9092767647661031424) = true) (c4 : (fgt b 18316139684515807232 || feq b 18316139684515807232) = true) (c5 : (fgt m 243194379878006784 || feq m 243194379878006784) = true) (c6 : (flt m 9200854038717923328 || feq m 9200854038717923328) = true) (TI : Hid (∀ w, Calls Try.prog 27 #[.float .f64 a, .float .f64 b, .float .f64 p, .float .f64 l] w fun e w' => e = .returned (.bool true) ∧ Below w.heap.size w w')) :
    Calls Try.prog 8 #[.float .f64 a, .float .f64 b] w fun e w' => e = .returned (.bool true) ∧ Below w.heap.size w w' := by
  have A := hid awake_any
  have SR := hid rawSame_refl
  have RB := hid rawBits_any
  have n9 := neg996
  have F1 : Hid (∀ w, Calls Try.prog 25 #[.int .u64 9092767647661031424] w fun e w' => e = .returned (.float .f64 9092767647661031424) ∧ w' = w) := fun w => from_any 9092767647661031424 w
  have F2 : Hid (∀ w, Calls Try.prog 25 #[.int .u64 243194379878006784] w fun e w' => e = .returned (.float .f64 243194379878006784) ∧ w' = w) := fun w => from_any 243194379878006784 w
  have F3 : Hid (∀ w, Calls Try.prog 25 #[.int .u64 9200854038717923328] w fun e w' => e = .returned (.float .f64 9200854038717923328) ∧ w' = w) := fun w => from_any 9200854038717923328 w
  have hc := fun (ty : TypeId) (w : World) => run_float_arith (P := Try.prog) w .mul ty .f64 a b t h
  clear h
  go_enter Try.func8, Try.ntmps8
  go_wp2_with fail
  refine (A.out _).mono ?_
  rintro e w' ⟨rfl, k, rfl⟩
  go_wp2_with fail
  refine (PR.out _).mono ?_
  rintro e w' ⟨rfl, k, rfl⟩
  go_wp2_with fail
  refine (PP.out _).mono ?_
  rintro e w' ⟨rfl, rfl⟩
  go_wp2_with fail
  refine (PL.out _).mono ?_
  rintro e w' ⟨rfl, rfl⟩
  go_wp2_with fail
  refine (CN.out _).mono ?_
  rintro e w' ⟨rfl, rfl⟩
  go_wp2_with fail
  refine (SR.out _ _).mono ?_
  rintro e w' ⟨rfl, rfl⟩
  go_wp2_with fail
  refine (F1.out _).mono ?_
  rintro e w' ⟨rfl, rfl⟩
  go_wp2_with fail
  refine (F2.out _).mono ?_
  rintro e w' ⟨rfl, rfl⟩
  go_wp2_with fail
  refine (F3.out _).mono ?_
  rintro e w' ⟨rfl, rfl⟩
  go_wp2_with fail
  refine (TI.out _).mono ?_
  rintro e w' ⟨rfl, hb⟩
  have HB := hid hb
  clear hb
  go_wp2
  go_ret
  exact ⟨rfl, (below_drewN (Below.refl _ _) _).trans HB.out⟩

set_option maxHeartbeats 2000000 in
theorem t_np1 (a b p l : Nat) (w : World) (PP : Hid (∀ w, Calls Try.prog 19 #[.float .f64 p] w fun e w' => e = .returned (.bool true) ∧ w' = w)) (PL : Hid (∀ w, Calls Try.prog 19 #[.float .f64 l] w fun e w' => e = .returned (.bool true) ∧ w' = w))
    (PR : Hid (∀ w, Calls Try.prog 13 #[.float .f64 a, .float .f64 b] w fun e w' => e = .returned (.tuple #[.float .f64 p, .float .f64 l]) ∧ ∃ n, w' = w.drewN n))
    (h : Ieee.double.mul a b = none) (CN : Hid (∀ w w', Calls Try.prog 21 #[.float .f64 (nanOf w a b)] w' fun e w'' => e = .returned (.float .f64 p) ∧ w'' = w'))
    (z : flt p 0 = false) (c1 : (flt a 9092767647661031424 || feq a 9092767647661031424) = false) (hl : l = 0) :
    Calls Try.prog 8 #[.float .f64 a, .float .f64 b] w fun e w' => e = .returned (.bool true) ∧ Below w.heap.size w w' := by
  have A := hid awake_any
  have SR := hid rawSame_refl
  have RB := hid rawBits_any
  have n9 := neg996
  have F1 : Hid (∀ w, Calls Try.prog 25 #[.int .u64 9092767647661031424] w fun e w' => e = .returned (.float .f64 9092767647661031424) ∧ w' = w) := fun w => from_any 9092767647661031424 w
  have F2 : Hid (∀ w, Calls Try.prog 25 #[.int .u64 243194379878006784] w fun e w' => e = .returned (.float .f64 243194379878006784) ∧ w' = w) := fun w => from_any 243194379878006784 w
  have F3 : Hid (∀ w, Calls Try.prog 25 #[.int .u64 9200854038717923328] w fun e w' => e = .returned (.float .f64 9200854038717923328) ∧ w' = w) := fun w => from_any 9200854038717923328 w
  have hc := fun (ty : TypeId) (w : World) => run_nan_mul (P := Try.prog) w ty a b h
  subst hl
  clear h
  go_enter Try.func8, Try.ntmps8
  go_wp2_with fail
  refine (A.out _).mono ?_
  rintro e w' ⟨rfl, k, rfl⟩
  go_wp2_with fail
  refine (PR.out _).mono ?_
  rintro e w' ⟨rfl, k, rfl⟩
  go_wp2_with fail
  refine (PP.out _).mono ?_
  rintro e w' ⟨rfl, rfl⟩
  go_wp2_with fail
  refine (PL.out _).mono ?_
  rintro e w' ⟨rfl, rfl⟩
  go_wp2_with fail
  refine (CN.out _ _).mono ?_
  rintro e w' ⟨rfl, rfl⟩
  go_wp2_with fail
  refine (SR.out _ _).mono ?_
  rintro e w' ⟨rfl, rfl⟩
  go_wp2_with fail
  refine (F1.out _).mono ?_
  rintro e w' ⟨rfl, rfl⟩
  go_wp2_with fail
  refine (RB.out _ _).mono ?_
  rintro e w' ⟨rfl, rfl⟩
  go_wp2
  go_ret
  exact ⟨rfl, below_drewN (Below.refl _ _) _⟩

set_option maxHeartbeats 2000000 in
theorem t_np2 (a b p l : Nat) (w : World) (PP : Hid (∀ w, Calls Try.prog 19 #[.float .f64 p] w fun e w' => e = .returned (.bool true) ∧ w' = w)) (PL : Hid (∀ w, Calls Try.prog 19 #[.float .f64 l] w fun e w' => e = .returned (.bool true) ∧ w' = w))
    (PR : Hid (∀ w, Calls Try.prog 13 #[.float .f64 a, .float .f64 b] w fun e w' => e = .returned (.tuple #[.float .f64 p, .float .f64 l]) ∧ ∃ n, w' = w.drewN n))
    (h : Ieee.double.mul a b = none) (CN : Hid (∀ w w', Calls Try.prog 21 #[.float .f64 (nanOf w a b)] w' fun e w'' => e = .returned (.float .f64 p) ∧ w'' = w'))
    (z : flt p 0 = false) (c1 : (flt a 9092767647661031424 || feq a 9092767647661031424) = true) (c2 : (fgt a 18316139684515807232 || feq a 18316139684515807232) = false) (hl : l = 0) :
    Calls Try.prog 8 #[.float .f64 a, .float .f64 b] w fun e w' => e = .returned (.bool true) ∧ Below w.heap.size w w' := by
  have A := hid awake_any
  have SR := hid rawSame_refl
  have RB := hid rawBits_any
  have n9 := neg996
  have F1 : Hid (∀ w, Calls Try.prog 25 #[.int .u64 9092767647661031424] w fun e w' => e = .returned (.float .f64 9092767647661031424) ∧ w' = w) := fun w => from_any 9092767647661031424 w
  have F2 : Hid (∀ w, Calls Try.prog 25 #[.int .u64 243194379878006784] w fun e w' => e = .returned (.float .f64 243194379878006784) ∧ w' = w) := fun w => from_any 243194379878006784 w
  have F3 : Hid (∀ w, Calls Try.prog 25 #[.int .u64 9200854038717923328] w fun e w' => e = .returned (.float .f64 9200854038717923328) ∧ w' = w) := fun w => from_any 9200854038717923328 w
  have hc := fun (ty : TypeId) (w : World) => run_nan_mul (P := Try.prog) w ty a b h
  subst hl
  clear h
  go_enter Try.func8, Try.ntmps8
  go_wp2_with fail
  refine (A.out _).mono ?_
  rintro e w' ⟨rfl, k, rfl⟩
  go_wp2_with fail
  refine (PR.out _).mono ?_
  rintro e w' ⟨rfl, k, rfl⟩
  go_wp2_with fail
  refine (PP.out _).mono ?_
  rintro e w' ⟨rfl, rfl⟩
  go_wp2_with fail
  refine (PL.out _).mono ?_
  rintro e w' ⟨rfl, rfl⟩
  go_wp2_with fail
  refine (CN.out _ _).mono ?_
  rintro e w' ⟨rfl, rfl⟩
  go_wp2_with fail
  refine (SR.out _ _).mono ?_
  rintro e w' ⟨rfl, rfl⟩
  go_wp2_with fail
  refine (F1.out _).mono ?_
  rintro e w' ⟨rfl, rfl⟩
  go_wp2_with fail
  refine (RB.out _ _).mono ?_
  rintro e w' ⟨rfl, rfl⟩
  go_wp2
  go_ret
  exact ⟨rfl, below_drewN (Below.refl _ _) _⟩

set_option maxHeartbeats 2000000 in
theorem t_np3 (a b p l : Nat) (w : World) (PP : Hid (∀ w, Calls Try.prog 19 #[.float .f64 p] w fun e w' => e = .returned (.bool true) ∧ w' = w)) (PL : Hid (∀ w, Calls Try.prog 19 #[.float .f64 l] w fun e w' => e = .returned (.bool true) ∧ w' = w))
    (PR : Hid (∀ w, Calls Try.prog 13 #[.float .f64 a, .float .f64 b] w fun e w' => e = .returned (.tuple #[.float .f64 p, .float .f64 l]) ∧ ∃ n, w' = w.drewN n))
    (h : Ieee.double.mul a b = none) (CN : Hid (∀ w w', Calls Try.prog 21 #[.float .f64 (nanOf w a b)] w' fun e w'' => e = .returned (.float .f64 p) ∧ w'' = w'))
    (z : flt p 0 = false) (c1 : (flt a 9092767647661031424 || feq a 9092767647661031424) = true) (c2 : (fgt a 18316139684515807232 || feq a 18316139684515807232) = true) (c3 : (flt b 9092767647661031424 || feq b 9092767647661031424) = false) (hl : l = 0) :
    Calls Try.prog 8 #[.float .f64 a, .float .f64 b] w fun e w' => e = .returned (.bool true) ∧ Below w.heap.size w w' := by
  have A := hid awake_any
  have SR := hid rawSame_refl
  have RB := hid rawBits_any
  have n9 := neg996
  have F1 : Hid (∀ w, Calls Try.prog 25 #[.int .u64 9092767647661031424] w fun e w' => e = .returned (.float .f64 9092767647661031424) ∧ w' = w) := fun w => from_any 9092767647661031424 w
  have F2 : Hid (∀ w, Calls Try.prog 25 #[.int .u64 243194379878006784] w fun e w' => e = .returned (.float .f64 243194379878006784) ∧ w' = w) := fun w => from_any 243194379878006784 w
  have F3 : Hid (∀ w, Calls Try.prog 25 #[.int .u64 9200854038717923328] w fun e w' => e = .returned (.float .f64 9200854038717923328) ∧ w' = w) := fun w => from_any 9200854038717923328 w
  have hc := fun (ty : TypeId) (w : World) => run_nan_mul (P := Try.prog) w ty a b h
  subst hl
  clear h
  go_enter Try.func8, Try.ntmps8
  go_wp2_with fail
  refine (A.out _).mono ?_
  rintro e w' ⟨rfl, k, rfl⟩
  go_wp2_with fail
  refine (PR.out _).mono ?_
  rintro e w' ⟨rfl, k, rfl⟩
  go_wp2_with fail
  refine (PP.out _).mono ?_
  rintro e w' ⟨rfl, rfl⟩
  go_wp2_with fail
  refine (PL.out _).mono ?_
  rintro e w' ⟨rfl, rfl⟩
  go_wp2_with fail
  refine (CN.out _ _).mono ?_
  rintro e w' ⟨rfl, rfl⟩
  go_wp2_with fail
  refine (SR.out _ _).mono ?_
  rintro e w' ⟨rfl, rfl⟩
  go_wp2_with fail
  refine (F1.out _).mono ?_
  rintro e w' ⟨rfl, rfl⟩
  go_wp2_with fail
  refine (RB.out _ _).mono ?_
  rintro e w' ⟨rfl, rfl⟩
  go_wp2
  go_ret
  exact ⟨rfl, below_drewN (Below.refl _ _) _⟩

set_option maxHeartbeats 2000000 in
theorem t_np4 (a b p l : Nat) (w : World) (PP : Hid (∀ w, Calls Try.prog 19 #[.float .f64 p] w fun e w' => e = .returned (.bool true) ∧ w' = w)) (PL : Hid (∀ w, Calls Try.prog 19 #[.float .f64 l] w fun e w' => e = .returned (.bool true) ∧ w' = w))
    (PR : Hid (∀ w, Calls Try.prog 13 #[.float .f64 a, .float .f64 b] w fun e w' => e = .returned (.tuple #[.float .f64 p, .float .f64 l]) ∧ ∃ n, w' = w.drewN n))
    (h : Ieee.double.mul a b = none) (CN : Hid (∀ w w', Calls Try.prog 21 #[.float .f64 (nanOf w a b)] w' fun e w'' => e = .returned (.float .f64 p) ∧ w'' = w'))
    (z : flt p 0 = false) (c1 : (flt a 9092767647661031424 || feq a 9092767647661031424) = true) (c2 : (fgt a 18316139684515807232 || feq a 18316139684515807232) = true) (c3 : (flt b 9092767647661031424 || feq b 9092767647661031424) = true) (c4 : (fgt b 18316139684515807232 || feq b 18316139684515807232) = false) (hl : l = 0) :
    Calls Try.prog 8 #[.float .f64 a, .float .f64 b] w fun e w' => e = .returned (.bool true) ∧ Below w.heap.size w w' := by
  have A := hid awake_any
  have SR := hid rawSame_refl
  have RB := hid rawBits_any
  have n9 := neg996
  have F1 : Hid (∀ w, Calls Try.prog 25 #[.int .u64 9092767647661031424] w fun e w' => e = .returned (.float .f64 9092767647661031424) ∧ w' = w) := fun w => from_any 9092767647661031424 w
  have F2 : Hid (∀ w, Calls Try.prog 25 #[.int .u64 243194379878006784] w fun e w' => e = .returned (.float .f64 243194379878006784) ∧ w' = w) := fun w => from_any 243194379878006784 w
  have F3 : Hid (∀ w, Calls Try.prog 25 #[.int .u64 9200854038717923328] w fun e w' => e = .returned (.float .f64 9200854038717923328) ∧ w' = w) := fun w => from_any 9200854038717923328 w
  have hc := fun (ty : TypeId) (w : World) => run_nan_mul (P := Try.prog) w ty a b h
  subst hl
  clear h
  go_enter Try.func8, Try.ntmps8
  go_wp2_with fail
  refine (A.out _).mono ?_
  rintro e w' ⟨rfl, k, rfl⟩
  go_wp2_with fail
  refine (PR.out _).mono ?_
  rintro e w' ⟨rfl, k, rfl⟩
  go_wp2_with fail
  refine (PP.out _).mono ?_
  rintro e w' ⟨rfl, rfl⟩
  go_wp2_with fail
  refine (PL.out _).mono ?_
  rintro e w' ⟨rfl, rfl⟩
  go_wp2_with fail
  refine (CN.out _ _).mono ?_
  rintro e w' ⟨rfl, rfl⟩
  go_wp2_with fail
  refine (SR.out _ _).mono ?_
  rintro e w' ⟨rfl, rfl⟩
  go_wp2_with fail
  refine (F1.out _).mono ?_
  rintro e w' ⟨rfl, rfl⟩
  go_wp2_with fail
  refine (RB.out _ _).mono ?_
  rintro e w' ⟨rfl, rfl⟩
  go_wp2
  go_ret
  exact ⟨rfl, below_drewN (Below.refl _ _) _⟩

set_option maxHeartbeats 2000000 in
theorem t_np5 (a b p l : Nat) (w : World) (PP : Hid (∀ w, Calls Try.prog 19 #[.float .f64 p] w fun e w' => e = .returned (.bool true) ∧ w' = w)) (PL : Hid (∀ w, Calls Try.prog 19 #[.float .f64 l] w fun e w' => e = .returned (.bool true) ∧ w' = w))
    (PR : Hid (∀ w, Calls Try.prog 13 #[.float .f64 a, .float .f64 b] w fun e w' => e = .returned (.tuple #[.float .f64 p, .float .f64 l]) ∧ ∃ n, w' = w.drewN n))
    (h : Ieee.double.mul a b = none) (CN : Hid (∀ w w', Calls Try.prog 21 #[.float .f64 (nanOf w a b)] w' fun e w'' => e = .returned (.float .f64 p) ∧ w'' = w'))
    (z : flt p 0 = false) (c1 : (flt a 9092767647661031424 || feq a 9092767647661031424) = true) (c2 : (fgt a 18316139684515807232 || feq a 18316139684515807232) = true) (c3 : (flt b 9092767647661031424 || feq b 9092767647661031424) = true) (c4 : (fgt b 18316139684515807232 || feq b 18316139684515807232) = true) (c5 : (fgt p 243194379878006784 || feq p 243194379878006784) = false) (hl : l = 0) :
    Calls Try.prog 8 #[.float .f64 a, .float .f64 b] w fun e w' => e = .returned (.bool true) ∧ Below w.heap.size w w' := by
  have A := hid awake_any
  have SR := hid rawSame_refl
  have RB := hid rawBits_any
  have n9 := neg996
  have F1 : Hid (∀ w, Calls Try.prog 25 #[.int .u64 9092767647661031424] w fun e w' => e = .returned (.float .f64 9092767647661031424) ∧ w' = w) := fun w => from_any 9092767647661031424 w
  have F2 : Hid (∀ w, Calls Try.prog 25 #[.int .u64 243194379878006784] w fun e w' => e = .returned (.float .f64 243194379878006784) ∧ w' = w) := fun w => from_any 243194379878006784 w
  have F3 : Hid (∀ w, Calls Try.prog 25 #[.int .u64 9200854038717923328] w fun e w' => e = .returned (.float .f64 9200854038717923328) ∧ w' = w) := fun w => from_any 9200854038717923328 w
  have hc := fun (ty : TypeId) (w : World) => run_nan_mul (P := Try.prog) w ty a b h
  subst hl
  clear h
  go_enter Try.func8, Try.ntmps8
  go_wp2_with fail
  refine (A.out _).mono ?_
  rintro e w' ⟨rfl, k, rfl⟩
  go_wp2_with fail
  refine (PR.out _).mono ?_
  rintro e w' ⟨rfl, k, rfl⟩
  go_wp2_with fail
  refine (PP.out _).mono ?_
  rintro e w' ⟨rfl, rfl⟩
  go_wp2_with fail
  refine (PL.out _).mono ?_
  rintro e w' ⟨rfl, rfl⟩
  go_wp2_with fail
  refine (CN.out _ _).mono ?_
  rintro e w' ⟨rfl, rfl⟩
  go_wp2_with fail
  refine (SR.out _ _).mono ?_
  rintro e w' ⟨rfl, rfl⟩
  go_wp2_with fail
  refine (F1.out _).mono ?_
  rintro e w' ⟨rfl, rfl⟩
  go_wp2_with fail
  refine (F2.out _).mono ?_
  rintro e w' ⟨rfl, rfl⟩
  go_wp2_with fail
  refine (RB.out _ _).mono ?_
  rintro e w' ⟨rfl, rfl⟩
  go_wp2
  go_ret
  exact ⟨rfl, below_drewN (Below.refl _ _) _⟩

end Go.Proofs.Ytcamlhpehnfnlaa.twinTimesDone
