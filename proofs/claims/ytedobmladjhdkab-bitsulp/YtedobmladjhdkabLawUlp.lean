/-
  For every float, of any bits, the call of the statement on Ulp returns true and leaves its argument as it was.
-/
import Derived.Test.YtedobmladjhdkabRows
import Derived.Test.YtedobmladjhdkabPm
import Derived.Test.YtedobmladjhdkabPn
import Derived.Test.YtedobmladjhdkabPu
import Derived.Test.YtedobmladjhdkabWd
import Derived.ProofKit
import Derived.OpenShut
import Derived.WalkLawsBesides
namespace Go.Proofs.Ytedobmladjhdkab.bitsUlpDone
open Go.ChangeShapes Go.WideShapes Go.ChangeAt Go.RowKit

theorem own : ownKnob Try.prog.godebug = none := by kernel_rfl

open Tf
attribute [local go_sem] run_bits run_from raw_feq raw_fne raw_flt raw_fgt run_neg

/-- the ways of the doubling test -/
def Twice (k : Int) (x u : Nat) : Prop :=
  (k == 2) = false ∨
  ((k == 2) = true ∧ ∃ y, Ieee.double.mul 4611686018427387904 x = some y ∧ y < 18446744073709551616 ∧ (fin y = false ∨ ∃ v, ulpB y = v ∧ v < 18446744073709551616 ∧ fin y = true ∧ (fin v = false ∨ (fin v = true ∧ Ieee.double.mul 4611686018427387904 u = some v))))

theorem twice_fact (a0 u : Nat) (hx : a0 < 18446744073709551616) (hle : mg a0 ≤ 9218868437227405312) (hf : mg a0 < 9218868437227405311) (u0 : 0 < u) (u1 : u < 9218868437227405312) (egap : gap 52 (mg a0) = mv u) : Twice (classB a0) a0 u := by
  have lu : u < 18446744073709551616 := by omega
  unfold Twice
  by_cases c : classB a0 = 2
  · right
    refine ⟨by rw [c]; rfl, ?_⟩
    have hnorm : 4503599627370496 ≤ mg a0 := by
      unfold classB at c
      by_cases z : mg a0 = 0
      · rw [if_pos z] at c; omega
      · rw [if_neg z] at c
        by_cases z2 : mg a0 < 4503599627370496
        · rw [if_pos z2] at c; omega
        · omega
    refine ⟨_, mul_two a0 _ hx (by omega) (mv_binade (mg a0) hnorm), ?_, ?_⟩
    · have hmin : min (mg a0 + 4503599627370496) 9218868437227405312 ≤ 9218868437227405312 := Nat.min_le_right _ _
      generalize min (mg a0 + 4503599627370496) 9218868437227405312 = z at *
      split <;> omega
    · generalize hy : (if ng a0 then 9223372036854775808 + min (mg a0 + 4503599627370496) 9218868437227405312 else min (mg a0 + 4503599627370496) 9218868437227405312) = y
      have my : mg y = min (mg a0 + 4503599627370496) 9218868437227405312 := by
        have hmin : min (mg a0 + 4503599627370496) 9218868437227405312 ≤ 9218868437227405312 := Nat.min_le_right _ _
        rw [← hy]
        generalize min (mg a0 + 4503599627370496) 9218868437227405312 = z at *
        cases ng a0
        · simp only [Bool.false_eq_true, if_false]; rw [mg_of_lt (by omega)]
        · simp only [if_true]; rw [mg_of_ge (by omega) (by omega)]; omega
      by_cases c1 : mg a0 + 4503599627370496 < 9218868437227405312
      · right
        refine ⟨_, rfl, ulpB_lt y, fin_iff.2 (by omega), ?_⟩
        by_cases c2 : mg y = 9218868437227405311
        · left
          have : ulpB y = 9218868437227405312 := by unfold ulpB; rw [isN_false.2 (by omega), c2]; rfl
          rw [this]; decide
        · right
          obtain ⟨v, v0, v1, egap2, ev⟩ := ulpB_fin (x := y) (by omega)
          have e2 : mv v = 2 * mv (mg u) := by
            rw [mg_of_lt (show u < 9223372036854775808 by omega), ← egap, ← egap2, my, show min (mg a0 + 4503599627370496) 9218868437227405312 = mg a0 + 4503599627370496 by omega, gap_binade (mg a0) hnorm]
          have e3 := mul_two u v lu (by rw [mg_of_lt (by omega)]; exact u1) e2
          rw [ng_of_lt (show u < 9223372036854775808 by omega), if_neg (by decide), show min v 9218868437227405312 = v by omega] at e3
          rw [ev]
          exact ⟨fin_iff.2 (by rw [mg_of_lt (by omega)]; exact v1), e3⟩
      · left
        unfold fin; exact decide_eq_false (by omega)
  · left; simp [c]

set_option maxHeartbeats 4000000 in
theorem below (x nx u m s q t : Nat) (k : Int) (w : World) (hx : x < 18446744073709551616) (hnx : nx < 18446744073709551616) (hu : u < 18446744073709551616) (hm : m < 18446744073709551616)
    (en : Op.negFloat .f64 x = nx) (h1 : Hid (ulpB x = u)) (h2 : Hid (ulpB nx = u)) (f0 : feq x x = true) (f1 : Hid (fin u = true))
    (g : fgt u 0 = true) (ea : Hid (Ieee.double.add m u = some s)) (ns : feq s m = false) (hup : Hid (upB m = s)) (ss : feq s s = true)
    (hk : Hid (classB x = k)) (eq : Hid (Ieee.double.mul u 4598175219545276416 = some q)) (et : Hid (Ieee.double.add m q = some t)) (tm : feq t m = true) (tw : Hid (Twice k x u)) (l : flt x 0 = true) (em : Hid (nx = m)) :
    Calls Try.prog 3 #[.float .f64 x] w fun e w' => e = .returned (.bool true) ∧ Grown w w' := by
  have e1 := em.out
  subst e1
  have ha := fun (t : TypeId) (w : World) => run_float_arith (P := Try.prog) w .add t .f64 _ u s ea.out
  have hq := fun (t : TypeId) (w : World) => run_float_arith (P := Try.prog) w .mul t .f64 u 4598175219545276416 q eq.out
  have ht := fun (ty : TypeId) (w : World) => run_float_arith (P := Try.prog) w .add ty .f64 _ q t et.out
  have SU : Hid (sameB u u = true) := hid (by unfold sameB; simp)
  rcases tw.out with k2 | ⟨k2, y, e2, ly, fy | ⟨v, ev, lv, fy, fv | ⟨fv, e3⟩⟩⟩
  · clear tw
    go_enter Try.func3, Try.ntmps3
    go_wp2_with fail
    refine (lives_any _).mono ?_
    rintro e w' ⟨rfl, rfl⟩
    go_wp2_with fail
    refine (ulp_at x u _ hx h1.out).mono ?_
    rintro e w' ⟨rfl, rfl⟩
    go_wp2_with fail
    refine (ulp_at nx u _ hnx h2.out).mono ?_
    rintro e w' ⟨rfl, rfl⟩
    go_wp2_with fail
    refine (same_at u u true _ SU.out).mono ?_
    rintro e w' ⟨rfl, rfl⟩
    go_wp2_with fail
    refine (finite_yes u _ hu f1.out).mono ?_
    rintro e w' ⟨rfl, rfl⟩
    go_wp2_with fail
    refine (up_at nx s _ hnx hup.out).mono ?_
    rintro e w' ⟨rfl, rfl⟩
    go_wp2_with fail
    refine (classB_at x k _ hx hk.out).mono ?_
    rintro e w' ⟨rfl, rfl⟩
    go_wp2
    go_ret
    exact ⟨rfl, by repeat (first | exact Grown.refl _ | apply Grown.drew)⟩
  · clear tw
    have h2x := fun (t : TypeId) (w : World) => run_float_arith (P := Try.prog) w .mul t .f64 4611686018427387904 x y e2
    have FY : Hid (fin y = false) := fy
    clear e2 fy
    go_enter Try.func3, Try.ntmps3
    go_wp2_with fail
    refine (lives_any _).mono ?_
    rintro e w' ⟨rfl, rfl⟩
    go_wp2_with fail
    refine (ulp_at x u _ hx h1.out).mono ?_
    rintro e w' ⟨rfl, rfl⟩
    go_wp2_with fail
    refine (ulp_at nx u _ hnx h2.out).mono ?_
    rintro e w' ⟨rfl, rfl⟩
    go_wp2_with fail
    refine (same_at u u true _ SU.out).mono ?_
    rintro e w' ⟨rfl, rfl⟩
    go_wp2_with fail
    refine (finite_yes u _ hu f1.out).mono ?_
    rintro e w' ⟨rfl, rfl⟩
    go_wp2_with fail
    refine (up_at nx s _ hnx hup.out).mono ?_
    rintro e w' ⟨rfl, rfl⟩
    go_wp2_with fail
    refine (classB_at x k _ hx hk.out).mono ?_
    rintro e w' ⟨rfl, rfl⟩
    go_wp2_with fail
    refine (finite_no y _ ly FY).mono ?_
    rintro e w' ⟨rfl, rfl⟩
    go_wp2
    go_ret
    exact ⟨rfl, by repeat (first | exact Grown.refl _ | apply Grown.drew)⟩
  · clear tw
    have h2x := fun (t : TypeId) (w : World) => run_float_arith (P := Try.prog) w .mul t .f64 4611686018427387904 x y e2
    have FY : Hid (fin y = true) := fy
    have EV : Hid (ulpB y = v) := ev
    have FV : Hid (fin v = false) := fv
    clear e2 fy ev fv
    go_enter Try.func3, Try.ntmps3
    go_wp2_with fail
    refine (lives_any _).mono ?_
    rintro e w' ⟨rfl, rfl⟩
    go_wp2_with fail
    refine (ulp_at x u _ hx h1.out).mono ?_
    rintro e w' ⟨rfl, rfl⟩
    go_wp2_with fail
    refine (ulp_at nx u _ hnx h2.out).mono ?_
    rintro e w' ⟨rfl, rfl⟩
    go_wp2_with fail
    refine (same_at u u true _ SU.out).mono ?_
    rintro e w' ⟨rfl, rfl⟩
    go_wp2_with fail
    refine (finite_yes u _ hu f1.out).mono ?_
    rintro e w' ⟨rfl, rfl⟩
    go_wp2_with fail
    refine (up_at nx s _ hnx hup.out).mono ?_
    rintro e w' ⟨rfl, rfl⟩
    go_wp2_with fail
    refine (classB_at x k _ hx hk.out).mono ?_
    rintro e w' ⟨rfl, rfl⟩
    go_wp2_with fail
    refine (finite_yes y _ ly FY).mono ?_
    rintro e w' ⟨rfl, rfl⟩
    go_wp2_with fail
    refine (ulp_at y v _ ly EV).mono ?_
    rintro e w' ⟨rfl, rfl⟩
    go_wp2_with fail
    refine (finite_no v _ lv FV).mono ?_
    rintro e w' ⟨rfl, rfl⟩
    go_wp2
    go_ret
    exact ⟨rfl, by repeat (first | exact Grown.refl _ | apply Grown.drew)⟩
  · clear tw
    have h2x := fun (t : TypeId) (w : World) => run_float_arith (P := Try.prog) w .mul t .f64 4611686018427387904 x y e2
    have h2u := fun (t : TypeId) (w : World) => run_float_arith (P := Try.prog) w .mul t .f64 4611686018427387904 u v e3
    have FY : Hid (fin y = true) := fy
    have EV : Hid (ulpB y = v) := ev
    have FV : Hid (fin v = true) := fv
    have SV : Hid (sameB v v = true) := hid (by unfold sameB; simp)
    clear e2 e3 fy ev fv
    go_enter Try.func3, Try.ntmps3
    go_wp2_with fail
    refine (lives_any _).mono ?_
    rintro e w' ⟨rfl, rfl⟩
    go_wp2_with fail
    refine (ulp_at x u _ hx h1.out).mono ?_
    rintro e w' ⟨rfl, rfl⟩
    go_wp2_with fail
    refine (ulp_at nx u _ hnx h2.out).mono ?_
    rintro e w' ⟨rfl, rfl⟩
    go_wp2_with fail
    refine (same_at u u true _ SU.out).mono ?_
    rintro e w' ⟨rfl, rfl⟩
    go_wp2_with fail
    refine (finite_yes u _ hu f1.out).mono ?_
    rintro e w' ⟨rfl, rfl⟩
    go_wp2_with fail
    refine (up_at nx s _ hnx hup.out).mono ?_
    rintro e w' ⟨rfl, rfl⟩
    go_wp2_with fail
    refine (classB_at x k _ hx hk.out).mono ?_
    rintro e w' ⟨rfl, rfl⟩
    go_wp2_with fail
    refine (finite_yes y _ ly FY).mono ?_
    rintro e w' ⟨rfl, rfl⟩
    go_wp2_with fail
    refine (ulp_at y v _ ly EV).mono ?_
    rintro e w' ⟨rfl, rfl⟩
    go_wp2_with fail
    refine (finite_yes v _ lv FV).mono ?_
    rintro e w' ⟨rfl, rfl⟩
    go_wp2_with fail
    refine (ulp_at y v _ ly EV).mono ?_
    rintro e w' ⟨rfl, rfl⟩
    go_wp2_with fail
    refine (same_at v v true _ SV).mono ?_
    rintro e w' ⟨rfl, rfl⟩
    go_wp2
    go_ret
    exact ⟨rfl, by repeat (first | exact Grown.refl _ | apply Grown.drew)⟩
set_option maxHeartbeats 4000000 in
theorem above (x nx u m s q t : Nat) (k : Int) (w : World) (hx : x < 18446744073709551616) (hnx : nx < 18446744073709551616) (hu : u < 18446744073709551616) (hm : m < 18446744073709551616)
    (en : Op.negFloat .f64 x = nx) (h1 : Hid (ulpB x = u)) (h2 : Hid (ulpB nx = u)) (f0 : feq x x = true) (f1 : Hid (fin u = true))
    (g : fgt u 0 = true) (ea : Hid (Ieee.double.add m u = some s)) (ns : feq s m = false) (hup : Hid (upB m = s)) (ss : feq s s = true)
    (hk : Hid (classB x = k)) (eq : Hid (Ieee.double.mul u 4598175219545276416 = some q)) (et : Hid (Ieee.double.add m q = some t)) (tm : feq t m = true) (tw : Hid (Twice k x u)) (l : flt x 0 = false) (em : Hid (x = m)) :
    Calls Try.prog 3 #[.float .f64 x] w fun e w' => e = .returned (.bool true) ∧ Grown w w' := by
  have e1 := em.out
  subst e1
  have ha := fun (t : TypeId) (w : World) => run_float_arith (P := Try.prog) w .add t .f64 _ u s ea.out
  have hq := fun (t : TypeId) (w : World) => run_float_arith (P := Try.prog) w .mul t .f64 u 4598175219545276416 q eq.out
  have ht := fun (ty : TypeId) (w : World) => run_float_arith (P := Try.prog) w .add ty .f64 _ q t et.out
  have SU : Hid (sameB u u = true) := hid (by unfold sameB; simp)
  rcases tw.out with k2 | ⟨k2, y, e2, ly, fy | ⟨v, ev, lv, fy, fv | ⟨fv, e3⟩⟩⟩
  · clear tw
    go_enter Try.func3, Try.ntmps3
    go_wp2_with fail
    refine (lives_any _).mono ?_
    rintro e w' ⟨rfl, rfl⟩
    go_wp2_with fail
    refine (ulp_at x u _ hx h1.out).mono ?_
    rintro e w' ⟨rfl, rfl⟩
    go_wp2_with fail
    refine (ulp_at nx u _ hnx h2.out).mono ?_
    rintro e w' ⟨rfl, rfl⟩
    go_wp2_with fail
    refine (same_at u u true _ SU.out).mono ?_
    rintro e w' ⟨rfl, rfl⟩
    go_wp2_with fail
    refine (finite_yes u _ hu f1.out).mono ?_
    rintro e w' ⟨rfl, rfl⟩
    go_wp2_with fail
    refine (up_at x s _ hx hup.out).mono ?_
    rintro e w' ⟨rfl, rfl⟩
    go_wp2_with fail
    refine (classB_at x k _ hx hk.out).mono ?_
    rintro e w' ⟨rfl, rfl⟩
    go_wp2
    go_ret
    exact ⟨rfl, by repeat (first | exact Grown.refl _ | apply Grown.drew)⟩
  · clear tw
    have h2x := fun (t : TypeId) (w : World) => run_float_arith (P := Try.prog) w .mul t .f64 4611686018427387904 x y e2
    have FY : Hid (fin y = false) := fy
    clear e2 fy
    go_enter Try.func3, Try.ntmps3
    go_wp2_with fail
    refine (lives_any _).mono ?_
    rintro e w' ⟨rfl, rfl⟩
    go_wp2_with fail
    refine (ulp_at x u _ hx h1.out).mono ?_
    rintro e w' ⟨rfl, rfl⟩
    go_wp2_with fail
    refine (ulp_at nx u _ hnx h2.out).mono ?_
    rintro e w' ⟨rfl, rfl⟩
    go_wp2_with fail
    refine (same_at u u true _ SU.out).mono ?_
    rintro e w' ⟨rfl, rfl⟩
    go_wp2_with fail
    refine (finite_yes u _ hu f1.out).mono ?_
    rintro e w' ⟨rfl, rfl⟩
    go_wp2_with fail
    refine (up_at x s _ hx hup.out).mono ?_
    rintro e w' ⟨rfl, rfl⟩
    go_wp2_with fail
    refine (classB_at x k _ hx hk.out).mono ?_
    rintro e w' ⟨rfl, rfl⟩
    go_wp2_with fail
    refine (finite_no y _ ly FY).mono ?_
    rintro e w' ⟨rfl, rfl⟩
    go_wp2
    go_ret
    exact ⟨rfl, by repeat (first | exact Grown.refl _ | apply Grown.drew)⟩
  · clear tw
    have h2x := fun (t : TypeId) (w : World) => run_float_arith (P := Try.prog) w .mul t .f64 4611686018427387904 x y e2
    have FY : Hid (fin y = true) := fy
    have EV : Hid (ulpB y = v) := ev
    have FV : Hid (fin v = false) := fv
    clear e2 fy ev fv
    go_enter Try.func3, Try.ntmps3
    go_wp2_with fail
    refine (lives_any _).mono ?_
    rintro e w' ⟨rfl, rfl⟩
    go_wp2_with fail
    refine (ulp_at x u _ hx h1.out).mono ?_
    rintro e w' ⟨rfl, rfl⟩
    go_wp2_with fail
    refine (ulp_at nx u _ hnx h2.out).mono ?_
    rintro e w' ⟨rfl, rfl⟩
    go_wp2_with fail
    refine (same_at u u true _ SU.out).mono ?_
    rintro e w' ⟨rfl, rfl⟩
    go_wp2_with fail
    refine (finite_yes u _ hu f1.out).mono ?_
    rintro e w' ⟨rfl, rfl⟩
    go_wp2_with fail
    refine (up_at x s _ hx hup.out).mono ?_
    rintro e w' ⟨rfl, rfl⟩
    go_wp2_with fail
    refine (classB_at x k _ hx hk.out).mono ?_
    rintro e w' ⟨rfl, rfl⟩
    go_wp2_with fail
    refine (finite_yes y _ ly FY).mono ?_
    rintro e w' ⟨rfl, rfl⟩
    go_wp2_with fail
    refine (ulp_at y v _ ly EV).mono ?_
    rintro e w' ⟨rfl, rfl⟩
    go_wp2_with fail
    refine (finite_no v _ lv FV).mono ?_
    rintro e w' ⟨rfl, rfl⟩
    go_wp2
    go_ret
    exact ⟨rfl, by repeat (first | exact Grown.refl _ | apply Grown.drew)⟩
  · clear tw
    have h2x := fun (t : TypeId) (w : World) => run_float_arith (P := Try.prog) w .mul t .f64 4611686018427387904 x y e2
    have h2u := fun (t : TypeId) (w : World) => run_float_arith (P := Try.prog) w .mul t .f64 4611686018427387904 u v e3
    have FY : Hid (fin y = true) := fy
    have EV : Hid (ulpB y = v) := ev
    have FV : Hid (fin v = true) := fv
    have SV : Hid (sameB v v = true) := hid (by unfold sameB; simp)
    clear e2 e3 fy ev fv
    go_enter Try.func3, Try.ntmps3
    go_wp2_with fail
    refine (lives_any _).mono ?_
    rintro e w' ⟨rfl, rfl⟩
    go_wp2_with fail
    refine (ulp_at x u _ hx h1.out).mono ?_
    rintro e w' ⟨rfl, rfl⟩
    go_wp2_with fail
    refine (ulp_at nx u _ hnx h2.out).mono ?_
    rintro e w' ⟨rfl, rfl⟩
    go_wp2_with fail
    refine (same_at u u true _ SU.out).mono ?_
    rintro e w' ⟨rfl, rfl⟩
    go_wp2_with fail
    refine (finite_yes u _ hu f1.out).mono ?_
    rintro e w' ⟨rfl, rfl⟩
    go_wp2_with fail
    refine (up_at x s _ hx hup.out).mono ?_
    rintro e w' ⟨rfl, rfl⟩
    go_wp2_with fail
    refine (classB_at x k _ hx hk.out).mono ?_
    rintro e w' ⟨rfl, rfl⟩
    go_wp2_with fail
    refine (finite_yes y _ ly FY).mono ?_
    rintro e w' ⟨rfl, rfl⟩
    go_wp2_with fail
    refine (ulp_at y v _ ly EV).mono ?_
    rintro e w' ⟨rfl, rfl⟩
    go_wp2_with fail
    refine (finite_yes v _ lv FV).mono ?_
    rintro e w' ⟨rfl, rfl⟩
    go_wp2_with fail
    refine (ulp_at y v _ ly EV).mono ?_
    rintro e w' ⟨rfl, rfl⟩
    go_wp2_with fail
    refine (same_at v v true _ SV).mono ?_
    rintro e w' ⟨rfl, rfl⟩
    go_wp2
    go_ret
    exact ⟨rfl, by repeat (first | exact Grown.refl _ | apply Grown.drew)⟩

set_option maxHeartbeats 1000000 in
theorem nans (x nx : Nat) (w : World) (hx : x < 18446744073709551616) (hnx : nx < 18446744073709551616) (en : Op.negFloat .f64 x = nx) (f : feq x x = false) (h1 : Hid (ulpB x = 9221120237041090561)) (h2 : Hid (ulpB nx = 9221120237041090561)) :
    Calls Try.prog 3 #[.float .f64 x] w fun e w' => e = .returned (.bool true) ∧ Grown w w' := by
  go_enter Try.func3, Try.ntmps3
  go_wp2_with fail
  refine (lives_any _).mono ?_
  rintro e w' ⟨rfl, rfl⟩
  go_wp2_with fail
  refine (ulp_at x 9221120237041090561 _ hx h1.out).mono ?_
  rintro e w' ⟨rfl, rfl⟩
  go_wp2_with fail
  refine (ulp_at nx 9221120237041090561 _ hnx h2.out).mono ?_
  rintro e w' ⟨rfl, rfl⟩
  go_wp2_with fail
  refine (same_at 9221120237041090561 9221120237041090561 true _ (by decide)).mono ?_
  rintro e w' ⟨rfl, rfl⟩
  go_wp2_with fail
  refine (by_at 9221120237041090561 9221120237041090561 _ (by decide)).mono ?_
  rintro e w' ⟨rfl, rfl⟩
  go_wp2_with fail
  refine (same_at 9221120237041090561 9221120237041090561 true _ (by decide)).mono ?_
  rintro e w' ⟨rfl, rfl⟩
  go_wp2
  go_ret
  exact ⟨rfl, by repeat (first | exact Grown.refl _ | apply Grown.drew)⟩

set_option maxHeartbeats 1000000 in
theorem pinf (w : World) :
    Calls Try.prog 3 #[.float .f64 9218868437227405312] w fun e w' => e = .returned (.bool true) ∧ Grown w w' := by
  have q : feq 9218868437227405312 9218868437227405312 = true := by decide
  have en : Op.negFloat .f64 9218868437227405312 = 18442240474082181120 := negFloat_eq _ (by decide)
  go_enter Try.func3, Try.ntmps3
  go_wp2_with fail
  refine (lives_any _).mono ?_
  rintro e w' ⟨rfl, rfl⟩
  go_wp2_with fail
  refine (ulp_at 9218868437227405312 9218868437227405312 _ (by decide) (by decide)).mono ?_
  rintro e w' ⟨rfl, rfl⟩
  go_wp2_with fail
  refine (ulp_at 18442240474082181120 9218868437227405312 _ (by decide) (by decide)).mono ?_
  rintro e w' ⟨rfl, rfl⟩
  go_wp2_with fail
  refine (same_at 9218868437227405312 9218868437227405312 true _ (by decide)).mono ?_
  rintro e w' ⟨rfl, rfl⟩
  go_wp2_with fail
  refine (finite_no 9218868437227405312 _ (by decide) (by decide)).mono ?_
  rintro e w' ⟨rfl, rfl⟩
  go_wp2_with fail
  refine (finite_no 9218868437227405312 _ (by decide) (by decide)).mono ?_
  rintro e w' ⟨rfl, rfl⟩
  go_wp2
  go_ret
  exact ⟨by simp, by repeat (first | exact Grown.refl _ | apply Grown.drew)⟩

set_option maxHeartbeats 1000000 in
theorem ninf (w : World) :
    Calls Try.prog 3 #[.float .f64 18442240474082181120] w fun e w' => e = .returned (.bool true) ∧ Grown w w' := by
  have q : feq 18442240474082181120 18442240474082181120 = true := by decide
  have en : Op.negFloat .f64 18442240474082181120 = 9218868437227405312 := negFloat_eq _ (by decide)
  go_enter Try.func3, Try.ntmps3
  go_wp2_with fail
  refine (lives_any _).mono ?_
  rintro e w' ⟨rfl, rfl⟩
  go_wp2_with fail
  refine (ulp_at 18442240474082181120 9218868437227405312 _ (by decide) (by decide)).mono ?_
  rintro e w' ⟨rfl, rfl⟩
  go_wp2_with fail
  refine (ulp_at 9218868437227405312 9218868437227405312 _ (by decide) (by decide)).mono ?_
  rintro e w' ⟨rfl, rfl⟩
  go_wp2_with fail
  refine (same_at 9218868437227405312 9218868437227405312 true _ (by decide)).mono ?_
  rintro e w' ⟨rfl, rfl⟩
  go_wp2_with fail
  refine (finite_no 9218868437227405312 _ (by decide) (by decide)).mono ?_
  rintro e w' ⟨rfl, rfl⟩
  go_wp2_with fail
  refine (finite_no 18442240474082181120 _ (by decide) (by decide)).mono ?_
  rintro e w' ⟨rfl, rfl⟩
  go_wp2
  go_ret
  exact ⟨by simp, by repeat (first | exact Grown.refl _ | apply Grown.drew)⟩

set_option maxHeartbeats 1000000 in
theorem pmost (w : World) :
    Calls Try.prog 3 #[.float .f64 9218868437227405311] w fun e w' => e = .returned (.bool true) ∧ Grown w w' := by
  have q : feq 9218868437227405311 9218868437227405311 = true := by decide
  have en : Op.negFloat .f64 9218868437227405311 = 18442240474082181119 := negFloat_eq _ (by decide)
  go_enter Try.func3, Try.ntmps3
  go_wp2_with fail
  refine (lives_any _).mono ?_
  rintro e w' ⟨rfl, rfl⟩
  go_wp2_with fail
  refine (ulp_at 9218868437227405311 9218868437227405312 _ (by decide) (by decide)).mono ?_
  rintro e w' ⟨rfl, rfl⟩
  go_wp2_with fail
  refine (ulp_at 18442240474082181119 9218868437227405312 _ (by decide) (by decide)).mono ?_
  rintro e w' ⟨rfl, rfl⟩
  go_wp2_with fail
  refine (same_at 9218868437227405312 9218868437227405312 true _ (by decide)).mono ?_
  rintro e w' ⟨rfl, rfl⟩
  go_wp2_with fail
  refine (finite_no 9218868437227405312 _ (by decide) (by decide)).mono ?_
  rintro e w' ⟨rfl, rfl⟩
  go_wp2_with fail
  refine (finite_yes 9218868437227405311 _ (by decide) (by decide)).mono ?_
  rintro e w' ⟨rfl, rfl⟩
  go_wp2_with fail
  refine (up_at 9218868437227405311 9218868437227405312 _ (by decide) (by decide)).mono ?_
  rintro e w' ⟨rfl, rfl⟩
  go_wp2_with fail
  refine (finite_no 9218868437227405312 _ (by decide) (by decide)).mono ?_
  rintro e w' ⟨rfl, rfl⟩
  go_wp2
  go_ret
  exact ⟨by simp, by repeat (first | exact Grown.refl _ | apply Grown.drew)⟩

set_option maxHeartbeats 1000000 in
theorem nmost (w : World) :
    Calls Try.prog 3 #[.float .f64 18442240474082181119] w fun e w' => e = .returned (.bool true) ∧ Grown w w' := by
  have q : feq 18442240474082181119 18442240474082181119 = true := by decide
  have en : Op.negFloat .f64 18442240474082181119 = 9218868437227405311 := negFloat_eq _ (by decide)
  go_enter Try.func3, Try.ntmps3
  go_wp2_with fail
  refine (lives_any _).mono ?_
  rintro e w' ⟨rfl, rfl⟩
  go_wp2_with fail
  refine (ulp_at 18442240474082181119 9218868437227405312 _ (by decide) (by decide)).mono ?_
  rintro e w' ⟨rfl, rfl⟩
  go_wp2_with fail
  refine (ulp_at 9218868437227405311 9218868437227405312 _ (by decide) (by decide)).mono ?_
  rintro e w' ⟨rfl, rfl⟩
  go_wp2_with fail
  refine (same_at 9218868437227405312 9218868437227405312 true _ (by decide)).mono ?_
  rintro e w' ⟨rfl, rfl⟩
  go_wp2_with fail
  refine (finite_no 9218868437227405312 _ (by decide) (by decide)).mono ?_
  rintro e w' ⟨rfl, rfl⟩
  go_wp2_with fail
  refine (finite_yes 18442240474082181119 _ (by decide) (by decide)).mono ?_
  rintro e w' ⟨rfl, rfl⟩
  go_wp2_with fail
  refine (up_at 18442240474082181119 18442240474082181118 _ (by decide) (by decide)).mono ?_
  rintro e w' ⟨rfl, rfl⟩
  go_wp2_with fail
  refine (finite_yes 18442240474082181118 _ (by decide) (by decide)).mono ?_
  rintro e w' ⟨rfl, rfl⟩
  go_wp2_with fail
  refine (down_at 18442240474082181119 18442240474082181120 _ (by decide) (by decide)).mono ?_
  rintro e w' ⟨rfl, rfl⟩
  go_wp2_with fail
  refine (finite_no 18442240474082181120 _ (by decide) (by decide)).mono ?_
  rintro e w' ⟨rfl, rfl⟩
  go_wp2
  go_ret
  exact ⟨by simp, by repeat (first | exact Grown.refl _ | apply Grown.drew)⟩
theorem walk (a0 : Nat) (w0 : (Lit.float .f64 a0).wf = true) (w : World) :
    Calls Try.prog 3 #[.float .f64 a0] w fun e w' => e = .returned (.bool true) ∧ Grown w w' := by
  have hx := lit_lt w0
  have f := feq_self a0 hx
  have hw := word_eq a0 hx
  have hn0 := negB_lt hx
  have en := negFloat_eq a0 hx
  have eu := ulpB_mg (mg_negB a0)
  cases nA : isN a0
  · rw [nA] at f
    have hle := isN_false.1 nA
    by_cases mi : mg a0 = 9218868437227405312
    · cases hn : ng a0
      · rw [hn, mi] at hw; simp only [Bool.false_eq_true, if_false] at hw
        rw [hw]; exact pinf w
      · rw [hn, mi] at hw; simp only [if_true] at hw
        rw [hw]; exact ninf w
    by_cases mo : mg a0 = 9218868437227405311
    · cases hn : ng a0
      · rw [hn, mo] at hw; simp only [Bool.false_eq_true, if_false] at hw
        rw [hw]; exact pmost w
      · rw [hn, mo] at hw; simp only [if_true] at hw
        rw [hw]; exact nmost w
    have hf : mg a0 < 9218868437227405311 := by omega
    obtain ⟨u, u0, u1, egap, eu1⟩ := ulpB_fin (x := a0) hf
    have lu : u < 18446744073709551616 := by omega
    have fu : fin u = true := fin_iff.2 (by rw [mg_of_lt (by omega)]; exact u1)
    have nu : isN u = false := isN_false.2 (by rw [mg_of_lt (by omega)]; omega)
    have ru : rk u = u := by unfold rk; rw [ng_of_lt (by omega), mg_of_lt (by omega)]; rfl
    have n0 : isN 0 = false := by decide
    have r0 : rk 0 = 0 := by decide
    have gu : fgt u 0 = true := by rw [fgt_rk u 0 lu (by decide), nu, n0, r0, ru]; simp; omega
    have tw : Twice (classB a0) a0 u := twice_fact a0 u hx hle hf u0 u1 egap
    have lx := flt_rk a0 0 hx (by decide)
    rw [nA, n0, r0] at lx
    simp only [Bool.not_false, Bool.and_self, Bool.true_and] at lx
    have key : ∀ m, m < 18446744073709551616 → mg m = mg a0 → 0 ≤ rk m → ∃ s q t, Ieee.double.add m u = some s ∧ feq s m = false ∧ upB m = s ∧ feq s s = true ∧ Ieee.double.mul u 4598175219545276416 = some q ∧ Ieee.double.add m q = some t ∧ feq t m = true := by
      intro m lm em hr
      have eum : ulpB m = u := by rw [ulpB_mg em, eu1]
      obtain ⟨q, t, b1, b2, b3⟩ := add_quarter m lm (by rw [em]; exact hf) hr
      have st := step_up m lm (by omega) hr
      rw [eum] at st b1
      have nm : isN m = false := isN_false.2 (by omega)
      have hne : ¬ m = 9218868437227405312 := by intro e; rw [e, mg_of_lt (by decide)] at em; omega
      have rup := rk_up m lm nm hne
      have lup := upB_lt lm
      refine ⟨upB m, q, t, st, ?_, rfl, ?_, b1, b2, b3⟩
      · rw [feq_rk _ _ lup lm, rup.1, nm, rup.2]; simp; omega
      · rw [feq_self _ lup, rup.1]; rfl
    by_cases neg : rk a0 < 0
    · have rn := rk_negB a0 hx
      obtain ⟨s, q, t, c1, c2, c3, c4, c5, c6, c7⟩ := key (negB a0) hn0 (mg_negB a0) (by omega)
      exact below a0 _ u _ s q t _ w hx hn0 lu hn0 en eu1 (by rw [eu, eu1]; rfl) f fu gu c1 c2 c3 c4 rfl c5 c6 c7 tw (by rw [lx]; exact decide_eq_true neg) rfl
    · obtain ⟨s, q, t, c1, c2, c3, c4, c5, c6, c7⟩ := key a0 hx rfl (by omega)
      exact above a0 _ u _ s q t _ w hx hn0 lu hx en eu1 (by rw [eu, eu1]; rfl) f fu gu c1 c2 c3 c4 rfl c5 c6 c7 tw (by rw [lx]; exact decide_eq_false neg) rfl
  · rw [nA] at f
    have e1 : ulpB a0 = 9221120237041090561 := by unfold ulpB; rw [nA]; rfl
    exact nans a0 _ w hx hn0 en f e1 (by rw [eu, e1]; rfl)

set_option maxRecDepth 100000 in
theorem lifted (os : Os) (started : os.Started) (H : Type) (enc : TypeId × Value → H) :
    ReturnsInHanded {} Try.checked os 3 .any (Rows.bitsUlpSpec.pre6 enc Try.prog Try.f3 Rows.bitsUlpRow.domain false) (Rows.bitsUlpSpec.post enc Try.prog Try.f3 false true false false) := by
  refine returnsInHanded_of_change (C := Try.checked) own started (by kernel_rfl) Try.func3
    (ChangeSpec.witness6 (enc := enc) (C := Try.checked) false ⟨#[], #[.float .f64 0], []⟩ 8 (by kernel_rfl) (by kernel_rfl) (by kernel_rfl) (by kernel_rfl)) ?_
  intro W base args ds gs before hval0 hW hcnd _
  have hval : ∀ (j : Nat) t v, Try.f3.params[j]? = some t → args[j]? = some v → Value.okWide Try.prog W .any base t v := hval0
  have hW' := hW
  obtain ⟨p, q, hA0, hV, rfl, hfz, hnd⟩ := hW
  have hA : DataW.TrodAll enc Try.prog W 0 (fun _ => true) true Try.f3.params.toList args.toList ds p := hA0
  rw [Try.params3] at hA hval
  obtain ⟨v0, vs0, d0, ds0, p0, q0, hargs, rfl, rfl, h0, r0⟩ := trodAll_cons hA
  obtain ⟨rfl, rfl, rfl⟩ := trodAll_nil r0
  obtain rfl : args = #[v0] := by cases args; simp_all
  obtain ⟨rfl, rfl⟩ := trodVars_none hV
  obtain ⟨a0, rfl, rfl, rfl, w0⟩ := open_float Try.underlying22 (hval 0 22 v0 rfl rfl) h0
  clear hA0 hval0
  simp only [List.append_nil] at hW'
  refine (walk a0 w0 W).mono fun e W' ⟨he, hg⟩ => ?_
  subst he
  exact ⟨_, rfl, post_of_same (pa := []) (pv := []) hW' (fun _ _ _ => (trodAll_cons_mk (shut_bool Try.underlying4 _) trodAll_mk0)) (fun sp _ => (trodAll_cons_mk (shut_float Try.underlying22 w0) trodAll_mk0)) (fun _ _ => rfl) rfl
    (hg.frame _) hg.2.1 (ok_one (by kernel_rfl) rfl (okWide_bool_mk Try.underlying4 _))⟩

theorem over : Rows.bitsUlpRow.holds Try.pinned (OpenSpec.ofChange Rows.bitsUlpSpec) :=
  OpenClaim.holds_of_wide 3 Try.f3 rfl rfl rfl rfl rfl rfl rfl ⟨rfl, rfl, rfl, rfl, rfl⟩ rfl rfl rfl rfl rfl (by kernel_rfl) Try.func3 (by kernel_rfl)
    (of_decide_eq_true (by kernel_rfl)) (by unfold Func.isWrapper; first | (rw [if_pos (by decide +kernel)]; kernel_rfl) | (rw [if_neg (by decide +kernel)]; exact ⟨rfl, rfl⟩))
    (fun os started H enc _ => lifted os started H enc)

end Go.Proofs.Ytedobmladjhdkab.bitsUlpDone
namespace Go.Proofs.Ytedobmladjhdkab
theorem bitsUlp_holds : Rows.BitsUlpSaid := bitsUlpDone.over
#print axioms bitsUlp_holds
end Go.Proofs.Ytedobmladjhdkab
