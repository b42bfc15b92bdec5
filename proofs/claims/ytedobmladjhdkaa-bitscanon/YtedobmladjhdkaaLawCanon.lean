/-
  For every float, of any bits, the call of the statement on Canon and Class returns true and leaves its argument as it was.
-/
import Derived.Test.YtedobmladjhdkaaRows
import Derived.Test.YtedobmladjhdkaaWd
import Derived.ProofKit
import Derived.OpenShut
import Derived.WalkLawsBesides
namespace Go.Proofs.Ytedobmladjhdkaa.bitsCanonDone
open Go.ChangeShapes Go.WideShapes Go.ChangeAt Go.RowKit

theorem own : ownKnob Try.prog.godebug = none := by kernel_rfl

open Tf
attribute [local go_sem] run_bits run_from raw_feq raw_fne raw_flt raw_fgt run_neg
theorem lit_lt {x : Nat} (h : (Lit.float .f64 x).wf = true) : x < 18446744073709551616 := by
  simpa [Lit.wf] using h
theorem feq_self (x : Nat) (hx : x < 18446744073709551616) : feq x x = !isN x := by
  rw [feq_rk x x hx hx]; cases isN x <;> simp
theorem mg_negB (x : Nat) : mg (negB x) = mg x := by
  unfold negB
  cases h : ng x
  · have := lt_of_ng h
    simp only [Bool.false_eq_true, if_false]; unfold mg; omega
  · have := ge_of_ng h
    simp only [if_true]; unfold mg; omega
theorem classB_mg {x y : Nat} (h : mg x = mg y) : classB x = classB y := by unfold classB; rw [h]

set_option maxHeartbeats 1000000 in
theorem nans (x nx : Nat) (w : World) (hx : x < 18446744073709551616) (hn : nx < 18446744073709551616) (en : Op.negFloat .f64 x = nx)
    (h1 : Hid (canonB x = 9221120237041090561)) (h2 : Hid (canonB 9221120237041090561 = 9221120237041090561)) (h3 : Hid (sameB 9221120237041090561 9221120237041090561 = true)) (h4 : Hid (classB 9221120237041090561 = 4)) (h5 : Hid (classB x = 4)) (h6 : Hid (classB nx = 4)) (f : feq x x = false) :
    Calls Try.prog 8 #[.float .f64 x] w fun e w' => e = .returned (.bool true) ∧ w' = w := by
  go_enter Try.func8, Try.ntmps8
  go_wp2_with fail
  refine (lives_any _).mono ?_
  rintro e w' ⟨rfl, rfl⟩
  go_wp2_with fail
  refine (canon_at x 9221120237041090561 _ hx h1.out).mono ?_
  rintro e w' ⟨rfl, rfl⟩
  go_wp2_with fail
  refine (canon_at 9221120237041090561 9221120237041090561 _ (by decide) h2.out).mono ?_
  rintro e w' ⟨rfl, rfl⟩
  go_wp2_with fail
  refine (same_at 9221120237041090561 9221120237041090561 true _ h3.out).mono ?_
  rintro e w' ⟨rfl, rfl⟩
  go_wp2_with fail
  refine (classB_at 9221120237041090561 4 _ (by decide) h4.out).mono ?_
  rintro e w' ⟨rfl, rfl⟩
  go_wp2_with fail
  refine (classB_at x 4 _ hx h5.out).mono ?_
  rintro e w' ⟨rfl, rfl⟩
  go_wp2_with fail
  refine (classB_at nx 4 _ hn h6.out).mono ?_
  rintro e w' ⟨rfl, rfl⟩
  go_wp2_with fail
  refine (classB_at x 4 _ hx h5.out).mono ?_
  rintro e w' ⟨rfl, rfl⟩
  go_wp2_with fail
  refine (by_at 9221120237041090561 9221120237041090561 _ (by decide)).mono ?_
  rintro e w' ⟨rfl, rfl⟩
  go_wp2_with fail
  refine (same_at 9221120237041090561 9221120237041090561 true _ (by decide)).mono ?_
  rintro e w' ⟨rfl, rfl⟩
  go_wp2_with fail
  refine (classB_at x 4 _ hx h5.out).mono ?_
  rintro e w' ⟨rfl, rfl⟩
  go_wp2
  go_ret
  exact ⟨rfl, rfl⟩

set_option maxHeartbeats 1000000 in
theorem noughts (x nx : Nat) (w : World) (hx : x < 18446744073709551616) (hn : nx < 18446744073709551616) (en : Op.negFloat .f64 x = nx)
    (h1 : Hid (canonB x = 0)) (h2 : Hid (canonB 0 = 0)) (h3 : Hid (sameB 0 0 = true)) (h4 : Hid (classB 0 = 0)) (h5 : Hid (classB x = 0)) (h6 : Hid (classB nx = 0)) (f : feq x x = true) (z : feq x 0 = true) :
    Calls Try.prog 8 #[.float .f64 x] w fun e w' => e = .returned (.bool true) ∧ w' = w := by
  go_enter Try.func8, Try.ntmps8
  go_wp2_with fail
  refine (lives_any _).mono ?_
  rintro e w' ⟨rfl, rfl⟩
  go_wp2_with fail
  refine (canon_at x 0 _ hx h1.out).mono ?_
  rintro e w' ⟨rfl, rfl⟩
  go_wp2_with fail
  refine (canon_at 0 0 _ (by decide) h2.out).mono ?_
  rintro e w' ⟨rfl, rfl⟩
  go_wp2_with fail
  refine (same_at 0 0 true _ h3.out).mono ?_
  rintro e w' ⟨rfl, rfl⟩
  go_wp2_with fail
  refine (classB_at 0 0 _ (by decide) h4.out).mono ?_
  rintro e w' ⟨rfl, rfl⟩
  go_wp2_with fail
  refine (classB_at x 0 _ hx h5.out).mono ?_
  rintro e w' ⟨rfl, rfl⟩
  go_wp2_with fail
  refine (classB_at nx 0 _ hn h6.out).mono ?_
  rintro e w' ⟨rfl, rfl⟩
  go_wp2_with fail
  refine (classB_at x 0 _ hx h5.out).mono ?_
  rintro e w' ⟨rfl, rfl⟩
  go_wp2_with fail
  refine (by_at 0 0 _ (by decide)).mono ?_
  rintro e w' ⟨rfl, rfl⟩
  go_wp2_with fail
  refine (same_at 0 0 true _ (by decide)).mono ?_
  rintro e w' ⟨rfl, rfl⟩
  go_wp2_with fail
  refine (classB_at x 0 _ hx h5.out).mono ?_
  rintro e w' ⟨rfl, rfl⟩
  go_wp2
  go_ret
  exact ⟨rfl, rfl⟩

set_option maxHeartbeats 1000000 in
theorem infs (x nx y : Nat) (w : World) (hx : x < 18446744073709551616) (hn : nx < 18446744073709551616) (en : Op.negFloat .f64 x = nx) (hy : y < 18446744073709551616)
    (h1 : Hid (canonB x = y)) (h2 : Hid (canonB y = y)) (h3 : Hid (sameB y y = true)) (h4 : Hid (classB y = 3)) (h5 : Hid (classB x = 3)) (h6 : Hid (classB nx = 3)) (f : feq x x = true) (z : feq x 0 = false) (f' : Hid (fin x = false)) (s : Hid (sameB y x = true)) :
    Calls Try.prog 8 #[.float .f64 x] w fun e w' => e = .returned (.bool true) ∧ w' = w.drew := by
  go_enter Try.func8, Try.ntmps8
  go_wp2_with fail
  refine (lives_any _).mono ?_
  rintro e w' ⟨rfl, rfl⟩
  go_wp2_with fail
  refine (canon_at x y _ hx h1.out).mono ?_
  rintro e w' ⟨rfl, rfl⟩
  go_wp2_with fail
  refine (canon_at y y _ hy h2.out).mono ?_
  rintro e w' ⟨rfl, rfl⟩
  go_wp2_with fail
  refine (same_at y y true _ h3.out).mono ?_
  rintro e w' ⟨rfl, rfl⟩
  go_wp2_with fail
  refine (classB_at y 3 _ hy h4.out).mono ?_
  rintro e w' ⟨rfl, rfl⟩
  go_wp2_with fail
  refine (classB_at x 3 _ hx h5.out).mono ?_
  rintro e w' ⟨rfl, rfl⟩
  go_wp2_with fail
  refine (classB_at nx 3 _ hn h6.out).mono ?_
  rintro e w' ⟨rfl, rfl⟩
  go_wp2_with fail
  refine (classB_at x 3 _ hx h5.out).mono ?_
  rintro e w' ⟨rfl, rfl⟩
  go_wp2_with fail
  refine (finite_no x _ hx f'.out).mono ?_
  rintro e w' ⟨rfl, rfl⟩
  go_wp2_with fail
  refine (same_at y x true _ s.out).mono ?_
  rintro e w' ⟨rfl, rfl⟩
  go_wp2_with fail
  refine (classB_at x 3 _ hx h5.out).mono ?_
  rintro e w' ⟨rfl, rfl⟩
  go_wp2
  go_ret
  exact ⟨rfl, rfl⟩

set_option maxHeartbeats 1000000 in
theorem subs (x nx y : Nat) (w : World) (hx : x < 18446744073709551616) (hn : nx < 18446744073709551616) (en : Op.negFloat .f64 x = nx) (hy : y < 18446744073709551616)
    (h1 : Hid (canonB x = y)) (h2 : Hid (canonB y = y)) (h3 : Hid (sameB y y = true)) (h4 : Hid (classB y = 1)) (h5 : Hid (classB x = 1)) (h6 : Hid (classB nx = 1)) (f : feq x x = true) (z : feq x 0 = false) (f' : Hid (fin x = true)) (s : Hid (sameB y x = true)) (l : flt 9227875636482146304 x = true) (l' : flt x 4503599627370496 = true) :
    Calls Try.prog 8 #[.float .f64 x] w fun e w' => e = .returned (.bool true) ∧ w' = w := by
  have e3 : Op.negFloat .f64 4503599627370496 = 9227875636482146304 := negFloat_eq _ (by decide)
  go_enter Try.func8, Try.ntmps8
  go_wp2_with fail
  refine (lives_any _).mono ?_
  rintro e w' ⟨rfl, rfl⟩
  go_wp2_with fail
  refine (canon_at x y _ hx h1.out).mono ?_
  rintro e w' ⟨rfl, rfl⟩
  go_wp2_with fail
  refine (canon_at y y _ hy h2.out).mono ?_
  rintro e w' ⟨rfl, rfl⟩
  go_wp2_with fail
  refine (same_at y y true _ h3.out).mono ?_
  rintro e w' ⟨rfl, rfl⟩
  go_wp2_with fail
  refine (classB_at y 1 _ hy h4.out).mono ?_
  rintro e w' ⟨rfl, rfl⟩
  go_wp2_with fail
  refine (classB_at x 1 _ hx h5.out).mono ?_
  rintro e w' ⟨rfl, rfl⟩
  go_wp2_with fail
  refine (classB_at nx 1 _ hn h6.out).mono ?_
  rintro e w' ⟨rfl, rfl⟩
  go_wp2_with fail
  refine (classB_at x 1 _ hx h5.out).mono ?_
  rintro e w' ⟨rfl, rfl⟩
  go_wp2_with fail
  refine (finite_yes x _ hx f'.out).mono ?_
  rintro e w' ⟨rfl, rfl⟩
  go_wp2_with fail
  refine (from_at 4503599627370496 4503599627370496 _ (by decide)).mono ?_
  rintro e w' ⟨rfl, rfl⟩
  go_wp2_with fail
  refine (same_at y x true _ s.out).mono ?_
  rintro e w' ⟨rfl, rfl⟩
  go_wp2_with fail
  refine (classB_at x 1 _ hx h5.out).mono ?_
  rintro e w' ⟨rfl, rfl⟩
  go_wp2_with fail
  refine (classB_at x 1 _ hx h5.out).mono ?_
  rintro e w' ⟨rfl, rfl⟩
  go_wp2
  go_ret
  exact ⟨rfl, rfl⟩

set_option maxHeartbeats 1000000 in
theorem normals (x nx y : Nat) (w : World) (hx : x < 18446744073709551616) (hn : nx < 18446744073709551616) (en : Op.negFloat .f64 x = nx) (hy : y < 18446744073709551616)
    (h1 : Hid (canonB x = y)) (h2 : Hid (canonB y = y)) (h3 : Hid (sameB y y = true)) (h4 : Hid (classB y = 2)) (h5 : Hid (classB x = 2)) (h6 : Hid (classB nx = 2)) (f : feq x x = true) (z : feq x 0 = false) (f' : Hid (fin x = true)) (s : Hid (sameB y x = true)) (l : flt 9227875636482146304 x = true) (l' : flt x 4503599627370496 = false) :
    Calls Try.prog 8 #[.float .f64 x] w fun e w' => e = .returned (.bool true) ∧ w' = w := by
  have e3 : Op.negFloat .f64 4503599627370496 = 9227875636482146304 := negFloat_eq _ (by decide)
  go_enter Try.func8, Try.ntmps8
  go_wp2_with fail
  refine (lives_any _).mono ?_
  rintro e w' ⟨rfl, rfl⟩
  go_wp2_with fail
  refine (canon_at x y _ hx h1.out).mono ?_
  rintro e w' ⟨rfl, rfl⟩
  go_wp2_with fail
  refine (canon_at y y _ hy h2.out).mono ?_
  rintro e w' ⟨rfl, rfl⟩
  go_wp2_with fail
  refine (same_at y y true _ h3.out).mono ?_
  rintro e w' ⟨rfl, rfl⟩
  go_wp2_with fail
  refine (classB_at y 2 _ hy h4.out).mono ?_
  rintro e w' ⟨rfl, rfl⟩
  go_wp2_with fail
  refine (classB_at x 2 _ hx h5.out).mono ?_
  rintro e w' ⟨rfl, rfl⟩
  go_wp2_with fail
  refine (classB_at nx 2 _ hn h6.out).mono ?_
  rintro e w' ⟨rfl, rfl⟩
  go_wp2_with fail
  refine (classB_at x 2 _ hx h5.out).mono ?_
  rintro e w' ⟨rfl, rfl⟩
  go_wp2_with fail
  refine (finite_yes x _ hx f'.out).mono ?_
  rintro e w' ⟨rfl, rfl⟩
  go_wp2_with fail
  refine (from_at 4503599627370496 4503599627370496 _ (by decide)).mono ?_
  rintro e w' ⟨rfl, rfl⟩
  go_wp2_with fail
  refine (same_at y x true _ s.out).mono ?_
  rintro e w' ⟨rfl, rfl⟩
  go_wp2_with fail
  refine (classB_at x 2 _ hx h5.out).mono ?_
  rintro e w' ⟨rfl, rfl⟩
  go_wp2_with fail
  refine (classB_at x 2 _ hx h5.out).mono ?_
  rintro e w' ⟨rfl, rfl⟩
  go_wp2
  go_ret
  exact ⟨rfl, rfl⟩

set_option maxHeartbeats 1000000 in
theorem normals2 (x nx y : Nat) (w : World) (hx : x < 18446744073709551616) (hn : nx < 18446744073709551616) (en : Op.negFloat .f64 x = nx) (hy : y < 18446744073709551616)
    (h1 : Hid (canonB x = y)) (h2 : Hid (canonB y = y)) (h3 : Hid (sameB y y = true)) (h4 : Hid (classB y = 2)) (h5 : Hid (classB x = 2)) (h6 : Hid (classB nx = 2)) (f : feq x x = true) (z : feq x 0 = false) (f' : Hid (fin x = true)) (s : Hid (sameB y x = true)) (l : flt 9227875636482146304 x = false) :
    Calls Try.prog 8 #[.float .f64 x] w fun e w' => e = .returned (.bool true) ∧ w' = w := by
  have e3 : Op.negFloat .f64 4503599627370496 = 9227875636482146304 := negFloat_eq _ (by decide)
  go_enter Try.func8, Try.ntmps8
  go_wp2_with fail
  refine (lives_any _).mono ?_
  rintro e w' ⟨rfl, rfl⟩
  go_wp2_with fail
  refine (canon_at x y _ hx h1.out).mono ?_
  rintro e w' ⟨rfl, rfl⟩
  go_wp2_with fail
  refine (canon_at y y _ hy h2.out).mono ?_
  rintro e w' ⟨rfl, rfl⟩
  go_wp2_with fail
  refine (same_at y y true _ h3.out).mono ?_
  rintro e w' ⟨rfl, rfl⟩
  go_wp2_with fail
  refine (classB_at y 2 _ hy h4.out).mono ?_
  rintro e w' ⟨rfl, rfl⟩
  go_wp2_with fail
  refine (classB_at x 2 _ hx h5.out).mono ?_
  rintro e w' ⟨rfl, rfl⟩
  go_wp2_with fail
  refine (classB_at nx 2 _ hn h6.out).mono ?_
  rintro e w' ⟨rfl, rfl⟩
  go_wp2_with fail
  refine (classB_at x 2 _ hx h5.out).mono ?_
  rintro e w' ⟨rfl, rfl⟩
  go_wp2_with fail
  refine (finite_yes x _ hx f'.out).mono ?_
  rintro e w' ⟨rfl, rfl⟩
  go_wp2_with fail
  refine (from_at 4503599627370496 4503599627370496 _ (by decide)).mono ?_
  rintro e w' ⟨rfl, rfl⟩
  go_wp2_with fail
  refine (same_at y x true _ s.out).mono ?_
  rintro e w' ⟨rfl, rfl⟩
  go_wp2_with fail
  refine (classB_at x 2 _ hx h5.out).mono ?_
  rintro e w' ⟨rfl, rfl⟩
  go_wp2_with fail
  refine (classB_at x 2 _ hx h5.out).mono ?_
  rintro e w' ⟨rfl, rfl⟩
  go_wp2
  go_ret
  exact ⟨rfl, rfl⟩

theorem walk (a0 : Nat) (w0 : (Lit.float .f64 a0).wf = true) (w : World) :
    Calls Try.prog 8 #[.float .f64 a0] w fun e w' => e = .returned (.bool true) ∧ Grown w w' := by
  have hx := lit_lt w0
  have fin0 : ∀ e w', (e = Ending.returned (.bool true) ∧ w' = w) → (e = Ending.returned (.bool true) ∧ Grown w w') := by
    rintro e w' ⟨h, rfl⟩; exact ⟨h, Grown.refl _⟩
  have fin1 : ∀ e w', (e = Ending.returned (.bool true) ∧ w' = w.drew) → (e = Ending.returned (.bool true) ∧ Grown w w') := by
    rintro e w' ⟨h, rfl⟩; exact ⟨h, (Grown.refl _).drew⟩
  have hn := negB_lt hx
  have en := negFloat_eq a0 hx
  have f := feq_self a0 hx
  have z := feq_zero a0 hx
  have cn := classB_mg (mg_negB a0)
  cases nA : isN a0
  · rw [nA] at f
    have hle := isN_false.1 nA
    by_cases m0 : mg a0 = 0
    · have c : canonB a0 = 0 := by unfold canonB; rw [nA, m0]; rfl
      have k : classB a0 = 0 := by unfold classB; rw [m0]; rfl
      exact (noughts a0 _ w hx hn en c (hid (by decide)) (hid (by decide)) (hid (by decide)) k (by rw [cn, k]; rfl) f (by rw [z, m0]; rfl)).mono fun e w' h => fin0 e w' h
    · have c : canonB a0 = a0 := by unfold canonB; rw [nA, if_neg (by simp), if_neg m0]
      have s : sameB a0 a0 = true := by unfold sameB; simp
      have z' : feq a0 0 = false := by rw [z]; exact decide_eq_false m0
      by_cases mi : mg a0 = 9218868437227405312
      · have k : classB a0 = 3 := by unfold classB; rw [mi]; rfl
        have ff : fin a0 = false := by unfold fin; exact decide_eq_false (by omega)
        exact (infs a0 _ a0 w hx hn en hx c c s k k (by rw [cn, k]; rfl) f z' ff s).mono fun e w' h => fin1 e w' h
      · have ff : fin a0 = true := by unfold fin; exact decide_eq_true (by omega)
        have l1 := flt_rk 9227875636482146304 a0 (by decide) hx
        have l2 := flt_rk a0 4503599627370496 hx (by decide)
        have n1 : isN 9227875636482146304 = false := by decide
        have n2 : isN 4503599627370496 = false := by decide
        have r1 : rk 9227875636482146304 = -4503599627370496 := by decide
        have r2 : rk 4503599627370496 = 4503599627370496 := by decide
        rw [n1, nA, r1] at l1
        rw [n2, nA, r2] at l2
        simp only [Bool.not_false, Bool.and_self, Bool.true_and] at l1 l2
        have hr : rk a0 = mg a0 ∨ rk a0 = -(mg a0 : Int) := by unfold rk; split <;> simp
        by_cases ms : mg a0 < 4503599627370496
        · have k : classB a0 = 1 := by unfold classB; rw [if_neg m0, if_pos ms]
          exact (subs a0 _ a0 w hx hn en hx c c s k k (by rw [cn, k]; rfl) f z' ff s (by rw [l1]; exact decide_eq_true (by omega)) (by rw [l2]; exact decide_eq_true (by omega))).mono fun e w' h => fin0 e w' h
        · have k : classB a0 = 2 := by unfold classB; rw [if_neg m0, if_neg ms, if_pos (by omega)]
          by_cases ll : -4503599627370496 < rk a0
          · exact (normals a0 _ a0 w hx hn en hx c c s k k (by rw [cn, k]; rfl) f z' ff s (by rw [l1]; exact decide_eq_true ll) (by rw [l2]; exact decide_eq_false (by omega))).mono fun e w' h => fin0 e w' h
          · exact (normals2 a0 _ a0 w hx hn en hx c c s k k (by rw [cn, k]; rfl) f z' ff s (by rw [l1]; exact decide_eq_false ll)).mono fun e w' h => fin0 e w' h
  · rw [nA] at f
    have hgt := isN_true.1 nA
    have c : canonB a0 = 9221120237041090561 := by unfold canonB; rw [nA]; rfl
    have k : classB a0 = 4 := by unfold classB; rw [if_neg (by omega), if_neg (by omega), if_neg (by omega), if_neg (by omega)]
    exact (nans a0 _ w hx hn en c (hid (by decide)) (hid (by decide)) (hid (by decide)) k (by rw [cn, k]; rfl) f).mono fun e w' h => fin0 e w' h

set_option maxRecDepth 100000 in
theorem lifted (os : Os) (started : os.Started) (H : Type) (enc : TypeId × Value → H) :
    ReturnsInHanded {} Try.checked os 8 .any (Rows.bitsCanonSpec.pre6 enc Try.prog Try.f8 Rows.bitsCanonRow.domain false) (Rows.bitsCanonSpec.post enc Try.prog Try.f8 false true false false) := by
  refine returnsInHanded_of_change (C := Try.checked) own started (by kernel_rfl) Try.func8
    (ChangeSpec.witness6 (enc := enc) (C := Try.checked) false ⟨#[], #[.float .f64 0], []⟩ 8 (by kernel_rfl) (by kernel_rfl) (by kernel_rfl) (by kernel_rfl)) ?_
  intro W base args ds gs before hval0 hW hcnd _
  have hval : ∀ (j : Nat) t v, Try.f8.params[j]? = some t → args[j]? = some v → Value.okWide Try.prog W .any base t v := hval0
  have hW' := hW
  obtain ⟨p, q, hA0, hV, rfl, hfz, hnd⟩ := hW
  have hA : DataW.TrodAll enc Try.prog W 0 (fun _ => true) true Try.f8.params.toList args.toList ds p := hA0
  rw [Try.params8] at hA hval
  obtain ⟨v0, vs0, d0, ds0, p0, q0, hargs, rfl, rfl, h0, r0⟩ := trodAll_cons hA
  obtain ⟨rfl, rfl, rfl⟩ := trodAll_nil r0
  obtain rfl : args = #[v0] := by cases args; simp_all
  obtain ⟨rfl, rfl⟩ := trodVars_none hV
  obtain ⟨a0, rfl, rfl, rfl, w0⟩ := open_float Try.underlying25 (hval 0 25 v0 rfl rfl) h0
  clear hA0 hval0
  simp only [List.append_nil] at hW'
  refine (walk a0 w0 W).mono fun e W' ⟨he, hg⟩ => ?_
  subst he
  exact ⟨_, rfl, post_of_same (pa := []) (pv := []) hW' (fun _ _ _ => (trodAll_cons_mk (shut_bool Try.underlying4 _) trodAll_mk0)) (fun sp _ => (trodAll_cons_mk (shut_float Try.underlying25 w0) trodAll_mk0)) (fun _ _ => rfl) rfl
    (hg.frame _) hg.2.1 (ok_one (by kernel_rfl) rfl (okWide_bool_mk Try.underlying4 _))⟩

theorem over : Rows.bitsCanonRow.holds Try.pinned (OpenSpec.ofChange Rows.bitsCanonSpec) :=
  OpenClaim.holds_of_wide 8 Try.f8 rfl rfl rfl rfl rfl rfl rfl ⟨rfl, rfl, rfl, rfl, rfl⟩ rfl rfl rfl rfl rfl (by kernel_rfl) Try.func8 (by kernel_rfl)
    (of_decide_eq_true (by kernel_rfl)) (by unfold Func.isWrapper; first | (rw [if_pos (by decide +kernel)]; kernel_rfl) | (rw [if_neg (by decide +kernel)]; exact ⟨rfl, rfl⟩))
    (fun os started H enc _ => lifted os started H enc)

end Go.Proofs.Ytedobmladjhdkaa.bitsCanonDone
namespace Go.Proofs.Ytedobmladjhdkaa
theorem bitsCanon_holds : Rows.BitsCanonSaid := bitsCanonDone.over
#print axioms bitsCanon_holds
end Go.Proofs.Ytedobmladjhdkaa
