/-
  For every float, of any bits, the call of the statement on neighbours returns true and leaves its argument as it was.
-/
import Derived.Test.YtedobmladjhdkaaRows
import Derived.Test.YtedobmladjhdkaaPm
import Derived.Test.YtedobmladjhdkaaPn
import Derived.Test.YtedobmladjhdkaaWd
import Derived.ProofKit
import Derived.OpenShut
import Derived.WalkLawsBesides
namespace Go.Proofs.Ytedobmladjhdkaa.bitsNeighboursDone
open Go.ChangeShapes Go.WideShapes Go.ChangeAt Go.RowKit

theorem own : ownKnob Try.prog.godebug = none := by kernel_rfl

open Tf
attribute [local go_sem] run_bits run_from raw_feq raw_fne raw_flt raw_fgt run_neg

/-- the four ways: a nought; minus the least; above nought; below -/
def Ways (x up down step : Nat) : Prop :=
  (feq x 0 = true ∧ Ieee.double.add x step = some up) ∨
  (feq x 0 = false ∧ feq up 0 = true ∧ fgt x 0 = false ∧ Ieee.double.sub x step = some down) ∨
  (feq x 0 = false ∧ feq up 0 = false ∧ downB up = x ∧ fgt x 0 = true ∧ Ieee.double.add x step = some up) ∨
  (feq x 0 = false ∧ feq up 0 = false ∧ downB up = x ∧ fgt x 0 = false ∧ Ieee.double.sub x step = some down)
def Mids (x up mid : Nat) : Prop :=
  (fin up = true ∧ feq mid x = true) ∨ (fin up = true ∧ feq mid x = false ∧ feq mid up = true) ∨ fin up = false

set_option maxHeartbeats 4000000 in
theorem fins (x up down s h mid step : Nat) (w : World) (hx : x < 18446744073709551616) (hu : up < 18446744073709551616) (hd : down < 18446744073709551616)
    (h1 : Hid (upB x = up)) (h2 : Hid (downB x = down)) (h3 : Hid (fin x = true)) (l1 : flt down x = true) (l2 : flt x up = true)
    (b1 : Hid (betB x up = 1)) (b2 : Hid (betOk x up = true)) (b3 : Hid (betB down x = 1)) (b4 : Hid (betOk down x = true))
    (es : Hid (Ieee.double.sub up x = some s)) (em : Hid (Ieee.double.mul s 4602678819172646912 = some h)) (ea : Hid (Ieee.double.add x h = some mid))
    (ff : Hid (Mids x up mid)) (hst : Hid (ulpB x = step)) (zz : Hid (Ways x up down step)) :
    Calls Try.prog 4 #[.float .f64 x] w fun e w' => e = .returned (.bool true) ∧ Grown w w' := by
  have hs := fun (t : TypeId) (w : World) => run_float_arith (P := Try.prog) w .sub t .f64 up x s es.out
  have hm := fun (t : TypeId) (w : World) => run_float_arith (P := Try.prog) w .mul t .f64 s 4602678819172646912 h em.out
  have ha := fun (t : TypeId) (w : World) => run_float_arith (P := Try.prog) w .add t .f64 x h mid ea.out
  have SU : Hid (sameB up up = true) := hid (by unfold sameB; simp)
  have SD : Hid (sameB down down = true) := hid (by unfold sameB; simp)
  have SX : Hid (sameB x x = true) := hid (by unfold sameB; simp)
  rcases ff.out with ⟨f1, f2⟩ | ⟨f1, f2, f3⟩ | f1
  · have F1 := hid f1
    clear f1 ff
    rcases zz.out with ⟨z1, e⟩ | ⟨z1, z2, z3, e⟩ | ⟨z1, z2, d0, z3, e⟩ | ⟨z1, z2, d0, z3, e⟩
    · have he := fun (t : TypeId) (w : World) => run_float_arith (P := Try.prog) w .add t .f64 x step up e
      clear zz e
      go_enter Try.func4, Try.ntmps4
      go_wp2_with fail
      refine (lives_any _).mono ?_
      rintro e w' ⟨rfl, rfl⟩
      go_wp2_with fail
      refine (up_at x up _ hx h1.out).mono ?_
      rintro e w' ⟨rfl, rfl⟩
      go_wp2_with fail
      refine (down_at x down _ hx h2.out).mono ?_
      rintro e w' ⟨rfl, rfl⟩
      go_wp2_with fail
      refine (finite_yes x _ hx h3.out).mono ?_
      rintro e w' ⟨rfl, rfl⟩
      go_wp2_with fail
      refine (between_at x up 1 true _ hx hu b1.out b2.out).mono ?_
      rintro e w' ⟨rfl, rfl⟩
      go_wp2_with fail
      refine (between_at down x 1 true _ hd hx b3.out b4.out).mono ?_
      rintro e w' ⟨rfl, rfl⟩
      go_wp2_with fail
      refine (finite_yes up _ hu F1.out).mono ?_
      rintro e w' ⟨rfl, rfl⟩
      go_wp2_with fail
      refine (ulp_at x step _ hx hst.out).mono ?_
      rintro e w' ⟨rfl, rfl⟩
      go_wp2_with fail
      refine (same_at up up true _ SU.out).mono ?_
      rintro e w' ⟨rfl, rfl⟩
      go_wp2
      go_ret
      exact ⟨rfl, by first | exact Grown.refl _ | exact (Grown.refl _).drew⟩
    · have he := fun (t : TypeId) (w : World) => run_float_arith (P := Try.prog) w .sub t .f64 x step down e
      clear zz e
      go_enter Try.func4, Try.ntmps4
      go_wp2_with fail
      refine (lives_any _).mono ?_
      rintro e w' ⟨rfl, rfl⟩
      go_wp2_with fail
      refine (up_at x up _ hx h1.out).mono ?_
      rintro e w' ⟨rfl, rfl⟩
      go_wp2_with fail
      refine (down_at x down _ hx h2.out).mono ?_
      rintro e w' ⟨rfl, rfl⟩
      go_wp2_with fail
      refine (finite_yes x _ hx h3.out).mono ?_
      rintro e w' ⟨rfl, rfl⟩
      go_wp2_with fail
      refine (between_at x up 1 true _ hx hu b1.out b2.out).mono ?_
      rintro e w' ⟨rfl, rfl⟩
      go_wp2_with fail
      refine (between_at down x 1 true _ hd hx b3.out b4.out).mono ?_
      rintro e w' ⟨rfl, rfl⟩
      go_wp2_with fail
      refine (finite_yes up _ hu F1.out).mono ?_
      rintro e w' ⟨rfl, rfl⟩
      go_wp2_with fail
      refine (ulp_at x step _ hx hst.out).mono ?_
      rintro e w' ⟨rfl, rfl⟩
      go_wp2_with fail
      refine (same_at down down true _ SD.out).mono ?_
      rintro e w' ⟨rfl, rfl⟩
      go_wp2
      go_ret
      exact ⟨rfl, by first | exact Grown.refl _ | exact (Grown.refl _).drew⟩
    · have he := fun (t : TypeId) (w : World) => run_float_arith (P := Try.prog) w .add t .f64 x step up e
      have d := hid d0
      clear zz e d0
      go_enter Try.func4, Try.ntmps4
      go_wp2_with fail
      refine (lives_any _).mono ?_
      rintro e w' ⟨rfl, rfl⟩
      go_wp2_with fail
      refine (up_at x up _ hx h1.out).mono ?_
      rintro e w' ⟨rfl, rfl⟩
      go_wp2_with fail
      refine (down_at x down _ hx h2.out).mono ?_
      rintro e w' ⟨rfl, rfl⟩
      go_wp2_with fail
      refine (finite_yes x _ hx h3.out).mono ?_
      rintro e w' ⟨rfl, rfl⟩
      go_wp2_with fail
      refine (between_at x up 1 true _ hx hu b1.out b2.out).mono ?_
      rintro e w' ⟨rfl, rfl⟩
      go_wp2_with fail
      refine (between_at down x 1 true _ hd hx b3.out b4.out).mono ?_
      rintro e w' ⟨rfl, rfl⟩
      go_wp2_with fail
      refine (down_at up x _ hu d.out).mono ?_
      rintro e w' ⟨rfl, rfl⟩
      go_wp2_with fail
      refine (same_at x x true _ SX.out).mono ?_
      rintro e w' ⟨rfl, rfl⟩
      go_wp2_with fail
      refine (finite_yes up _ hu F1.out).mono ?_
      rintro e w' ⟨rfl, rfl⟩
      go_wp2_with fail
      refine (ulp_at x step _ hx hst.out).mono ?_
      rintro e w' ⟨rfl, rfl⟩
      go_wp2_with fail
      refine (same_at up up true _ SU.out).mono ?_
      rintro e w' ⟨rfl, rfl⟩
      go_wp2
      go_ret
      exact ⟨rfl, by first | exact Grown.refl _ | exact (Grown.refl _).drew⟩
    · have he := fun (t : TypeId) (w : World) => run_float_arith (P := Try.prog) w .sub t .f64 x step down e
      have d := hid d0
      clear zz e d0
      go_enter Try.func4, Try.ntmps4
      go_wp2_with fail
      refine (lives_any _).mono ?_
      rintro e w' ⟨rfl, rfl⟩
      go_wp2_with fail
      refine (up_at x up _ hx h1.out).mono ?_
      rintro e w' ⟨rfl, rfl⟩
      go_wp2_with fail
      refine (down_at x down _ hx h2.out).mono ?_
      rintro e w' ⟨rfl, rfl⟩
      go_wp2_with fail
      refine (finite_yes x _ hx h3.out).mono ?_
      rintro e w' ⟨rfl, rfl⟩
      go_wp2_with fail
      refine (between_at x up 1 true _ hx hu b1.out b2.out).mono ?_
      rintro e w' ⟨rfl, rfl⟩
      go_wp2_with fail
      refine (between_at down x 1 true _ hd hx b3.out b4.out).mono ?_
      rintro e w' ⟨rfl, rfl⟩
      go_wp2_with fail
      refine (down_at up x _ hu d.out).mono ?_
      rintro e w' ⟨rfl, rfl⟩
      go_wp2_with fail
      refine (same_at x x true _ SX.out).mono ?_
      rintro e w' ⟨rfl, rfl⟩
      go_wp2_with fail
      refine (finite_yes up _ hu F1.out).mono ?_
      rintro e w' ⟨rfl, rfl⟩
      go_wp2_with fail
      refine (ulp_at x step _ hx hst.out).mono ?_
      rintro e w' ⟨rfl, rfl⟩
      go_wp2_with fail
      refine (same_at down down true _ SD.out).mono ?_
      rintro e w' ⟨rfl, rfl⟩
      go_wp2
      go_ret
      exact ⟨rfl, by first | exact Grown.refl _ | exact (Grown.refl _).drew⟩
  · have F1 := hid f1
    clear f1 ff
    rcases zz.out with ⟨z1, e⟩ | ⟨z1, z2, z3, e⟩ | ⟨z1, z2, d0, z3, e⟩ | ⟨z1, z2, d0, z3, e⟩
    · have he := fun (t : TypeId) (w : World) => run_float_arith (P := Try.prog) w .add t .f64 x step up e
      clear zz e
      go_enter Try.func4, Try.ntmps4
      go_wp2_with fail
      refine (lives_any _).mono ?_
      rintro e w' ⟨rfl, rfl⟩
      go_wp2_with fail
      refine (up_at x up _ hx h1.out).mono ?_
      rintro e w' ⟨rfl, rfl⟩
      go_wp2_with fail
      refine (down_at x down _ hx h2.out).mono ?_
      rintro e w' ⟨rfl, rfl⟩
      go_wp2_with fail
      refine (finite_yes x _ hx h3.out).mono ?_
      rintro e w' ⟨rfl, rfl⟩
      go_wp2_with fail
      refine (between_at x up 1 true _ hx hu b1.out b2.out).mono ?_
      rintro e w' ⟨rfl, rfl⟩
      go_wp2_with fail
      refine (between_at down x 1 true _ hd hx b3.out b4.out).mono ?_
      rintro e w' ⟨rfl, rfl⟩
      go_wp2_with fail
      refine (finite_yes up _ hu F1.out).mono ?_
      rintro e w' ⟨rfl, rfl⟩
      go_wp2_with fail
      refine (ulp_at x step _ hx hst.out).mono ?_
      rintro e w' ⟨rfl, rfl⟩
      go_wp2_with fail
      refine (same_at up up true _ SU.out).mono ?_
      rintro e w' ⟨rfl, rfl⟩
      go_wp2
      go_ret
      exact ⟨rfl, by first | exact Grown.refl _ | exact (Grown.refl _).drew⟩
    · have he := fun (t : TypeId) (w : World) => run_float_arith (P := Try.prog) w .sub t .f64 x step down e
      clear zz e
      go_enter Try.func4, Try.ntmps4
      go_wp2_with fail
      refine (lives_any _).mono ?_
      rintro e w' ⟨rfl, rfl⟩
      go_wp2_with fail
      refine (up_at x up _ hx h1.out).mono ?_
      rintro e w' ⟨rfl, rfl⟩
      go_wp2_with fail
      refine (down_at x down _ hx h2.out).mono ?_
      rintro e w' ⟨rfl, rfl⟩
      go_wp2_with fail
      refine (finite_yes x _ hx h3.out).mono ?_
      rintro e w' ⟨rfl, rfl⟩
      go_wp2_with fail
      refine (between_at x up 1 true _ hx hu b1.out b2.out).mono ?_
      rintro e w' ⟨rfl, rfl⟩
      go_wp2_with fail
      refine (between_at down x 1 true _ hd hx b3.out b4.out).mono ?_
      rintro e w' ⟨rfl, rfl⟩
      go_wp2_with fail
      refine (finite_yes up _ hu F1.out).mono ?_
      rintro e w' ⟨rfl, rfl⟩
      go_wp2_with fail
      refine (ulp_at x step _ hx hst.out).mono ?_
      rintro e w' ⟨rfl, rfl⟩
      go_wp2_with fail
      refine (same_at down down true _ SD.out).mono ?_
      rintro e w' ⟨rfl, rfl⟩
      go_wp2
      go_ret
      exact ⟨rfl, by first | exact Grown.refl _ | exact (Grown.refl _).drew⟩
    · have he := fun (t : TypeId) (w : World) => run_float_arith (P := Try.prog) w .add t .f64 x step up e
      have d := hid d0
      clear zz e d0
      go_enter Try.func4, Try.ntmps4
      go_wp2_with fail
      refine (lives_any _).mono ?_
      rintro e w' ⟨rfl, rfl⟩
      go_wp2_with fail
      refine (up_at x up _ hx h1.out).mono ?_
      rintro e w' ⟨rfl, rfl⟩
      go_wp2_with fail
      refine (down_at x down _ hx h2.out).mono ?_
      rintro e w' ⟨rfl, rfl⟩
      go_wp2_with fail
      refine (finite_yes x _ hx h3.out).mono ?_
      rintro e w' ⟨rfl, rfl⟩
      go_wp2_with fail
      refine (between_at x up 1 true _ hx hu b1.out b2.out).mono ?_
      rintro e w' ⟨rfl, rfl⟩
      go_wp2_with fail
      refine (between_at down x 1 true _ hd hx b3.out b4.out).mono ?_
      rintro e w' ⟨rfl, rfl⟩
      go_wp2_with fail
      refine (down_at up x _ hu d.out).mono ?_
      rintro e w' ⟨rfl, rfl⟩
      go_wp2_with fail
      refine (same_at x x true _ SX.out).mono ?_
      rintro e w' ⟨rfl, rfl⟩
      go_wp2_with fail
      refine (finite_yes up _ hu F1.out).mono ?_
      rintro e w' ⟨rfl, rfl⟩
      go_wp2_with fail
      refine (ulp_at x step _ hx hst.out).mono ?_
      rintro e w' ⟨rfl, rfl⟩
      go_wp2_with fail
      refine (same_at up up true _ SU.out).mono ?_
      rintro e w' ⟨rfl, rfl⟩
      go_wp2
      go_ret
      exact ⟨rfl, by first | exact Grown.refl _ | exact (Grown.refl _).drew⟩
    · have he := fun (t : TypeId) (w : World) => run_float_arith (P := Try.prog) w .sub t .f64 x step down e
      have d := hid d0
      clear zz e d0
      go_enter Try.func4, Try.ntmps4
      go_wp2_with fail
      refine (lives_any _).mono ?_
      rintro e w' ⟨rfl, rfl⟩
      go_wp2_with fail
      refine (up_at x up _ hx h1.out).mono ?_
      rintro e w' ⟨rfl, rfl⟩
      go_wp2_with fail
      refine (down_at x down _ hx h2.out).mono ?_
      rintro e w' ⟨rfl, rfl⟩
      go_wp2_with fail
      refine (finite_yes x _ hx h3.out).mono ?_
      rintro e w' ⟨rfl, rfl⟩
      go_wp2_with fail
      refine (between_at x up 1 true _ hx hu b1.out b2.out).mono ?_
      rintro e w' ⟨rfl, rfl⟩
      go_wp2_with fail
      refine (between_at down x 1 true _ hd hx b3.out b4.out).mono ?_
      rintro e w' ⟨rfl, rfl⟩
      go_wp2_with fail
      refine (down_at up x _ hu d.out).mono ?_
      rintro e w' ⟨rfl, rfl⟩
      go_wp2_with fail
      refine (same_at x x true _ SX.out).mono ?_
      rintro e w' ⟨rfl, rfl⟩
      go_wp2_with fail
      refine (finite_yes up _ hu F1.out).mono ?_
      rintro e w' ⟨rfl, rfl⟩
      go_wp2_with fail
      refine (ulp_at x step _ hx hst.out).mono ?_
      rintro e w' ⟨rfl, rfl⟩
      go_wp2_with fail
      refine (same_at down down true _ SD.out).mono ?_
      rintro e w' ⟨rfl, rfl⟩
      go_wp2
      go_ret
      exact ⟨rfl, by first | exact Grown.refl _ | exact (Grown.refl _).drew⟩
  · have F1 := hid f1
    clear f1 ff
    rcases zz.out with ⟨z1, e⟩ | ⟨z1, z2, z3, e⟩ | ⟨z1, z2, d0, z3, e⟩ | ⟨z1, z2, d0, z3, e⟩
    · have he := fun (t : TypeId) (w : World) => run_float_arith (P := Try.prog) w .add t .f64 x step up e
      clear zz e
      go_enter Try.func4, Try.ntmps4
      go_wp2_with fail
      refine (lives_any _).mono ?_
      rintro e w' ⟨rfl, rfl⟩
      go_wp2_with fail
      refine (up_at x up _ hx h1.out).mono ?_
      rintro e w' ⟨rfl, rfl⟩
      go_wp2_with fail
      refine (down_at x down _ hx h2.out).mono ?_
      rintro e w' ⟨rfl, rfl⟩
      go_wp2_with fail
      refine (finite_yes x _ hx h3.out).mono ?_
      rintro e w' ⟨rfl, rfl⟩
      go_wp2_with fail
      refine (between_at x up 1 true _ hx hu b1.out b2.out).mono ?_
      rintro e w' ⟨rfl, rfl⟩
      go_wp2_with fail
      refine (between_at down x 1 true _ hd hx b3.out b4.out).mono ?_
      rintro e w' ⟨rfl, rfl⟩
      go_wp2_with fail
      refine (finite_no up _ hu F1.out).mono ?_
      rintro e w' ⟨rfl, rfl⟩
      go_wp2_with fail
      refine (ulp_at x step _ hx hst.out).mono ?_
      rintro e w' ⟨rfl, rfl⟩
      go_wp2_with fail
      refine (same_at up up true _ SU.out).mono ?_
      rintro e w' ⟨rfl, rfl⟩
      go_wp2
      go_ret
      exact ⟨rfl, by first | exact Grown.refl _ | exact (Grown.refl _).drew⟩
    · have he := fun (t : TypeId) (w : World) => run_float_arith (P := Try.prog) w .sub t .f64 x step down e
      clear zz e
      go_enter Try.func4, Try.ntmps4
      go_wp2_with fail
      refine (lives_any _).mono ?_
      rintro e w' ⟨rfl, rfl⟩
      go_wp2_with fail
      refine (up_at x up _ hx h1.out).mono ?_
      rintro e w' ⟨rfl, rfl⟩
      go_wp2_with fail
      refine (down_at x down _ hx h2.out).mono ?_
      rintro e w' ⟨rfl, rfl⟩
      go_wp2_with fail
      refine (finite_yes x _ hx h3.out).mono ?_
      rintro e w' ⟨rfl, rfl⟩
      go_wp2_with fail
      refine (between_at x up 1 true _ hx hu b1.out b2.out).mono ?_
      rintro e w' ⟨rfl, rfl⟩
      go_wp2_with fail
      refine (between_at down x 1 true _ hd hx b3.out b4.out).mono ?_
      rintro e w' ⟨rfl, rfl⟩
      go_wp2_with fail
      refine (finite_no up _ hu F1.out).mono ?_
      rintro e w' ⟨rfl, rfl⟩
      go_wp2_with fail
      refine (ulp_at x step _ hx hst.out).mono ?_
      rintro e w' ⟨rfl, rfl⟩
      go_wp2_with fail
      refine (same_at down down true _ SD.out).mono ?_
      rintro e w' ⟨rfl, rfl⟩
      go_wp2
      go_ret
      exact ⟨rfl, by first | exact Grown.refl _ | exact (Grown.refl _).drew⟩
    · have he := fun (t : TypeId) (w : World) => run_float_arith (P := Try.prog) w .add t .f64 x step up e
      have d := hid d0
      clear zz e d0
      go_enter Try.func4, Try.ntmps4
      go_wp2_with fail
      refine (lives_any _).mono ?_
      rintro e w' ⟨rfl, rfl⟩
      go_wp2_with fail
      refine (up_at x up _ hx h1.out).mono ?_
      rintro e w' ⟨rfl, rfl⟩
      go_wp2_with fail
      refine (down_at x down _ hx h2.out).mono ?_
      rintro e w' ⟨rfl, rfl⟩
      go_wp2_with fail
      refine (finite_yes x _ hx h3.out).mono ?_
      rintro e w' ⟨rfl, rfl⟩
      go_wp2_with fail
      refine (between_at x up 1 true _ hx hu b1.out b2.out).mono ?_
      rintro e w' ⟨rfl, rfl⟩
      go_wp2_with fail
      refine (between_at down x 1 true _ hd hx b3.out b4.out).mono ?_
      rintro e w' ⟨rfl, rfl⟩
      go_wp2_with fail
      refine (down_at up x _ hu d.out).mono ?_
      rintro e w' ⟨rfl, rfl⟩
      go_wp2_with fail
      refine (same_at x x true _ SX.out).mono ?_
      rintro e w' ⟨rfl, rfl⟩
      go_wp2_with fail
      refine (finite_no up _ hu F1.out).mono ?_
      rintro e w' ⟨rfl, rfl⟩
      go_wp2_with fail
      refine (ulp_at x step _ hx hst.out).mono ?_
      rintro e w' ⟨rfl, rfl⟩
      go_wp2_with fail
      refine (same_at up up true _ SU.out).mono ?_
      rintro e w' ⟨rfl, rfl⟩
      go_wp2
      go_ret
      exact ⟨rfl, by first | exact Grown.refl _ | exact (Grown.refl _).drew⟩
    · have he := fun (t : TypeId) (w : World) => run_float_arith (P := Try.prog) w .sub t .f64 x step down e
      have d := hid d0
      clear zz e d0
      go_enter Try.func4, Try.ntmps4
      go_wp2_with fail
      refine (lives_any _).mono ?_
      rintro e w' ⟨rfl, rfl⟩
      go_wp2_with fail
      refine (up_at x up _ hx h1.out).mono ?_
      rintro e w' ⟨rfl, rfl⟩
      go_wp2_with fail
      refine (down_at x down _ hx h2.out).mono ?_
      rintro e w' ⟨rfl, rfl⟩
      go_wp2_with fail
      refine (finite_yes x _ hx h3.out).mono ?_
      rintro e w' ⟨rfl, rfl⟩
      go_wp2_with fail
      refine (between_at x up 1 true _ hx hu b1.out b2.out).mono ?_
      rintro e w' ⟨rfl, rfl⟩
      go_wp2_with fail
      refine (between_at down x 1 true _ hd hx b3.out b4.out).mono ?_
      rintro e w' ⟨rfl, rfl⟩
      go_wp2_with fail
      refine (down_at up x _ hu d.out).mono ?_
      rintro e w' ⟨rfl, rfl⟩
      go_wp2_with fail
      refine (same_at x x true _ SX.out).mono ?_
      rintro e w' ⟨rfl, rfl⟩
      go_wp2_with fail
      refine (finite_no up _ hu F1.out).mono ?_
      rintro e w' ⟨rfl, rfl⟩
      go_wp2_with fail
      refine (ulp_at x step _ hx hst.out).mono ?_
      rintro e w' ⟨rfl, rfl⟩
      go_wp2_with fail
      refine (same_at down down true _ SD.out).mono ?_
      rintro e w' ⟨rfl, rfl⟩
      go_wp2
      go_ret
      exact ⟨rfl, by first | exact Grown.refl _ | exact (Grown.refl _).drew⟩

set_option maxHeartbeats 1000000 in
theorem nans (x : Nat) (w : World) (hx : x < 18446744073709551616) (f : feq x x = false) (h1 : Hid (upB x = 9221120237041090561)) (h2 : Hid (downB x = 9221120237041090561)) (h3 : Hid (fin x = false)) :
    Calls Try.prog 4 #[.float .f64 x] w fun e w' => e = .returned (.bool true) ∧ Grown w w' := by
  have q : feq 9221120237041090561 9221120237041090561 = false := by decide
  go_enter Try.func4, Try.ntmps4
  go_wp2_with fail
  refine (lives_any _).mono ?_
  rintro e w' ⟨rfl, rfl⟩
  go_wp2_with fail
  refine (up_at x 9221120237041090561 _ hx h1.out).mono ?_
  rintro e w' ⟨rfl, rfl⟩
  go_wp2_with fail
  refine (down_at x 9221120237041090561 _ hx h2.out).mono ?_
  rintro e w' ⟨rfl, rfl⟩
  go_wp2_with fail
  refine (finite_no x _ hx h3.out).mono ?_
  rintro e w' ⟨rfl, rfl⟩
  go_wp2
  go_ret
  exact ⟨rfl, by first | exact Grown.refl _ | exact (Grown.refl _).drew⟩

set_option maxHeartbeats 1000000 in
theorem pinf (w : World) :
    Calls Try.prog 4 #[.float .f64 9218868437227405312] w fun e w' => e = .returned (.bool true) ∧ Grown w w' := by
  have q : feq 9218868437227405312 9218868437227405312 = true := by decide
  have g : fgt 9218868437227405312 0 = true := by decide
  go_enter Try.func4, Try.ntmps4
  go_wp2_with fail
  refine (lives_any _).mono ?_
  rintro e w' ⟨rfl, rfl⟩
  go_wp2_with fail
  refine (up_at 9218868437227405312 9218868437227405312 _ (by decide) (by decide)).mono ?_
  rintro e w' ⟨rfl, rfl⟩
  go_wp2_with fail
  refine (down_at 9218868437227405312 9218868437227405311 _ (by decide) (by decide)).mono ?_
  rintro e w' ⟨rfl, rfl⟩
  go_wp2_with fail
  refine (finite_no 9218868437227405312 _ (by decide) (by decide)).mono ?_
  rintro e w' ⟨rfl, rfl⟩
  go_wp2_with fail
  refine (same_at 9218868437227405312 9218868437227405312 true _ (by decide)).mono ?_
  rintro e w' ⟨rfl, rfl⟩
  go_wp2_with fail
  refine (finite_yes 9218868437227405311 _ (by decide) (by decide)).mono ?_
  rintro e w' ⟨rfl, rfl⟩
  go_wp2_with fail
  refine (up_at 9218868437227405311 9218868437227405312 _ (by decide) (by decide)).mono ?_
  rintro e w' ⟨rfl, rfl⟩
  go_wp2_with fail
  refine (classB_at 9218868437227405312 3 _ (by decide) (by decide)).mono ?_
  rintro e w' ⟨rfl, rfl⟩
  go_wp2
  go_ret
  exact ⟨by simp, by first | exact Grown.refl _ | exact (Grown.refl _).drew⟩

set_option maxHeartbeats 1000000 in
theorem ninf (w : World) :
    Calls Try.prog 4 #[.float .f64 18442240474082181120] w fun e w' => e = .returned (.bool true) ∧ Grown w w' := by
  have q : feq 18442240474082181120 18442240474082181120 = true := by decide
  have g : fgt 18442240474082181120 0 = false := by decide
  have l : flt 18442240474082181120 0 = true := by decide
  go_enter Try.func4, Try.ntmps4
  go_wp2_with fail
  refine (lives_any _).mono ?_
  rintro e w' ⟨rfl, rfl⟩
  go_wp2_with fail
  refine (up_at 18442240474082181120 18442240474082181119 _ (by decide) (by decide)).mono ?_
  rintro e w' ⟨rfl, rfl⟩
  go_wp2_with fail
  refine (down_at 18442240474082181120 18442240474082181120 _ (by decide) (by decide)).mono ?_
  rintro e w' ⟨rfl, rfl⟩
  go_wp2_with fail
  refine (finite_no 18442240474082181120 _ (by decide) (by decide)).mono ?_
  rintro e w' ⟨rfl, rfl⟩
  go_wp2_with fail
  refine (same_at 18442240474082181120 18442240474082181120 true _ (by decide)).mono ?_
  rintro e w' ⟨rfl, rfl⟩
  go_wp2_with fail
  refine (finite_yes 18442240474082181119 _ (by decide) (by decide)).mono ?_
  rintro e w' ⟨rfl, rfl⟩
  go_wp2_with fail
  refine (down_at 18442240474082181119 18442240474082181120 _ (by decide) (by decide)).mono ?_
  rintro e w' ⟨rfl, rfl⟩
  go_wp2_with fail
  refine (classB_at 18442240474082181120 3 _ (by decide) (by decide)).mono ?_
  rintro e w' ⟨rfl, rfl⟩
  go_wp2
  go_ret
  exact ⟨by simp, by first | exact Grown.refl _ | exact (Grown.refl _).drew⟩
theorem walk (a0 : Nat) (w0 : (Lit.float .f64 a0).wf = true) (w : World) :
    Calls Try.prog 4 #[.float .f64 a0] w fun e w' => e = .returned (.bool true) ∧ Grown w w' := by
  have hx := lit_lt w0
  have f := feq_self a0 hx
  have hw := word_eq a0 hx
  cases nA : isN a0
  · rw [nA] at f
    have hle := isN_false.1 nA
    by_cases mi : mg a0 = 9218868437227405312
    · cases hn : ng a0
      · rw [hn, mi] at hw; simp only [Bool.false_eq_true, if_false] at hw
        rw [hw]; exact pinf w
      · rw [hn, mi] at hw; simp only [if_true] at hw
        rw [hw]; exact ninf w
    · have hf : mg a0 < 9218868437227405312 := by omega
      have ff : fin a0 = true := fin_iff.2 hf
      have hu := upB_lt hx
      have hd := downB_lt hx
      have i1 : ¬ a0 = 9218868437227405312 := by intro e; rw [e] at hf; simp [mg] at hf
      have i2 : ¬ a0 = 18442240474082181120 := by intro e; rw [e] at hf; simp [mg] at hf
      have ru := rk_up a0 hx nA i1
      have rd := rk_down a0 hx nA i2
      have bu := isN_false.1 ru.1
      have l1 : flt (downB a0) a0 = true := by rw [flt_rk _ _ hd hx, rd.1, nA]; simp; omega
      have l2 : flt a0 (upB a0) = true := by rw [flt_rk _ _ hx hu, ru.1, nA]; simp; omega
      have b1 := bet_yes a0 (upB a0) nA ru.1 (by omega) (by omega)
      have b2 := bet_yes (downB a0) a0 rd.1 nA (by omega) (by omega)
      have z := feq_zero a0 hx
      have z2 := feq_zero (upB a0) hu
      have g := fgt_rk a0 0 hx (by decide)
      have n0 : isN 0 = false := by decide
      have r0 : rk 0 = 0 := by decide
      rw [nA, n0, r0] at g
      simp only [Bool.not_false, Bool.and_self, Bool.true_and] at g
      have rz : ∀ y, mg y = 0 ↔ rk y = 0 := by intro y; unfold rk; split <;> omega
      have ways : Ways a0 (upB a0) (downB a0) (ulpB a0) := by
        unfold Ways
        by_cases c0 : rk a0 = 0
        · left; exact ⟨by rw [z]; exact decide_eq_true ((rz a0).2 c0), step_up a0 hx hf (by omega)⟩
        · have e0 : feq a0 0 = false := by rw [z]; exact decide_eq_false (fun h => c0 ((rz a0).1 h))
          by_cases c1 : rk (upB a0) = 0
          · right; left
            exact ⟨e0, by rw [z2]; exact decide_eq_true ((rz _).2 c1), by rw [g]; exact decide_eq_false (by omega), step_down a0 hx hf (by omega)⟩
          · have e1 : feq (upB a0) 0 = false := by rw [z2]; exact decide_eq_false (fun h => c1 ((rz _).1 h))
            have i3 : ¬ upB a0 = 18442240474082181120 := by
              intro e
              have h := ru.2
              rw [e] at h
              have e2 : rk 18442240474082181120 = -9218868437227405312 := by decide
              rw [e2] at h
              unfold rk at h
              split at h <;> omega
            have rd2 := rk_down (upB a0) hu ru.1 i3
            have dd : downB (upB a0) = a0 := word_rk _ _ (downB_lt hu) hx (by omega) (by omega)
            by_cases c2 : 0 < rk a0
            · right; right; left
              exact ⟨e0, e1, dd, by rw [g]; exact decide_eq_true c2, step_up a0 hx hf (by omega)⟩
            · right; right; right
              exact ⟨e0, e1, dd, by rw [g]; exact decide_eq_false c2, step_down a0 hx hf (by omega)⟩
      by_cases top : a0 = 9218868437227405311
      · have es : Ieee.double.sub (upB a0) a0 = some 9218868437227405312 := by rw [top]; decide
        have em : Ieee.double.mul 9218868437227405312 4602678819172646912 = some 9218868437227405312 := by decide
        have ea : Ieee.double.add a0 9218868437227405312 = some 9218868437227405312 := by rw [top]; decide
        have fu : fin (upB a0) = false := by rw [top]; decide
        exact fins a0 _ _ _ _ _ _ w hx hu hd rfl rfl ff l1 l2 (b1.2.trans (by omega)) b1.1 (b2.2.trans (by omega)) b2.1 es em ea (.inr (.inr fu)) rfl ways
      · obtain ⟨s, h, mid, es, em, ea, lm, nm, r1, r2⟩ := mid_fact a0 hx hf top
        have fu : fin (upB a0) = true := by
          rw [fin_iff]
          have h := ru.2
          unfold rk at h
          split at h <;> split at h <;> first | omega | skip
          rename_i c1 c2
          have e1 := lt_of_ng (by simpa using c2)
          rw [mg_of_lt e1] at h hf
          omega
        have mids : Mids a0 (upB a0) mid := by
          unfold Mids
          have q1 := feq_rk mid a0 lm hx
          have q2 := feq_rk mid (upB a0) lm hu
          rw [nm, nA] at q1
          rw [nm, ru.1] at q2
          simp only [Bool.not_false, Bool.and_self, Bool.true_and] at q1 q2
          by_cases c : rk mid = rk a0
          · left; exact ⟨fu, by rw [q1]; exact decide_eq_true c⟩
          · right; left; exact ⟨fu, by rw [q1]; exact decide_eq_false c, by rw [q2]; exact decide_eq_true (by omega)⟩
        exact fins a0 _ _ _ _ _ _ w hx hu hd rfl rfl ff l1 l2 (b1.2.trans (by omega)) b1.1 (b2.2.trans (by omega)) b2.1 es em ea mids rfl ways
  · rw [nA] at f
    have hgt := isN_true.1 nA
    exact nans a0 w hx f (by unfold upB; rw [nA]; rfl) (by unfold downB; rw [nA]; rfl) (by unfold fin; exact decide_eq_false (by omega))

set_option maxRecDepth 100000 in
theorem lifted (os : Os) (started : os.Started) (H : Type) (enc : TypeId × Value → H) :
    ReturnsInHanded {} Try.checked os 4 .any (Rows.bitsNeighboursSpec.pre6 enc Try.prog Try.f4 Rows.bitsNeighboursRow.domain false) (Rows.bitsNeighboursSpec.post enc Try.prog Try.f4 false true false false) := by
  refine returnsInHanded_of_change (C := Try.checked) own started (by kernel_rfl) Try.func4
    (ChangeSpec.witness6 (enc := enc) (C := Try.checked) false ⟨#[], #[.float .f64 0], []⟩ 8 (by kernel_rfl) (by kernel_rfl) (by kernel_rfl) (by kernel_rfl)) ?_
  intro W base args ds gs before hval0 hW hcnd _
  have hval : ∀ (j : Nat) t v, Try.f4.params[j]? = some t → args[j]? = some v → Value.okWide Try.prog W .any base t v := hval0
  have hW' := hW
  obtain ⟨p, q, hA0, hV, rfl, hfz, hnd⟩ := hW
  have hA : DataW.TrodAll enc Try.prog W 0 (fun _ => true) true Try.f4.params.toList args.toList ds p := hA0
  rw [Try.params4] at hA hval
  obtain ⟨v0, vs0, d0, ds0, p0, q0, hargs, rfl, rfl, h0, r0⟩ := trodAll_cons hA
  obtain ⟨rfl, rfl, rfl⟩ := trodAll_nil r0
  obtain rfl : args = #[v0] := by cases args; simp_all
  obtain ⟨rfl, rfl⟩ := trodVars_none hV
  obtain ⟨a0, rfl, rfl, rfl, w0⟩ := open_float Try.underlying25 (hval 0 25 v0 rfl rfl) h0
  clear hA0 hval0
  simp only [List.append_nil] at hW'
  refine (walk a0 w0 W).mono fun e W' ⟨he, hg⟩ => ?_
  subst he
  exact ⟨_, rfl, post_of_same (pa := []) (pv := []) hW' (fun _ _ _ => (trodAll_cons_mk (shut_bool Try.underlying4 _) trodAll_mk0)) (fun sp _ => (trodAll_cons_mk (shut_float Try.underlying25 w0) trodAll_mk0)) (fun _ _ => rfl) rfl
    (hg.frame _) hg.2.1 (ok_one (by kernel_rfl) rfl (okWide_bool_mk Try.underlying4 _))⟩

theorem over : Rows.bitsNeighboursRow.holds Try.pinned (OpenSpec.ofChange Rows.bitsNeighboursSpec) :=
  OpenClaim.holds_of_wide 4 Try.f4 rfl rfl rfl rfl rfl rfl rfl ⟨rfl, rfl, rfl, rfl, rfl⟩ rfl rfl rfl rfl rfl (by kernel_rfl) Try.func4 (by kernel_rfl)
    (of_decide_eq_true (by kernel_rfl)) (by unfold Func.isWrapper; first | (rw [if_pos (by decide +kernel)]; kernel_rfl) | (rw [if_neg (by decide +kernel)]; exact ⟨rfl, rfl⟩))
    (fun os started H enc _ => lifted os started H enc)

end Go.Proofs.Ytedobmladjhdkaa.bitsNeighboursDone
namespace Go.Proofs.Ytedobmladjhdkaa
theorem bitsNeighbours_holds : Rows.BitsNeighboursSaid := bitsNeighboursDone.over
#print axioms bitsNeighbours_holds
end Go.Proofs.Ytedobmladjhdkaa
