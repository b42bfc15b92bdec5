/-
  That the statements' own test of life answers true: a walk over the program.
-/
import Derived.Test.YtpncpbpdbdlamaaWj
namespace Go.Proofs.Ytpncpbpdbdlamaa
open Go.RowKit Tf
attribute [local go_sem] run_bits run_from raw_feq raw_fne raw_flt raw_fgt run_neg

theorem fromInt_at (n : Int) (r : Nat) (w : World) (hr : rn false (n * one) = r) :
    Calls Try.prog 17 #[.int .i64 n] w fun e w' => e = .returned (.float .f64 r) ∧ w' = w := by
  subst hr; exact fromInt_any n w

theorem aw1 : cI .even 4615063718147915776 = 4 := by decide +kernel
theorem aw2 : cOk .even 4615063718147915776 = true := by decide +kernel
theorem aw3 : cI .down 13826050856027422720 = -1 := by decide +kernel
theorem aw4 : cOk .down 13826050856027422720 = true := by decide +kernel
theorem aw5 : clampB 9094988921128908188 100 = 100 := by decide +kernel
theorem aw6 : rn false (-3 * one) = 13837309855095848960 := by decide +kernel
theorem aw7 : t32 4591870180066957722 < 2139095040 := by decide +kernel
theorem aw8 : to32B 4591870180066957722 = 1036831949 := by decide +kernel
theorem aw9 : from32B 1065353216 = 4607182418800017408 := by decide +kernel
theorem aw10 : to16B 4591870180066957722 = 11878 := by decide +kernel
theorem aw11 : from16B 15360 = 4607182418800017408 := by decide +kernel

set_option maxHeartbeats 2000000 in
theorem awake_any (w : World) : Calls Try.prog 9 #[] w fun e w' => e = .returned (.bool true) ∧ ∃ n, w' = w.drewN n := by
  have a1 := hid aw1
  have a2 := hid aw2
  have a3 := hid aw3
  have a4 := hid aw4
  have a5 := hid aw5
  have a6 := hid aw6
  have a7 : Hid (ok32 4591870180066957722) := .inr (.inr aw7)
  have a8 := hid aw8
  have a9 : Hid (from32B (1065353216 : Int).toNat = 4607182418800017408) := aw9
  have b1 := hid aw10
  have b2 : Hid (from16B (15360 : Int).toNat = 4607182418800017408) := aw11
  have e1 : feq 13837309855095848960 13837309855095848960 = true := by decide
  have e2 : feq 4607182418800017408 4607182418800017408 = true := by decide
  go_enter Try.func9, Try.ntmps9
  go_wp2_with fail
  refine (round_at 4615063718147915776 4 true _ (by decide) a1.out a2.out).mono ?_
  rintro e w' ⟨rfl, k, rfl⟩
  go_wp2_with fail
  refine (floor_at 13826050856027422720 (-1) true _ (by decide) a3.out a4.out).mono ?_
  rintro e w' ⟨rfl, k, rfl⟩
  go_wp2_with fail
  refine (clamp_at 9094988921128908188 100 100 _ (by decide) (by decide) a5.out).mono ?_
  rintro e w' ⟨rfl, k, rfl⟩
  go_wp2_with fail
  refine (fromInt_at (-3) 13837309855095848960 _ a6.out).mono ?_
  rintro e w' ⟨rfl, rfl⟩
  go_wp2_with fail
  refine (to32_at 4591870180066957722 1036831949 _ (by decide) a7.out a8.out).mono ?_
  rintro e w' ⟨rfl, rfl⟩
  go_wp2_with fail
  refine (from32_at 1065353216 4607182418800017408 _ (by decide) (by decide) a9.out).mono ?_
  rintro e w' ⟨rfl, k, rfl⟩
  go_wp2_with fail
  refine (to16_at 4591870180066957722 11878 _ (by decide) b1.out).mono ?_
  rintro e w' ⟨rfl, rfl⟩
  go_wp2_with fail
  refine (from16_at 15360 4607182418800017408 _ (by decide) (by decide) b2.out).mono ?_
  rintro e w' ⟨rfl, rfl⟩
  go_wp2
  go_ret
  exact ⟨rfl, _, rfl⟩
end Go.Proofs.Ytpncpbpdbdlamaa
