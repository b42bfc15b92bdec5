/-
  What the reference's calls of layer 1 return: walks over the program.
-/
import Derived.Test.YtgfggfkmfhonbaaTh
namespace Go.Proofs.Ytgfggfkmfhonbaa
open Go.RowKit Tf
attribute [local go_sem] run_bits run_from raw_feq raw_fne raw_flt raw_fgt run_neg
theorem from_at (n : Int) (r : Nat) (w : World) (h : n.toNat = r) :
    Calls Try.prog 59 #[.int .u64 n] w fun e w' => e = .returned (.float .f64 r) ∧ w' = w := by
  subst h; exact from_any n w
set_option maxHeartbeats 1000000 in
set_option maxRecDepth 100000 in
theorem refMag_any (x : Nat) (w : World) :
    Calls Try.prog 58 #[.float .f64 x] w fun e w' => e = .returned (.int .u64 (mg x : Nat)) ∧ w' = w := by
  go_enter Try.func58, Try.ntmps58
  go_wp2_with fail
  refine (rawBits_any x _).mono ?_
  rintro e w' ⟨rfl, rfl⟩
  go_wp2
  go_ret
  exact ⟨ret_int (by unfold mg; omega), rfl⟩

theorem refMag_at (x m : Nat) (w : World) (hm : Hid (mg x = m)) :
    Calls Try.prog 58 #[.float .f64 x] w fun e w' => e = .returned (.int .u64 (m : Nat)) ∧ w' = w := by
  rw [← hm.out]; exact refMag_any x w
set_option maxHeartbeats 1000000 in
set_option maxRecDepth 100000 in
theorem refBelow_any (x : Nat) (w : World) :
    Calls Try.prog 66 #[.float .f64 x] w fun e w' => e = .returned (.bool (ng x)) ∧ w' = w := by
  go_enter Try.func66, Try.ntmps66
  go_wp2_with fail
  refine (rawBits_any x _).mono ?_
  rintro e w' ⟨rfl, rfl⟩
  go_wp2
  go_ret
  exact ⟨ret_bool (by unfold ng; exact decide_eq_decide.2 (by omega)), rfl⟩

set_option maxHeartbeats 1000000 in
set_option maxRecDepth 100000 in
theorem refNone_any (x : Nat) (w : World) :
    Calls Try.prog 56 #[.float .f64 x] w fun e w' => e = .returned (.bool (isN x)) ∧ w' = w := by
  go_enter Try.func56, Try.ntmps56
  go_wp2_with fail
  refine (refMag_any x _).mono ?_
  rintro e w' ⟨rfl, rfl⟩
  go_wp2
  go_ret
  exact ⟨ret_bool (by unfold isN; exact decide_eq_decide.2 (by omega)), rfl⟩

set_option maxHeartbeats 1000000 in
set_option maxRecDepth 100000 in
theorem refQuiet_any (w : World) :
    Calls Try.prog 57 #[] w fun e w' => e = .returned (.float .f64 quiet) ∧ w' = w := by
  go_enter Try.func57, Try.ntmps57
  go_wp2_with fail
  refine (from_at 9221120237041090561 9221120237041090561 _ (by decide)).mono ?_
  rintro e w' ⟨rfl, rfl⟩
  go_wp2
  go_ret
  exact ⟨rfl, rfl⟩

set_option maxHeartbeats 1000000 in
set_option maxRecDepth 100000 in
theorem refCanon_any (x : Nat) (w : World) :
    Calls Try.prog 44 #[.float .f64 x] w fun e w' => e = .returned (.float .f64 (canonB x)) ∧ w' = w := by
  obtain ⟨m, hm⟩ : ∃ m, mg x = m := ⟨_, rfl⟩
  obtain ⟨r, hr⟩ : ∃ r, canonB x = r := ⟨_, rfl⟩
  have HM := hid hm
  have HR : Hid (r = if isN x then quiet else if m = 0 then 0 else x) := by show r = _; rw [← hr, ← hm]; rfl
  rw [hr]
  clear hr hm
  cases nN : isN x
  · have h := HR.out
    rw [nN, if_neg (by decide)] at h
    by_cases c : m = 0
    · rw [if_pos c] at h
      subst h
      subst c
      clear HR
      go_enter Try.func44, Try.ntmps44
      go_wp2_with fail
      refine (refNone_any x _).mono ?_
      rintro e w' ⟨rfl, rfl⟩
      go_wp2_with fail
      refine (refMag_at x _ _ HM).mono ?_
      rintro e w' ⟨rfl, rfl⟩
      go_wp2_with fail
      refine (from_at 0 0 _ (by decide)).mono ?_
      rintro e w' ⟨rfl, rfl⟩
      go_wp2
      go_ret
      exact ⟨rfl, rfl⟩
    · rw [if_neg c] at h
      rw [h]
      have e0 : ((m : Int) == 0) = false := by simp; omega
      clear HR h
      go_enter Try.func44, Try.ntmps44
      go_wp2_with fail
      refine (refNone_any x _).mono ?_
      rintro e w' ⟨rfl, rfl⟩
      go_wp2_with fail
      refine (refMag_at x _ _ HM).mono ?_
      rintro e w' ⟨rfl, rfl⟩
      go_wp2
      go_ret
      exact ⟨rfl, rfl⟩
  · have h := HR.out
    rw [nN, if_pos rfl] at h
    rw [h]
    clear HR h
    go_enter Try.func44, Try.ntmps44
    go_wp2_with fail
    refine (refNone_any x _).mono ?_
    rintro e w' ⟨rfl, rfl⟩
    go_wp2_with fail
    refine (refQuiet_any _).mono ?_
    rintro e w' ⟨rfl, rfl⟩
    go_wp2
    go_ret
    exact ⟨rfl, rfl⟩

end Go.Proofs.Ytgfggfkmfhonbaa
