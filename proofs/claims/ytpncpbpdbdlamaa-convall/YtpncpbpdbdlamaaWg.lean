/-
  What Clamp of package conv returns: walks over the program.
-/
import Derived.Test.YtpncpbpdbdlamaaWf
namespace Go.Proofs.Ytpncpbpdbdlamaa
open Go.RowKit Tf
attribute [local go_sem] run_bits run_from raw_feq raw_fne raw_flt raw_fgt run_neg

/-- the ends; the answer -/
def clampM (most : Int) : Int := if most < 0 then 0 else most
def clampB (x : Nat) (most : Int) : Int :=
  if isN x then 0 else if cOk .even x then min (max (cI .even x) (-clampM most)) (clampM most) else if fgt x 0 then clampM most else -clampM most

set_option maxHeartbeats 1000000 in
theorem clamp_nan (x : Nat) (most : Int) (n : isN x = true) (w : World) (hx : x < 18446744073709551616) :
    Calls Try.prog 14 #[.float .f64 x, .int .i64 most] w fun e w' => e = .returned (.int .i64 (0)) ∧ ∃ n, w' = w.drewN n := by
  go_enter Try.func14, Try.ntmps14
  go_wp2_with fail
  refine (cIsNaN_any x _ hx).mono ?_
  rintro e w' ⟨rfl, rfl⟩
  go_wp2
  go_ret
  exact ⟨rfl, 0, rfl⟩
set_option maxHeartbeats 1000000 in
theorem clamp_pos (x : Nat) (most : Int) (m : Int) (n : isN x = false) (hm : (if most < 0 then 0 else most) = m) (_m0 : 0 ≤ m) (_m1 : m ≤ 9223372036854775807) (hi : cI .even x = 0) (ho : cOk .even x = false) (g : fgt x 0 = true) (w : World) (hx : x < 18446744073709551616) :
    Calls Try.prog 14 #[.float .f64 x, .int .i64 most] w fun e w' => e = .returned (.int .i64 (m)) ∧ ∃ n, w' = w.drewN n := by
  go_enter Try.func14, Try.ntmps14
  go_wp2_with fail
  refine (cIsNaN_any x _ hx).mono ?_
  rintro e w' ⟨rfl, rfl⟩
  go_wp2_with fail
  refine (round_at x 0 false _ hx hi ho).mono ?_
  rintro e w' ⟨rfl, k, rfl⟩
  go_wp2
  go_ret
  exact ⟨rfl, k, rfl⟩
set_option maxHeartbeats 1000000 in
theorem clamp_neg (x : Nat) (most : Int) (m : Int) (n : isN x = false) (hm : (if most < 0 then 0 else most) = m) (m0 : 0 ≤ m) (m1 : m ≤ 9223372036854775807) (hi : cI .even x = 0) (ho : cOk .even x = false) (g : fgt x 0 = false) (w : World) (hx : x < 18446744073709551616) :
    Calls Try.prog 14 #[.float .f64 x, .int .i64 most] w fun e w' => e = .returned (.int .i64 (-m)) ∧ ∃ n, w' = w.drewN n := by
  go_enter Try.func14, Try.ntmps14
  go_wp2_with fail
  refine (cIsNaN_any x _ hx).mono ?_
  rintro e w' ⟨rfl, rfl⟩
  go_wp2_with fail
  refine (round_at x 0 false _ hx hi ho).mono ?_
  rintro e w' ⟨rfl, k, rfl⟩
  go_wp2
  go_ret
  exact ⟨rfl, k, rfl⟩
set_option maxHeartbeats 1000000 in
theorem clamp_lo (x : Nat) (most : Int) (m : Int) (n : isN x = false) (hm : (if most < 0 then 0 else most) = m) (m0 : 0 ≤ m) (m1 : m ≤ 9223372036854775807) (i : Int) (hi : cI .even x = i) (ho : cOk .even x = true) (c : i < -m) (w : World) (hx : x < 18446744073709551616) :
    Calls Try.prog 14 #[.float .f64 x, .int .i64 most] w fun e w' => e = .returned (.int .i64 (-m)) ∧ ∃ n, w' = w.drewN n := by
  go_enter Try.func14, Try.ntmps14
  go_wp2_with fail
  refine (cIsNaN_any x _ hx).mono ?_
  rintro e w' ⟨rfl, rfl⟩
  go_wp2_with fail
  refine (round_at x i true _ hx hi ho).mono ?_
  rintro e w' ⟨rfl, k, rfl⟩
  go_wp2
  go_ret
  exact ⟨rfl, k, rfl⟩
set_option maxHeartbeats 1000000 in
theorem clamp_hi (x : Nat) (most : Int) (m : Int) (n : isN x = false) (hm : (if most < 0 then 0 else most) = m) (m0 : 0 ≤ m) (m1 : m ≤ 9223372036854775807) (i : Int) (hi : cI .even x = i) (ho : cOk .even x = true) (c : m < i) (w : World) (hx : x < 18446744073709551616) :
    Calls Try.prog 14 #[.float .f64 x, .int .i64 most] w fun e w' => e = .returned (.int .i64 (m)) ∧ ∃ n, w' = w.drewN n := by
  go_enter Try.func14, Try.ntmps14
  go_wp2_with fail
  refine (cIsNaN_any x _ hx).mono ?_
  rintro e w' ⟨rfl, rfl⟩
  go_wp2_with fail
  refine (round_at x i true _ hx hi ho).mono ?_
  rintro e w' ⟨rfl, k, rfl⟩
  go_wp2
  go_ret
  exact ⟨rfl, k, rfl⟩
set_option maxHeartbeats 1000000 in
theorem clamp_in (x : Nat) (most : Int) (m : Int) (n : isN x = false) (hm : (if most < 0 then 0 else most) = m) (m0 : 0 ≤ m) (m1 : m ≤ 9223372036854775807) (i : Int) (hi : cI .even x = i) (ho : cOk .even x = true) (c : -m ≤ i) (c' : i ≤ m) (w : World) (hx : x < 18446744073709551616) :
    Calls Try.prog 14 #[.float .f64 x, .int .i64 most] w fun e w' => e = .returned (.int .i64 (i)) ∧ ∃ n, w' = w.drewN n := by
  go_enter Try.func14, Try.ntmps14
  go_wp2_with fail
  refine (cIsNaN_any x _ hx).mono ?_
  rintro e w' ⟨rfl, rfl⟩
  go_wp2_with fail
  refine (round_at x i true _ hx hi ho).mono ?_
  rintro e w' ⟨rfl, k, rfl⟩
  go_wp2
  go_ret
  exact ⟨rfl, k, rfl⟩

theorem clamp_at (x : Nat) (most r : Int) (w : World) (hx : x < 18446744073709551616) (hm : most ≤ 9223372036854775807) (hr : clampB x most = r) :
    Calls Try.prog 14 #[.float .f64 x, .int .i64 most] w fun e w' => e = .returned (.int .i64 r) ∧ ∃ n, w' = w.drewN n := by
  subst hr
  unfold clampB
  have hm' : (if most < 0 then 0 else most) = clampM most := rfl
  have m0 : 0 ≤ clampM most := by unfold clampM; split <;> omega
  have m1 : clampM most ≤ 9223372036854775807 := by unfold clampM; split <;> omega
  generalize clampM most = m at *
  cases n : isN x
  · rw [if_neg (by decide)]
    cases ho : cOk .even x
    · have hi : cI .even x = 0 := by unfold cI; rw [ho]; rfl
      rw [if_neg (by decide)]
      cases g : fgt x 0
      · rw [if_neg (by decide)]; exact clamp_neg x most m n hm' m0 m1 hi ho g w hx
      · rw [if_pos rfl]; exact clamp_pos x most m n hm' m0 m1 hi ho g w hx
    · rw [if_pos rfl]
      by_cases c : cI .even x < -m
      · rw [show min (max (cI .even x) (-m)) m = -m by omega]
        exact clamp_lo x most m n hm' m0 m1 _ rfl ho c w hx
      · by_cases c2 : m < cI .even x
        · rw [show min (max (cI .even x) (-m)) m = m by omega]
          exact clamp_hi x most m n hm' m0 m1 _ rfl ho c2 w hx
        · rw [show min (max (cI .even x) (-m)) m = cI .even x by omega]
          exact clamp_in x most m n hm' m0 m1 _ rfl ho (by omega) (by omega) w hx
  · rw [if_pos rfl]; exact clamp_nan x most n w hx
end Go.Proofs.Ytpncpbpdbdlamaa
