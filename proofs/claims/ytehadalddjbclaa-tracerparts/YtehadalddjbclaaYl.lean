/-
  Part: the walk over the program (layer 14).
-/
import Derived.Test.YtehadalddjbclaaYk
namespace Go.Proofs.Ytehadalddjbclaa
open Go.RowKit Go.Deep
namespace Sh
set_option maxRecDepth 100000 in
set_option maxHeartbeats 4000000 in
theorem pt_neg (x y z : Int) (w : World) (c : x < 0 ∨ y < 0 ∨ z ≤ 0) : Calls Try.prog 9 #[.int .i64 x, .int .i64 y, .int .i64 z] w fun e w' => e = .returned (.int .i64 0) ∧ w' = w := by
  by_cases c1 : x < 0
  · have f1 : decide (x < 0) = true := decide_eq_true c1
    clear c
    go_enter Try.func9, Try.ntmps9
    go_wp2
    go_ret
    exact ⟨rfl, rfl⟩
  · have f1 : decide (x < 0) = false := decide_eq_false c1
    by_cases c2 : y < 0
    · have f2 : decide (y < 0) = true := decide_eq_true c2
      clear c
      go_enter Try.func9, Try.ntmps9
      go_wp2
      go_ret
      exact ⟨rfl, rfl⟩
    · have f2 : decide (y < 0) = false := decide_eq_false c2
      have f3 : decide (z ≤ 0) = true := decide_eq_true (by omega)
      clear c
      go_enter Try.func9, Try.ntmps9
      go_wp2
      go_ret
      exact ⟨rfl, rfl⟩
set_option maxRecDepth 100000 in
set_option maxHeartbeats 4000000 in
theorem pt_big (x y z h l : Int) (w : World) (hx : 0 ≤ x) (hy : 0 ≤ y) (hz : 0 < z) (x2 : x ≤ 9223372036854775807) (y2 : y ≤ 9223372036854775807) (z2 : z ≤ 9223372036854775807)
    (MU : Hid (∀ v, Calls Try.prog 11 #[.int .u64 x, .int .u64 y] v fun e w' => e = .returned (.tuple #[.int .u64 h, .int .u64 l]) ∧ w' = v)) (hb : z ≤ h) :
    Calls Try.prog 9 #[.int .i64 x, .int .i64 y, .int .i64 z] w fun e w' => e = .returned (.int .i64 9223372036854775807) ∧ w' = w := by
  have f1 : decide (x < 0) = false := by rw [decide_eq_false_iff_not]; omega
  have f2 : decide (y < 0) = false := by rw [decide_eq_false_iff_not]; omega
  have f3 : decide (z ≤ 0) = false := by rw [decide_eq_false_iff_not]; omega
  have f4 : decide (z ≤ h) = true := decide_eq_true hb
  go_enter Try.func9, Try.ntmps9
  go_wp2_with fail
  refine (MU.out _).mono ?_
  rintro e9 v ⟨rfl, hv⟩
  have hv2 := hv.symm
  subst hv2
  go_wp2
  go_ret
  exact ⟨rfl, rfl⟩
set_option maxRecDepth 100000 in
set_option maxHeartbeats 4000000 in
theorem pt_small (x y z h l q : Int) (w : World) (hx : 0 ≤ x) (hy : 0 ≤ y) (hz : 0 < z) (x2 : x ≤ 9223372036854775807) (y2 : y ≤ 9223372036854775807) (z2 : z ≤ 9223372036854775807)
    (MU : Hid (∀ v, Calls Try.prog 11 #[.int .u64 x, .int .u64 y] v fun e w' => e = .returned (.tuple #[.int .u64 h, .int .u64 l]) ∧ w' = v)) (hb : h < z)
    (DV : Hid (Calls Try.prog 12 #[.int .u64 h, .int .u64 l, .int .u64 z] w fun e w' => (∃ r, e = .returned (.tuple #[.int .u64 q, .int .u64 r])) ∧ Below w.heap.size w w')) (hq : 0 ≤ q) (hq2 : q < 18446744073709551616) (p : Int) (PE : Hid (p = if 9223372036854775807 < q then 9223372036854775807 else q)) :
    Calls Try.prog 9 #[.int .i64 x, .int .i64 y, .int .i64 z] w fun e w' => e = .returned (.int .i64 p) ∧ Below w.heap.size w w' := by
  have f1 : decide (x < 0) = false := by rw [decide_eq_false_iff_not]; omega
  have f2 : decide (y < 0) = false := by rw [decide_eq_false_iff_not]; omega
  have f3 : decide (z ≤ 0) = false := by rw [decide_eq_false_iff_not]; omega
  have f4 : decide (z ≤ h) = false := decide_eq_false (by omega)
  go_enter Try.func9, Try.ntmps9
  go_wp2_with fail
  refine (MU.out _).mono ?_
  rintro e9 v ⟨rfl, hv⟩
  have hv2 := hv.symm
  subst hv2
  go_wp2_with fail
  refine DV.out.mono ?_
  rintro e8 v ⟨⟨r, rfl⟩, bl⟩
  have BL := hid bl
  clear bl
  by_cases c : 9223372036854775807 < q
  · have PE2 : Hid (p = 9223372036854775807) := by have h := PE.out; rwa [if_pos c] at h
    go_wp2
    go_ret
    exact ⟨by rw [PE2.out]; rfl, BL.out⟩
  · have PE2 : Hid (p = q) := by have h := PE.out; rwa [if_neg c] at h
    go_wp2
    go_ret
    exact ⟨by rw [PE2.out]; rfl, BL.out⟩
/-- PART -/
theorem partC : PartC := by
  intro x y z w hx hy hz
  by_cases c : x < 0 ∨ y < 0 ∨ z ≤ 0
  · have e : part x y z = 0 := by unfold part; rw [if_pos c]
    rw [e]
    refine (pt_neg x y z w c).mono ?_
    rintro e w' ⟨rfl, rfl⟩
    exact ⟨rfl, Below.refl _ _⟩
  · have h0 : 0 ≤ x ∧ 0 ≤ y ∧ 0 < z := by omega
    unfold W64 at hx hy hz
    have m := mul_bd (a := x) (b := y) (m := 9223372036854775807) (by omega) (by omega) (by omega) (by omega)
    have m0 := m.1
    have MU := fun v => mul64_at x y v h0.1 (by omega) h0.2.1 (by omega)
    have dm : x * y / 18446744073709551616 * 18446744073709551616 + x * y % 18446744073709551616 = x * y := by omega
    by_cases b : z ≤ x * y / 18446744073709551616
    · have e : part x y z = 9223372036854775807 := by
        unfold part
        rw [if_neg c, if_pos]
        have k : 9223372036854775808 ≤ x * y / z := (Int.le_ediv_iff_mul_le h0.2.2).2 (by omega)
        omega
      rw [e]
      refine (pt_big x y z _ _ w h0.1 h0.2.1 h0.2.2 hx.2 hy.2 hz.2 MU b).mono ?_
      rintro e w' ⟨rfl, rfl⟩
      exact ⟨rfl, Below.refl _ _⟩
    · have e : part x y z = if 9223372036854775807 < x * y / z then 9223372036854775807 else x * y / z := by
        unfold part
        rw [if_neg c]
      have D := div_at (x * y / 18446744073709551616) (x * y % 18446744073709551616) z w (by omega) (by omega) (by omega) (by omega) (by omega)
      rw [dm] at D
      rw [e]
      refine pt_small x y z _ _ _ w h0.1 h0.2.1 h0.2.2 hx.2 hy.2 hz.2 MU (by omega) D (Int.ediv_nonneg m0 (by omega)) ?_ _ rfl
      exact Int.ediv_lt_of_lt_mul h0.2.2 (by omega)
end Sh
end Go.Proofs.Ytehadalddjbclaa
