/-
  That the statements' own test of life answers true; each contract once more at a named answer: walks over the program.
-/
import Derived.Test.YtedobmladjhdkaaWc
namespace Go.Proofs.Ytedobmladjhdkaa
open Go.RowKit Tf
attribute [local go_sem] run_bits run_from raw_feq raw_fne raw_flt raw_fgt run_neg

theorem up_at (x : Nat) (r : Nat) (w : World) (hx : x < 18446744073709551616) (hr : upB x = r) :
    Calls Try.prog 12 #[.float .f64 x] w fun e w' => e = .returned (.float .f64 r) ∧ w' = w := by
  subst hr; exact up_any x w hx
theorem down_at (x : Nat) (r : Nat) (w : World) (hx : x < 18446744073709551616) (hr : downB x = r) :
    Calls Try.prog 13 #[.float .f64 x] w fun e w' => e = .returned (.float .f64 r) ∧ w' = w := by
  subst hr; exact down_any x w hx
theorem ulp_at (x : Nat) (r : Nat) (w : World) (hx : x < 18446744073709551616) (hr : ulpB x = r) :
    Calls Try.prog 18 #[.float .f64 x] w fun e w' => e = .returned (.float .f64 r) ∧ w' = w := by
  subst hr; exact ulp_any x w hx
theorem canon_at (x : Nat) (r : Nat) (w : World) (hx : x < 18446744073709551616) (hr : canonB x = r) :
    Calls Try.prog 24 #[.float .f64 x] w fun e w' => e = .returned (.float .f64 r) ∧ w' = w := by
  subst hr; exact canon_any x w hx
theorem classB_at (x : Nat) (r : Int) (w : World) (hx : x < 18446744073709551616) (hr : classB x = r) :
    Calls Try.prog 16 #[.float .f64 x] w fun e w' => e = .returned (.int .i64 r) ∧ w' = w := by
  subst hr; exact class_any x w hx
theorem ord_at (a b : Nat) (r : Int) (w : World) (ha : a < 18446744073709551616) (hb : b < 18446744073709551616) (hr : orderB a b = r) :
    Calls Try.prog 19 #[.float .f64 a, .float .f64 b] w fun e w' => e = .returned (.int .i64 r) ∧ w' = w := by
  subst hr; exact order_any a b w ha hb
theorem max_at (a b : Nat) (r : Nat) (w : World) (ha : a < 18446744073709551616) (hb : b < 18446744073709551616) (hr : maxB a b = r) :
    Calls Try.prog 20 #[.float .f64 a, .float .f64 b] w fun e w' => e = .returned (.float .f64 r) ∧ w' = w := by
  subst hr; exact max_any a b w ha hb
theorem min_at (a b : Nat) (r : Nat) (w : World) (ha : a < 18446744073709551616) (hb : b < 18446744073709551616) (hr : minB a b = r) :
    Calls Try.prog 21 #[.float .f64 a, .float .f64 b] w fun e w' => e = .returned (.float .f64 r) ∧ w' = w := by
  subst hr; exact min_any a b w ha hb
theorem between_at (a b : Nat) (n : Int) (ok : Bool) (w : World) (ha : a < 18446744073709551616) (hb : b < 18446744073709551616) (hn : betB a b = n) (hk : betOk a b = ok) :
    Calls Try.prog 17 #[.float .f64 a, .float .f64 b] w fun e w' => e = .returned (.tuple #[.int .i64 n, .bool ok]) ∧ w' = w := by
  subst hn; subst hk; exact between_any a b w ha hb
theorem same_at (a b : Nat) (r : Bool) (w : World) (hr : sameB a b = r) :
    Calls Try.prog 15 #[.float .f64 a, .float .f64 b] w fun e w' => e = .returned (.bool r) ∧ w' = w := by
  subst hr; exact same_any a b w
theorem by_at (a : Int) (r : Nat) (w : World) (hr : a.toNat = r) :
    Calls Try.prog 22 #[.int .u64 a] w fun e w' => e = .returned (.float .f64 r) ∧ w' = w := by
  subst hr; exact by_any a w
theorem from_at (a : Int) (r : Nat) (w : World) (hr : a.toNat = r) :
    Calls Try.prog 25 #[.int .u64 a] w fun e w' => e = .returned (.float .f64 r) ∧ w' = w := by
  subst hr; exact from_any a w

set_option maxHeartbeats 1000000 in
theorem lives_any (w : World) :
    Calls Try.prog 9 #[] w fun e w' => e = .returned (.bool true) ∧ w' = w := by
  go_enter Try.func9, Try.ntmps9
  go_wp2_with fail
  refine (between_at 4607182418800017408 4611686018427387904 4503599627370496 true _ (by decide) (by decide) (by decide) (by decide)).mono ?_
  rintro e w' ⟨rfl, rfl⟩
  go_wp2_with fail
  refine (up_at 4607182418800017408 4607182418800017409 _ (by decide) (by decide)).mono ?_
  rintro e w' ⟨rfl, rfl⟩
  go_wp2_with fail
  refine (by_at 4607182418800017409 4607182418800017409 _ (by decide)).mono ?_
  rintro e w' ⟨rfl, rfl⟩
  go_wp2_with fail
  refine (same_at 4607182418800017409 4607182418800017409 true _ (by decide)).mono ?_
  rintro e w' ⟨rfl, rfl⟩
  go_wp2_with fail
  refine (down_at 4607182418800017408 4607182418800017407 _ (by decide) (by decide)).mono ?_
  rintro e w' ⟨rfl, rfl⟩
  go_wp2_with fail
  refine (by_at 4607182418800017407 4607182418800017407 _ (by decide)).mono ?_
  rintro e w' ⟨rfl, rfl⟩
  go_wp2_with fail
  refine (same_at 4607182418800017407 4607182418800017407 true _ (by decide)).mono ?_
  rintro e w' ⟨rfl, rfl⟩
  go_wp2_with fail
  refine (by_at 9223372036854775808 9223372036854775808 _ (by decide)).mono ?_
  rintro e w' ⟨rfl, rfl⟩
  go_wp2_with fail
  refine (canon_at 9223372036854775808 0 _ (by decide) (by decide)).mono ?_
  rintro e w' ⟨rfl, rfl⟩
  go_wp2_with fail
  refine (same_at 0 0 true _ (by decide)).mono ?_
  rintro e w' ⟨rfl, rfl⟩
  go_wp2_with fail
  refine (by_at 9223372036854775808 9223372036854775808 _ (by decide)).mono ?_
  rintro e w' ⟨rfl, rfl⟩
  go_wp2_with fail
  refine (ord_at 9223372036854775808 0 (-1) _ (by decide) (by decide) (by decide)).mono ?_
  rintro e w' ⟨rfl, rfl⟩
  go_wp2_with fail
  refine (classB_at 4607182418800017408 2 _ (by decide) (by decide)).mono ?_
  rintro e w' ⟨rfl, rfl⟩
  go_wp2_with fail
  refine (max_at 4607182418800017408 4611686018427387904 4611686018427387904 _ (by decide) (by decide) (by decide)).mono ?_
  rintro e w' ⟨rfl, rfl⟩
  go_wp2_with fail
  refine (same_at 4611686018427387904 4611686018427387904 true _ (by decide)).mono ?_
  rintro e w' ⟨rfl, rfl⟩
  go_wp2
  go_ret
  exact ⟨rfl, rfl⟩
end Go.Proofs.Ytedobmladjhdkaa
