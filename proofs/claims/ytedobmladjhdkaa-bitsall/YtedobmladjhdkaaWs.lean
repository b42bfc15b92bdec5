/-
  That the statement's tests of one float and of two answer true, for all bits: walks over the program.
-/
import Derived.Test.YtedobmladjhdkaaWr
namespace Go.Proofs.Ytedobmladjhdkaa
open Go.RowKit Tf
attribute [local go_sem] run_bits run_from raw_feq raw_fne raw_flt raw_fgt run_neg

theorem rClass (x : Nat) (r : Int) (w : World) (hr : classB x = r) :
    Calls Try.prog 26 #[.float .f64 x] w fun e w' => e = .returned (.int .i64 r) ∧ w' = w := by
  subst hr; exact refClass_any x w
theorem rCanon (x : Nat) (r : Nat) (w : World) (hr : canonB x = r) :
    Calls Try.prog 27 #[.float .f64 x] w fun e w' => e = .returned (.float .f64 r) ∧ w' = w := by
  subst hr; exact refCanon_any x w
theorem rUp (x : Nat) (r : Nat) (w : World) (hx : x < 18446744073709551616) (hr : upB x = r) :
    Calls Try.prog 28 #[.float .f64 x] w fun e w' => e = .returned (.float .f64 r) ∧ w' = w := by
  subst hr; exact refUp_any x w hx
theorem rDown (x : Nat) (r : Nat) (w : World) (hx : x < 18446744073709551616) (hr : downB x = r) :
    Calls Try.prog 29 #[.float .f64 x] w fun e w' => e = .returned (.float .f64 r) ∧ w' = w := by
  subst hr; exact refDown_any x w hx
theorem rUlp (x : Nat) (r : Nat) (w : World) (hr : ulpB x = r) :
    Calls Try.prog 30 #[.float .f64 x] w fun e w' => e = .returned (.float .f64 r) ∧ w' = w := by
  subst hr; exact refUlp_any x w
theorem rMax (a b : Nat) (r : Nat) (w : World) (ha : a < 18446744073709551616) (hb : b < 18446744073709551616) (hr : maxB a b = r) :
    Calls Try.prog 33 #[.float .f64 a, .float .f64 b] w fun e w' => e = .returned (.float .f64 r) ∧ w' = w := by
  subst hr; exact refMax_any a b w ha hb
theorem rMin (a b : Nat) (r : Nat) (w : World) (ha : a < 18446744073709551616) (hb : b < 18446744073709551616) (hr : minB a b = r) :
    Calls Try.prog 34 #[.float .f64 a, .float .f64 b] w fun e w' => e = .returned (.float .f64 r) ∧ w' = w := by
  subst hr; exact refMin_any a b w ha hb
theorem rBetween (a b : Nat) (n : Int) (ok : Bool) (w : World) (hn : betB a b = n) (hk : betOk a b = ok) :
    Calls Try.prog 31 #[.float .f64 a, .float .f64 b] w fun e w' => e = .returned (.tuple #[.int .i64 n, .bool ok]) ∧ w' = w := by
  subst hn; subst hk; exact refBetween_any a b w
theorem sameB_self (x : Nat) : sameB x x = true := by unfold sameB; simp

set_option maxHeartbeats 1000000 in
theorem one_any (x : Nat) (w : World) (hx : x < 18446744073709551616) :
    Calls Try.prog 10 #[.float .f64 x] w fun e w' => e = .returned (.bool true) ∧ w' = w := by
  obtain ⟨k, hk⟩ : ∃ k, classB x = k := ⟨_, rfl⟩
  obtain ⟨c, hc⟩ : ∃ c, canonB x = c := ⟨_, rfl⟩
  obtain ⟨u, hu⟩ : ∃ u, upB x = u := ⟨_, rfl⟩
  obtain ⟨d, hd⟩ : ∃ d, downB x = d := ⟨_, rfl⟩
  obtain ⟨l, hl⟩ : ∃ l, ulpB x = l := ⟨_, rfl⟩
  have K := hid hk
  have C := hid hc
  have U := hid hu
  have D := hid hd
  have L := hid hl
  clear hk hc hu hd hl
  go_enter Try.func10, Try.ntmps10
  go_wp2_with fail
  refine (classB_at x k _ hx K.out).mono ?_
  rintro e w' ⟨rfl, rfl⟩
  go_wp2_with fail
  refine (rClass x k _ K.out).mono ?_
  rintro e w' ⟨rfl, rfl⟩
  go_wp2_with fail
  refine (canon_at x c _ hx C.out).mono ?_
  rintro e w' ⟨rfl, rfl⟩
  go_wp2_with fail
  refine (rCanon x c _ C.out).mono ?_
  rintro e w' ⟨rfl, rfl⟩
  go_wp2_with fail
  refine (same_at c c true _ (sameB_self c)).mono ?_
  rintro e w' ⟨rfl, rfl⟩
  go_wp2_with fail
  refine (up_at x u _ hx U.out).mono ?_
  rintro e w' ⟨rfl, rfl⟩
  go_wp2_with fail
  refine (rUp x u _ hx U.out).mono ?_
  rintro e w' ⟨rfl, rfl⟩
  go_wp2_with fail
  refine (same_at u u true _ (sameB_self u)).mono ?_
  rintro e w' ⟨rfl, rfl⟩
  go_wp2_with fail
  refine (down_at x d _ hx D.out).mono ?_
  rintro e w' ⟨rfl, rfl⟩
  go_wp2_with fail
  refine (rDown x d _ hx D.out).mono ?_
  rintro e w' ⟨rfl, rfl⟩
  go_wp2_with fail
  refine (same_at d d true _ (sameB_self d)).mono ?_
  rintro e w' ⟨rfl, rfl⟩
  go_wp2_with fail
  refine (ulp_at x l _ hx L.out).mono ?_
  rintro e w' ⟨rfl, rfl⟩
  go_wp2_with fail
  refine (rUlp x l _ L.out).mono ?_
  rintro e w' ⟨rfl, rfl⟩
  go_wp2_with fail
  refine (same_at l l true _ (sameB_self l)).mono ?_
  rintro e w' ⟨rfl, rfl⟩
  go_wp2
  go_ret
  exact ⟨rfl, rfl⟩
set_option maxHeartbeats 1000000 in
theorem two_any (a b : Nat) (w : World) (ha : a < 18446744073709551616) (hb : b < 18446744073709551616) :
    Calls Try.prog 11 #[.float .f64 a, .float .f64 b] w fun e w' => e = .returned (.bool true) ∧ w' = w := by
  obtain ⟨n, hn⟩ : ∃ n, betB a b = n := ⟨_, rfl⟩
  obtain ⟨ok, hk⟩ : ∃ ok, betOk a b = ok := ⟨_, rfl⟩
  obtain ⟨o, ho⟩ : ∃ o, orderB a b = o := ⟨_, rfl⟩
  obtain ⟨x, hx⟩ : ∃ x, maxB a b = x := ⟨_, rfl⟩
  obtain ⟨y, hy⟩ : ∃ y, minB a b = y := ⟨_, rfl⟩
  have N := hid hn
  have K := hid hk
  have O := hid ho
  have X := hid hx
  have Y := hid hy
  clear hn hk ho hx hy
  go_enter Try.func11, Try.ntmps11
  go_wp2_with fail
  refine (between_at a b n ok _ ha hb N.out K.out).mono ?_
  rintro e w' ⟨rfl, rfl⟩
  go_wp2_with fail
  refine (rBetween a b n ok _ N.out K.out).mono ?_
  rintro e w' ⟨rfl, rfl⟩
  go_wp2_with fail
  refine (ord_at a b o _ ha hb O.out).mono ?_
  rintro e w' ⟨rfl, rfl⟩
  go_wp2_with fail
  refine (refOrd_at a b o _ ha hb O).mono ?_
  rintro e w' ⟨rfl, rfl⟩
  go_wp2_with fail
  refine (max_at a b x _ ha hb X.out).mono ?_
  rintro e w' ⟨rfl, rfl⟩
  go_wp2_with fail
  refine (rMax a b x _ ha hb X.out).mono ?_
  rintro e w' ⟨rfl, rfl⟩
  go_wp2_with fail
  refine (same_at x x true _ (sameB_self x)).mono ?_
  rintro e w' ⟨rfl, rfl⟩
  go_wp2_with fail
  refine (min_at a b y _ ha hb Y.out).mono ?_
  rintro e w' ⟨rfl, rfl⟩
  go_wp2_with fail
  refine (rMin a b y _ ha hb Y.out).mono ?_
  rintro e w' ⟨rfl, rfl⟩
  go_wp2_with fail
  refine (same_at y y true _ (sameB_self y)).mono ?_
  rintro e w' ⟨rfl, rfl⟩
  go_wp2
  go_ret
  exact ⟨rfl, rfl⟩
end Go.Proofs.Ytedobmladjhdkaa
