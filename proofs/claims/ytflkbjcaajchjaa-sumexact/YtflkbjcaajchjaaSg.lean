/-
  The fixed answers of the statements on sums: walks over the program.
-/
import Derived.Test.YtflkbjcaajchjaaSd
import Derived.Test.YtflkbjcaajchjaaTh
namespace Go.Proofs.Ytflkbjcaajchjaa
open Go.RowKit Tf
attribute [local go_sem] run_bits run_from raw_feq raw_fne raw_flt raw_fgt run_neg

set_option maxHeartbeats 400000 in
theorem same5_at (a b : Nat) (r : Bool) (w : World) (hr : decide (a = b) = r) :
    Calls Try.prog 10 #[.float .f64 a, .float .f64 b] w fun e w' => e = .returned (.bool r) ∧ w' = w := by
  have S := hid (fun w => rawSame_any a b w)
  have e : sameB a b = r := hr
  rw [e] at S
  clear hr e
  go_enter Try.func10, Try.ntmps10
  go_wp2_with fail
  refine (S.out _).mono ?_
  rintro e w' ⟨rfl, rfl⟩
  go_wp2
  go_ret
  exact ⟨rfl, rfl⟩
theorem same5_self (a : Nat) (w : World) :
    Calls Try.prog 10 #[.float .f64 a, .float .f64 a] w fun e w' => e = .returned (.bool true) ∧ w' = w := same5_at a a true w (by simp)
theorem bthen {w a b : World} (h : Below w.heap.size w a) (k : Below a.heap.size a b) : Below w.heap.size w b := h.trans (k.mono h.size)
def t3 (a b c : Nat) : Nat → Nat := fun j => if j = 0 then a else if j = 1 then b else c
theorem fl_t3 (w : World) (a b c : Nat) (ha : a < 18446744073709551616) (hb : b < 18446744073709551616) (hc : c < 18446744073709551616) : IsFl (w.alloc (.cells #[.float .f64 a, .float .f64 b, .float .f64 c] 25)) (some ⟨w.heap.size, 0, none⟩) 3 (t3 a b c) := by
  refine fl_new w _ _ _ 3 (fun k hk => ?_)
  rcases (show k = 0 ∨ k = 1 ∨ k = 2 by omega) with rfl | rfl | rfl
  · exact ⟨ha, rfl⟩
  · exact ⟨hb, rfl⟩
  · exact ⟨hc, rfl⟩
theorem lv1 : leftB (t3 4845873199050653696 4607182418800017408 4607182418800017408) 3 = 4845873199050653696 := by decide +kernel
theorem lv2 : prB (t3 4607182418800017408 4607182418800017408 4845873199050653696) 0 3 = 4845873199050653697 := by
  rw [prB_more _ 0 3 (by omega), show (3 + 1) / 2 = 2 by decide, prB_two _ 2 (by omega), show 3 - 2 = 1 by decide, prB_one]
  decide +kernel
theorem lv3 : careB (t3 4845873199050653696 4607182418800017408 4607182418800017408) 3 = 4845873199050653697 := by decide +kernel
theorem lv4 : thB 4845873199050653696 4607182418800017408 4607182418800017408 = 4845873199050653697 := by decide +kernel
set_option maxHeartbeats 2000000 in
theorem lives_go (w : World)
    (L : Hid (∀ w, Calls Try.prog 11 #[.slice (some ⟨w.heap.size, 0, none⟩) 3 3] (w.alloc (.cells #[.float .f64 4845873199050653696, .float .f64 4607182418800017408, .float .f64 4607182418800017408] 25)) fun e w' => e = .returned (.float .f64 4845873199050653696) ∧ Hid (Below w.heap.size w w')))
    (P : Hid (∀ w, Calls Try.prog 13 #[.slice (some ⟨w.heap.size, 0, none⟩) 3 3] (w.alloc (.cells #[.float .f64 4607182418800017408, .float .f64 4607182418800017408, .float .f64 4845873199050653696] 25)) fun e w' => e = .returned (.float .f64 4845873199050653697) ∧ Hid (Below w.heap.size w w')))
    (C : Hid (∀ w, Calls Try.prog 15 #[.slice (some ⟨w.heap.size, 0, none⟩) 3 3] (w.alloc (.cells #[.float .f64 4845873199050653696, .float .f64 4607182418800017408, .float .f64 4607182418800017408] 25)) fun e w' => e = .returned (.float .f64 4845873199050653697) ∧ Hid (Below w.heap.size w w')))
    (T : Hid (∀ w, Calls Try.prog 17 #[.float .f64 4845873199050653696, .float .f64 4607182418800017408, .float .f64 4607182418800017408] w fun e w' => e = .returned (.float .f64 4845873199050653697) ∧ Hid (Below w.heap.size w w'))) :
    Calls Try.prog 9 #[] w fun e w' => e = .returned (.bool true) ∧ Hid (Below w.heap.size w w') := by
  have S := hid same5_self
  go_enter Try.func9, Try.ntmps9
  go_wp2_with fail
  refine (L.out _).mono ?_
  rintro e w1 ⟨rfl, b1⟩
  go_wp2_with fail
  refine (S.out _ _).mono ?_
  rintro e w' ⟨rfl, rfl⟩
  go_wp2_with fail
  refine (P.out _).mono ?_
  rintro e w2 ⟨rfl, b2⟩
  go_wp2_with fail
  refine (S.out _ _).mono ?_
  rintro e w' ⟨rfl, rfl⟩
  go_wp2_with fail
  refine (C.out _).mono ?_
  rintro e w3 ⟨rfl, b3⟩
  go_wp2_with fail
  refine (S.out _ _).mono ?_
  rintro e w' ⟨rfl, rfl⟩
  go_wp2_with fail
  refine (T.out _).mono ?_
  rintro e w4 ⟨rfl, b4⟩
  go_wp2_with fail
  refine (S.out _ _).mono ?_
  rintro e w' ⟨rfl, rfl⟩
  go_wp2
  go_ret
  exact ⟨rfl, hid (bthen (bthen (bthen b1.out b2.out) b3.out) b4.out)⟩
/-- THE FIXED ANSWERS -/
theorem lives_any (w : World) : Calls Try.prog 9 #[] w fun e w' => e = .returned (.bool true) ∧ Hid (Below w.heap.size w w') := by
  refine lives_go w ?_ ?_ ?_ ?_
  · intro w
    refine (left_at _ 3 3 _ _ (by decide) (by decide) (fl_t3 w _ _ _ (by decide) (by decide) (by decide))).mono ?_
    rintro e w' ⟨he, k, rfl⟩
    rw [lv1] at he
    exact ⟨he, below_drewN ((Below.refl _ _).alloc (Nat.le_refl _) _) k⟩
  · intro w
    refine (pairs_at 3 _ 3 _ _ (by decide) (by decide) (by decide) (fl_t3 w _ _ _ (by decide) (by decide) (by decide))).mono ?_
    rintro e w' ⟨he, hb⟩
    rw [lv2] at he
    exact ⟨he, bthen ((Below.refl _ _).alloc (Nat.le_refl _) _) hb.out⟩
  · intro w
    refine (careful_at _ 3 3 _ _ (by decide) (by decide) (fl_t3 w _ _ _ (by decide) (by decide) (by decide))).mono ?_
    rintro e w' ⟨he, k, rfl⟩
    rw [lv3] at he
    exact ⟨he, below_drewN ((Below.refl _ _).alloc (Nat.le_refl _) _) k⟩
  · intro w
    refine (three_at _ _ _ w (by decide) (by decide) (by decide)).mono ?_
    rintro e w' ⟨he, hb⟩
    rw [lv4] at he
    exact ⟨he, hb⟩
end Go.Proofs.Ytflkbjcaajchjaa
