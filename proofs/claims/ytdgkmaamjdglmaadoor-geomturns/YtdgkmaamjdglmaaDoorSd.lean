/-
  Careful sums, and sums of three: walks over the program.
-/
import Derived.Test.YtdgkmaamjdglmaaDoorSc
namespace Go.Proofs.YtdgkmaamjdglmaaDoor
open Go.RowKit Tf
attribute [local go_sem] run_bits run_from raw_feq raw_fne raw_flt raw_fgt run_neg

theorem place_mg (x : Nat) : placeB (mg x) = mg x + 9223372036854775808 := by
  unfold placeB; rw [ng_of_lt (mg_lt x)]; rfl
theorem order_mg (a b : Nat) : orderB (mg a) (mg b) = if mg a < mg b then -1 else if mg b < mg a then 1 else 0 := by
  unfold orderB
  rw [place_mg, place_mg]
  by_cases h1 : mg a < mg b
  · rw [if_pos (by omega), if_pos h1]
  · rw [if_neg (by omega), if_neg h1]
    by_cases h2 : mg b < mg a
    · rw [if_pos (by omega), if_pos h2]
    · rw [if_neg (by omega), if_neg h2]
theorem key_lt (a b : Nat) (ha : a < 18446744073709551616) (hb : b < 18446744073709551616) : key b < key a ↔ mg b < mg a ∨ (mg a = mg b ∧ placeB b < placeB a) := by
  have h1 := word_eq a ha
  have h2 := word_eq b hb
  have h3 := mg_lt a
  have h4 := mg_lt b
  unfold key placeB
  revert h1 h2
  cases ng a <;> cases ng b <;> simp <;> omega
set_option maxHeartbeats 1000000 in
theorem behind_at (a b : Nat) (r : Bool) (w : World) (ha : a < 18446744073709551616) (hb : b < 18446744073709551616) (hr : decide (key b < key a) = r) :
    Calls Tryd.prog 68 #[.float .f64 a, .float .f64 b] w fun e w' => e = .returned (.bool r) ∧ w' = w := by
  have A := hid (fun w => abs_any a w ha)
  have B := hid (fun w => abs_any b w hb)
  have h3 := mg_lt a
  have h4 := mg_lt b
  have O := hid (fun o w h => orderB_at (mg a) (mg b) o w (by omega) (by omega) h)
  have O2 := hid (fun w => orderB_at a b _ w ha hb rfl)
  have hk := key_lt a b ha hb
  have ho := order_mg a b
  by_cases c1 : mg a < mg b
  · rw [if_pos c1] at ho
    have O' := hid (fun w => O.out _ w ho)
    have e : r = false := by rw [← hr]; exact decide_eq_false (fun x => by have := hk.1 x; omega)
    subst e
    clear O O2 hk hr ho c1 h3 h4 ha hb
    generalize mg a = ma at *
    generalize mg b = mb at *
    go_enter Tryd.func68, Tryd.ntmps68
    go_wp2_with fail
    refine (A.out _).mono ?_
    rintro e w' ⟨rfl, rfl⟩
    go_wp2_with fail
    refine (B.out _).mono ?_
    rintro e w' ⟨rfl, rfl⟩
    go_wp2_with fail
    refine (O'.out _).mono ?_
    rintro e w' ⟨rfl, rfl⟩
    go_wp2
    go_ret
    exact ⟨rfl, rfl⟩
  by_cases c2 : mg b < mg a
  · rw [if_neg c1, if_pos c2] at ho
    have O' := hid (fun w => O.out _ w ho)
    have e : r = true := by rw [← hr]; exact decide_eq_true (hk.2 (.inl c2))
    subst e
    clear O O2 hk hr ho c1 c2 h3 h4 ha hb
    generalize mg a = ma at *
    generalize mg b = mb at *
    go_enter Tryd.func68, Tryd.ntmps68
    go_wp2_with fail
    refine (A.out _).mono ?_
    rintro e w' ⟨rfl, rfl⟩
    go_wp2_with fail
    refine (B.out _).mono ?_
    rintro e w' ⟨rfl, rfl⟩
    go_wp2_with fail
    refine (O'.out _).mono ?_
    rintro e w' ⟨rfl, rfl⟩
    go_wp2
    go_ret
    exact ⟨rfl, rfl⟩
  · rw [if_neg c1, if_neg c2] at ho
    have O' := hid (fun w => O.out _ w ho)
    obtain ⟨o, ho2⟩ : ∃ o, orderB a b = o := ⟨_, rfl⟩
    have e : decide (0 < o) = r := by
      rw [← hr, ← ho2]
      refine decide_eq_decide.2 ?_
      rw [orderB_gt, hk]
      constructor
      · intro h; exact .inr ⟨by omega, h⟩
      · rintro (h | h)
        · omega
        · exact h.2
    rw [ho2] at O2
    clear O hk hr ho c1 c2 h3 h4 ha hb ho2
    generalize mg a = ma at *
    generalize mg b = mb at *
    go_enter Tryd.func68, Tryd.ntmps68
    go_wp2_with fail
    refine (A.out _).mono ?_
    rintro e w' ⟨rfl, rfl⟩
    go_wp2_with fail
    refine (B.out _).mono ?_
    rintro e w' ⟨rfl, rfl⟩
    go_wp2_with fail
    refine (O'.out _).mono ?_
    rintro e w' ⟨rfl, rfl⟩
    go_wp2_with fail
    refine (O2.out _).mono ?_
    rintro e w' ⟨rfl, rfl⟩
    go_wp2
    go_ret
    exact ⟨by first | rfl | (rw [← e]; try rfl) | skip, rfl⟩
set_option maxHeartbeats 1000000 in
theorem lesser_at (a b : Nat) (w : World) (ha : a < 18446744073709551616) (hb : b < 18446744073709551616) :
    Calls Tryd.prog 63 #[.float .f64 a, .float .f64 b] w fun e w' => e = .returned (.tuple #[.float .f64 (loB a b), .float .f64 (hiB a b)]) ∧ w' = w := by
  have B := hid (fun w => behind_at a b _ w ha hb rfl)
  unfold loB hiB
  by_cases c : key b < key a
  · rw [if_pos c, if_pos c]
    rw [decide_eq_true c] at B
    clear c
    go_enter Tryd.func63, Tryd.ntmps63
    go_wp2_with fail
    refine (B.out _).mono ?_
    rintro e w' ⟨rfl, rfl⟩
    go_wp2
    go_ret2
    exact ⟨rfl, rfl⟩
  · rw [if_neg c, if_neg c]
    rw [decide_eq_false c] at B
    clear c
    go_enter Tryd.func63, Tryd.ntmps63
    go_wp2_with fail
    refine (B.out _).mono ?_
    rintro e w' ⟨rfl, rfl⟩
    go_wp2
    go_ret2
    exact ⟨rfl, rfl⟩
theorem lo_lt {a b : Nat} (ha : a < 18446744073709551616) (hb : b < 18446744073709551616) : loB a b < 18446744073709551616 := by unfold loB; split <;> assumption
theorem hi_lt {a b : Nat} (ha : a < 18446744073709551616) (hb : b < 18446744073709551616) : hiB a b < 18446744073709551616 := by unfold hiB; split <;> assumption
set_option maxHeartbeats 2000000 in
theorem three_go (a b c a1 b1 b2 c2 a3 b3 r : Nat) (w : World)
    (L1 : Hid (∀ w, Calls Tryd.prog 63 #[.float .f64 a, .float .f64 b] w fun e w' => e = .returned (.tuple #[.float .f64 a1, .float .f64 b1]) ∧ w' = w))
    (L2 : Hid (∀ w, Calls Tryd.prog 63 #[.float .f64 b1, .float .f64 c] w fun e w' => e = .returned (.tuple #[.float .f64 b2, .float .f64 c2]) ∧ w' = w))
    (L3 : Hid (∀ w, Calls Tryd.prog 63 #[.float .f64 a1, .float .f64 b2] w fun e w' => e = .returned (.tuple #[.float .f64 a3, .float .f64 b3]) ∧ w' = w))
    (T : Hid (Calls Tryd.prog 64 #[.slice (some ⟨w.heap.size, 0, none⟩) 3 3] (w.alloc (.cells #[.float .f64 a3, .float .f64 b3, .float .f64 c2] 27)) fun e w' => e = .returned (.float .f64 r) ∧ Hid (Below w.heap.size w w'))) :
    Calls Tryd.prog 52 #[.float .f64 a, .float .f64 b, .float .f64 c] w fun e w' => e = .returned (.float .f64 r) ∧ Hid (Below w.heap.size w w') := by
  go_enter Tryd.func52, Tryd.ntmps52
  go_wp2_with fail
  refine (L1.out _).mono ?_
  rintro e w' ⟨rfl, rfl⟩
  go_wp2_with fail
  refine (L2.out _).mono ?_
  rintro e w' ⟨rfl, rfl⟩
  go_wp2_with fail
  refine (L3.out _).mono ?_
  rintro e w' ⟨rfl, rfl⟩
  go_wp2_with fail
  refine T.out.mono ?_
  rintro e w' ⟨rfl, hb⟩
  go_wp2
  go_ret
  exact ⟨rfl, hb⟩
/-- THREE -/
theorem three_at (a b c : Nat) (w : World) (ha : a < 18446744073709551616) (hb : b < 18446744073709551616) (hc : c < 18446744073709551616) :
    Calls Tryd.prog 52 #[.float .f64 a, .float .f64 b, .float .f64 c] w fun e w' => e = .returned (.float .f64 (thB a b c)) ∧ Hid (Below w.heap.size w w') := by
  have l1 := lo_lt ha hb
  have l2 := hi_lt ha hb
  have l3 := lo_lt l2 hc
  have l4 := hi_lt l2 hc
  refine three_go a b c _ _ _ _ _ _ _ w (fun w => lesser_at a b w ha hb) (fun w => lesser_at _ c w l2 hc) (fun w => lesser_at _ _ w l1 l3) ?_
  have l5 := lo_lt l1 l3
  have l6 := hi_lt l1 l3
  unfold thB
  generalize loB (loB a b) (loB (hiB a b) c) = u at *
  generalize hiB (loB a b) (loB (hiB a b) c) = v at *
  generalize hiB (hiB a b) c = z at *
  have hf : IsFl (w.alloc (.cells #[.float .f64 u, .float .f64 v, .float .f64 z] 27)) (some ⟨w.heap.size, 0, none⟩) 3 (fun j => if j = 0 then u else if j = 1 then v else z) := by
    refine fl_new w _ _ _ 3 (fun k hk => ?_)
    rcases (show k = 0 ∨ k = 1 ∨ k = 2 by omega) with rfl | rfl | rfl
    · exact ⟨l5, rfl⟩
    · exact ⟨l6, rfl⟩
    · exact ⟨l4, rfl⟩
  refine (inTurn_at _ 3 3 _ _ (Nat.le_refl _) (by decide) hf).mono ?_
  rintro e w' ⟨he, k, rfl⟩
  refine ⟨?_, below_drewN ((Below.refl _ _).alloc (Nat.le_refl _) _) k⟩
  rw [he]
  have : leftB (fun j => if j = 0 then u else if j = 1 then v else z) 3 = plB (plB (qB u) v) z := rfl
  rw [this, plB_ql]
end Go.Proofs.YtdgkmaamjdglmaaDoor
