/-
  What the reference's Add returns: walks over the program.
-/
import Derived.Test.YtcamlhpehnfnlaaTm
import Derived.Test.YtcamlhpehnfnlaaTq
namespace Go.Proofs.Ytcamlhpehnfnlaa
open Go.RowKit Tf
attribute [local go_sem] run_bits run_from raw_feq raw_fne raw_flt raw_fgt run_neg

set_option maxHeartbeats 1000000 in
theorem radd_go (hi lo x h l t r q : Nat) (w : World) (ht : Ieee.double.add l lo = some t)
    (S1 : Hid (∀ w, Calls Try.prog 11 #[.float .f64 hi, .float .f64 x] w fun e w' => e = .returned (.tuple #[.float .f64 h, .float .f64 l]) ∧ ∃ n, w' = w.drewN n))
    (S2 : Hid (∀ w, Calls Try.prog 11 #[.float .f64 h, .float .f64 t] w fun e w' => e = .returned (.tuple #[.float .f64 r, .float .f64 q]) ∧ ∃ n, w' = w.drewN n)) :
    Calls Try.prog 18 #[.float .f64 hi, .float .f64 lo, .float .f64 x] w fun e w' => e = .returned (.tuple #[.float .f64 r, .float .f64 q]) ∧ ∃ n, w' = w.drewN n := by
  have hc := fun (ty : TypeId) (w : World) => run_float_arith (P := Try.prog) w .add ty .f64 l lo t ht
  clear ht
  go_enter Try.func18, Try.ntmps18
  go_wp2_with fail
  refine (S1.out _).mono ?_
  rintro e w' ⟨rfl, k, rfl⟩
  go_wp2_with fail
  refine (S2.out _).mono ?_
  rintro e w' ⟨rfl, k, rfl⟩
  go_wp2
  go_ret2
  exact ⟨rfl, _, rfl⟩
set_option maxHeartbeats 1000000 in
theorem radd_nano (hi lo x h l : Nat) (w : World) (ht : Ieee.double.add l lo = none)
    (S1 : Hid (∀ w, Calls Try.prog 11 #[.float .f64 hi, .float .f64 x] w fun e w' => e = .returned (.tuple #[.float .f64 h, .float .f64 l]) ∧ ∃ n, w' = w.drewN n))
    (S2 : Hid (∀ w w', Calls Try.prog 11 #[.float .f64 h, .float .f64 (nanOf w l lo)] w' fun e w'' => e = .returned (.tuple #[.float .f64 quiet, .float .f64 0]) ∧ ∃ n, w'' = w'.drewN n)) :
    Calls Try.prog 18 #[.float .f64 hi, .float .f64 lo, .float .f64 x] w fun e w' => e = .returned (.tuple #[.float .f64 quiet, .float .f64 0]) ∧ ∃ n, w' = w.drewN n := by
  have hc := fun (ty : TypeId) (w : World) => run_nan_add (P := Try.prog) w ty l lo ht
  clear ht
  go_enter Try.func18, Try.ntmps18
  go_wp2_with fail
  refine (S1.out _).mono ?_
  rintro e w' ⟨rfl, k, rfl⟩
  go_wp2_with fail
  refine (S2.out _ _).mono ?_
  rintro e w' ⟨rfl, k, rfl⟩
  go_wp2
  go_ret2
  exact ⟨rfl, _, rfl⟩
theorem radd_at (hi lo x r q : Nat) (w : World) (h1 : hi < 18446744073709551616) (h2 : lo < 18446744073709551616) (h3 : x < 18446744073709551616) (hr : addH hi lo x = r) (hq : addL hi lo x = q) :
    Calls Try.prog 18 #[.float .f64 hi, .float .f64 lo, .float .f64 x] w fun e w' => e = .returned (.tuple #[.float .f64 r, .float .f64 q]) ∧ ∃ n, w' = w.drewN n := by
  have hs := addB_lt hi x h1 h3
  unfold addH at hr
  unfold addL at hq
  cases h : Ieee.double.add (sumE hi x) lo with
  | none =>
    rw [h] at hr hq
    subst hr hq
    refine radd_nano hi lo x _ _ w h (fun w => rsum_at hi x _ _ w h1 h3 rfl rfl) ?_
    intro w w'
    have e1 := add_nan (addB hi x) (nanOf w (sumE hi x) lo) (.inr (isN_nanOf _ _ _))
    refine rsum_at _ _ _ _ w' hs (nanOf_lt _ _ _) (addB_none e1) ?_
    generalize nanOf w (sumE hi x) lo = z at *
    unfold sumE; rw [addB_none e1, quiet_mg, if_neg (by omega)]
  | some t =>
    rw [h] at hr hq
    have ht := add_ok _ _ _ (sumE_lt _ _) h2 h
    exact radd_go hi lo x _ _ t r q w h (fun w => rsum_at hi x _ _ w h1 h3 rfl rfl) (fun w => rsum_at _ t r q w hs ht hr hq)
end Go.Proofs.Ytcamlhpehnfnlaa
