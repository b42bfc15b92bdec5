/-
  What Add of package twin, and of the reference, return: walks over the program.
-/
import Derived.Test.YtcamlhpehnfnlabTh
namespace Go.Proofs.Ytcamlhpehnfnlab
open Go.RowKit Tf
attribute [local go_sem] run_bits run_from raw_feq raw_fne raw_flt raw_fgt run_neg

/-- a float to a pair -/
def addH (hi lo x : Nat) : Nat := match Ieee.double.add (sumE hi x) lo with | some t => addB (addB hi x) t | none => quiet
def addL (hi lo x : Nat) : Nat := match Ieee.double.add (sumE hi x) lo with | some t => sumE (addB hi x) t | none => 0
theorem add_ok (a b t : Nat) (ha : a < 18446744073709551616) (hb : b < 18446744073709551616) (h : Ieee.double.add a b = some t) : t < 18446744073709551616 := by
  rcases add_cases a b ha hb with ⟨h1, h2⟩ | h' | ⟨s, h'⟩
  · rw [add_d a b ha hb h1 h2] at h
    obtain rfl := Option.some.inj h
    exact rn_lt _ _
  · rw [h] at h'; cases h'
  · rw [h] at h'
    obtain rfl := Option.some.inj h'
    exact infW_lt s
theorem addH_lt (hi lo x : Nat) (h1 : hi < 18446744073709551616) (h2 : lo < 18446744073709551616) (h3 : x < 18446744073709551616) : addH hi lo x < 18446744073709551616 := by
  unfold addH
  cases h : Ieee.double.add (sumE hi x) lo with
  | none => exact quiet_lt
  | some t => exact addB_lt _ _ (addB_lt _ _ h1 h3) (add_ok _ _ _ (sumE_lt _ _) h2 h)
theorem addL_lt (hi lo x : Nat) : addL hi lo x < 18446744073709551616 := by
  unfold addL
  cases h : Ieee.double.add (sumE hi x) lo with
  | none => show 0 < 18446744073709551616; omega
  | some t => exact sumE_lt _ _

set_option maxHeartbeats 1000000 in
theorem add_go (hi lo x h l t r q : Nat) (w : World) (ht : Ieee.double.add l lo = some t)
    (S1 : Hid (∀ w, Calls Try.prog 6 #[.float .f64 hi, .float .f64 x] w fun e w' => e = .returned (.tuple #[.float .f64 h, .float .f64 l]) ∧ ∃ n, w' = w.drewN n))
    (S2 : Hid (∀ w, Calls Try.prog 6 #[.float .f64 h, .float .f64 t] w fun e w' => e = .returned (.tuple #[.float .f64 r, .float .f64 q]) ∧ ∃ n, w' = w.drewN n)) :
    Calls Try.prog 10 #[.float .f64 hi, .float .f64 lo, .float .f64 x] w fun e w' => e = .returned (.tuple #[.float .f64 r, .float .f64 q]) ∧ ∃ n, w' = w.drewN n := by
  have hc := fun (ty : TypeId) (w : World) => run_float_arith (P := Try.prog) w .add ty .f64 l lo t ht
  clear ht
  go_enter Try.func10, Try.ntmps10
  go_wp2_with fail
  refine (S1.out _).mono ?_
  rintro e w' ⟨rfl, k, rfl⟩
  go_wp2_with fail
  refine (S2.out _).mono ?_
  rintro e w' ⟨rfl, k, rfl⟩
  go_wp2
  go_ret2
  exact ⟨rfl, _, rfl⟩
set_option maxHeartbeats 1000000 in
theorem add_nano (hi lo x h l : Nat) (w : World) (ht : Ieee.double.add l lo = none)
    (S1 : Hid (∀ w, Calls Try.prog 6 #[.float .f64 hi, .float .f64 x] w fun e w' => e = .returned (.tuple #[.float .f64 h, .float .f64 l]) ∧ ∃ n, w' = w.drewN n))
    (S2 : Hid (∀ w w', Calls Try.prog 6 #[.float .f64 h, .float .f64 (nanOf w l lo)] w' fun e w'' => e = .returned (.tuple #[.float .f64 quiet, .float .f64 0]) ∧ ∃ n, w'' = w'.drewN n)) :
    Calls Try.prog 10 #[.float .f64 hi, .float .f64 lo, .float .f64 x] w fun e w' => e = .returned (.tuple #[.float .f64 quiet, .float .f64 0]) ∧ ∃ n, w' = w.drewN n := by
  have hc := fun (ty : TypeId) (w : World) => run_nan_add (P := Try.prog) w ty l lo ht
  clear ht
  go_enter Try.func10, Try.ntmps10
  go_wp2_with fail
  refine (S1.out _).mono ?_
  rintro e w' ⟨rfl, k, rfl⟩
  go_wp2_with fail
  refine (S2.out _ _).mono ?_
  rintro e w' ⟨rfl, k, rfl⟩
  go_wp2
  go_ret2
  exact ⟨rfl, _, rfl⟩
theorem add_at (hi lo x r q : Nat) (w : World) (h1 : hi < 18446744073709551616) (h2 : lo < 18446744073709551616) (h3 : x < 18446744073709551616) (hr : addH hi lo x = r) (hq : addL hi lo x = q) :
    Calls Try.prog 10 #[.float .f64 hi, .float .f64 lo, .float .f64 x] w fun e w' => e = .returned (.tuple #[.float .f64 r, .float .f64 q]) ∧ ∃ n, w' = w.drewN n := by
  have hs := addB_lt hi x h1 h3
  unfold addH at hr
  unfold addL at hq
  cases h : Ieee.double.add (sumE hi x) lo with
  | none =>
    rw [h] at hr hq
    subst hr hq
    refine add_nano hi lo x _ _ w h (fun w => sum_at hi x _ _ w h1 h3 rfl rfl) ?_
    intro w w'
    have e1 := add_nan (addB hi x) (nanOf w (sumE hi x) lo) (.inr (isN_nanOf _ _ _))
    refine sum_at _ _ _ _ w' hs (nanOf_lt _ _ _) (addB_none e1) ?_
    generalize nanOf w (sumE hi x) lo = z at *
    unfold sumE; rw [addB_none e1, quiet_mg, if_neg (by omega)]
  | some t =>
    rw [h] at hr hq
    have ht := add_ok _ _ _ (sumE_lt _ _) h2 h
    exact add_go hi lo x _ _ t r q w h (fun w => sum_at hi x _ _ w h1 h3 rfl rfl) (fun w => sum_at _ t r q w hs ht hr hq)

end Go.Proofs.Ytcamlhpehnfnlab
