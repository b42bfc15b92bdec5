/-
  Some of the texts of this proof, one behind the other.
-/
import Derived.Test.YtomenbbhdnfciaaGreatDoorRows
import Derived.ProofKit
import Derived.OpenShut
import Derived.WalkLawsBesides
import Derived.Stop.Joined
import Derived.Carry
import Derived.Lib.SmallJoins
import Derived.Deep.Slices
import Derived.Deep.OwnRows
import Derived.StillTail
import Derived.Test.YtomenbbhdnfciaaGreatDoorQ08
namespace Go.Proofs.YtomenbbhdnfciaaGreatDoor.Ref2
open Go.RowKit Tf
attribute [local go_sem] run_bits run_from raw_feq raw_fne raw_flt raw_fgt run_neg

theorem cut_up (way : Ieee.Toward) (x : Nat) (h : 0 ≤ pe x) : cutq way (ng x) (mv (mg x)) one = pm x * 2 ^ (pe x).toNat := by
  have hK := K_eq
  have e : (pe x + 1074).toNat = (pe x).toNat + K := by omega
  rw [mv_parts, e, Nat.pow_add, ← Nat.mul_assoc, ← one_pow, cutq_mul _ _ _ _ one_pos]
theorem cut_dn (way : Ieee.Toward) (x k : Nat) (h : pe x = -(k : Int)) : cutq way (ng x) (mv (mg x)) one = cutq way (ng x) (pm x) (2 ^ k) := by
  have hK := K_eq
  have hg := pe_ge x
  have e : (pe x + 1074).toNat = K - k := by omega
  have e2 : one = 2 ^ k * 2 ^ (K - k) := by rw [one_pow, ← Nat.pow_add]; congr 1; omega
  rw [mv_parts, e, e2, cutq_scale _ _ _ _ _ (pow_pos _)]
theorem cOk_wk (way : Ieee.Toward) (x : Nat) (fx : mg x < 9218868437227405312) : cOk way x = wk (ng x) (cutq way (ng x) (mv (mg x)) one) ∧ cI way x = wi (ng x) (cutq way (ng x) (mv (mg x)) one) := by
  have e : cOk way x = wk (ng x) (cutq way (ng x) (mv (mg x)) one) := by
    unfold cOk wk cq fin
    rw [decide_eq_true fx, Bool.true_and]
    generalize cutq way (ng x) (mv (mg x)) one = M
    cases ng x
    · simp only [Bool.false_eq_true, if_false]
      rw [decide_eq_true (by omega), Bool.true_and]
      exact decide_eq_decide.2 (by omega)
    · simp only [if_true]
      rw [show decide (-(M : Int) < 9223372036854775808) = true from decide_eq_true (by omega), Bool.and_true]
      exact decide_eq_decide.2 (by omega)
  refine ⟨e, ?_⟩
  unfold cI wi
  rw [e]
  rfl
theorem pm_great (x : Nat) (h : 0 ≤ pe x) : 4503599627370496 ≤ pm x := by
  unfold pm pe at *
  by_cases c : mg x / 4503599627370496 = 0
  · rw [if_pos c] at h; omega
  · rw [if_neg c]; omega
theorem gr_true (x : Nat) (h : 0 ≤ pe x) (g : gr (pm x) (pe x).toNat = true) : 9223372036854775808 < pm x * 2 ^ (pe x).toNat := by
  have h1 := pm_great x h
  unfold gr at g
  simp only [Bool.and_eq_true, Bool.or_eq_true, decide_eq_true_eq] at g
  generalize (pe x).toNat = k at *
  rcases g.2 with c | c
  · have : 2 ^ 12 ≤ 2 ^ k := Nat.pow_le_pow_right (by omega) (by omega)
    have := Nat.mul_le_mul h1 this
    omega
  · exact (Nat.div_lt_iff_lt_mul (pow_pos k)).1 c
theorem gr_false (x : Nat) (h : 0 ≤ pe x) (g : gr (pm x) (pe x).toNat = false) : pe x < 12 ∧ pm x * 2 ^ (pe x).toNat ≤ 9223372036854775808 := by
  have h1 := pm_great x h
  unfold gr at g
  rw [decide_eq_true (show pm x ≠ 0 by omega), Bool.true_and, Bool.or_eq_false_iff] at g
  have g1 := of_decide_eq_false g.1
  have g2 := of_decide_eq_false g.2
  refine ⟨by omega, ?_⟩
  rw [Nat.div_lt_iff_lt_mul (pow_pos _)] at g2
  omega
theorem wrap_pow (m k p : Nat) (hp : p = m * 2 ^ k) (h : p < 18446744073709551616) : IntKind.u64.wrap ((m : Int) * 2 ^ k) = (p : Int) := by
  have e : (m : Int) * 2 ^ k = (p : Int) := by rw [hp, Int.natCast_mul]; rfl
  rw [e, wrap_id] <;> omega
set_option maxHeartbeats 1000000 in
theorem cAnantrue (x : Nat) (most : Int) (w : World) (hx : Hid (x < 18446744073709551616)) (c0 : most < 0) (hn : Hid (ng x = true)) (fx : Hid (isN x = true)) :
    Calls Tryz.prog 15 #[.float .f64 x, .int .i64 most] w fun e w' => e = .returned (.int .i64 (0)) ∧ w' = w := by
  go_enter Tryz.func15, Tryz.ntmps15
  go_wp2_with fail
  refine (parts_nat x true _ hx.out fx.out hn.out).mono ?_
  rintro e w' ⟨rfl, rfl⟩
  go_wp2
  go_ret
  exact ⟨rfl, rfl⟩

set_option maxHeartbeats 1000000 in
theorem cAinftrue (x : Nat) (most : Int) (w : World) (hx : Hid (x < 18446744073709551616)) (c0 : most < 0) (hn : Hid (ng x = true)) (fx : Hid (mg x = 9218868437227405312)) :
    Calls Tryz.prog 15 #[.float .f64 x, .int .i64 most] w fun e w' => e = .returned (.int .i64 (0)) ∧ w' = w := by
  go_enter Tryz.func15, Tryz.ntmps15
  go_wp2_with fail
  refine (parts_iat x true _ hx.out fx.out hn.out).mono ?_
  rintro e w' ⟨rfl, rfl⟩
  go_wp2
  go_ret
  exact ⟨rfl, rfl⟩

set_option maxHeartbeats 1000000 in
theorem cAgrtrue (x : Nat) (most : Int) (w : World) (hx : Hid (x < 18446744073709551616)) (c0 : most < 0) (hn : Hid (ng x = true)) (fx : Hid (mg x < 9218868437227405312)) (m : Nat) (pm' : Hid (pm x = m)) (e : Int) (pe' : Hid (pe x = e)) (e0 : 0 ≤ e) (g : Hid (gr m e.toNat = true)) :
    Calls Tryz.prog 15 #[.float .f64 x, .int .i64 most] w fun e w' => e = .returned (.int .i64 (0)) ∧ w' = w := by
  go_enter Tryz.func15, Tryz.ntmps15
  go_wp2_with fail
  refine (parts_at x m e true _ hx.out fx.out pm'.out pe'.out hn.out).mono ?_
  rintro e w' ⟨rfl, rfl⟩
  go_wp2_with fail
  refine (greatI m e true _ e0 g.out).mono ?_
  rintro e w' ⟨rfl, rfl⟩
  go_wp2
  go_ret
  exact ⟨rfl, rfl⟩

set_option maxHeartbeats 1000000 in
theorem cAuptruegt (x : Nat) (most : Int) (w : World) (hx : Hid (x < 18446744073709551616)) (c0 : most < 0) (hn : Hid (ng x = true)) (fx : Hid (mg x < 9218868437227405312)) (m : Nat) (pm' : Hid (pm x = m)) (e : Int) (pe' : Hid (pe x = e)) (e0 : 0 ≤ e) (e1 : e < 12) (g : Hid (gr m e.toNat = false)) (r : Nat) (hr : IntKind.u64.wrap ((m : Int) * 2 ^ e.toNat) = (r : Int)) (c : (0 : Int) < (r : Int))  :
    Calls Tryz.prog 15 #[.float .f64 x, .int .i64 most] w fun e w' => e = .returned (.int .i64 (0)) ∧ w' = w := by
  go_enter Tryz.func15, Tryz.ntmps15
  go_wp2_with fail
  refine (parts_at x m e true _ hx.out fx.out pm'.out pe'.out hn.out).mono ?_
  rintro e w' ⟨rfl, rfl⟩
  go_wp2_with fail
  refine (greatI m e false _ e0 g.out).mono ?_
  rintro e w' ⟨rfl, rfl⟩
  go_wp2
  go_ret
  exact ⟨rfl, rfl⟩

set_option maxHeartbeats 1000000 in
theorem cAdntruegt (x : Nat) (most : Int) (w : World) (hx : Hid (x < 18446744073709551616)) (c0 : most < 0) (hn : Hid (ng x = true)) (fx : Hid (mg x < 9218868437227405312)) (m : Nat) (pm' : Hid (pm x = m)) (e : Int) (pe' : Hid (pe x = e)) (k : Nat) (lm : Hid (okm m k)) (k1 : 1 ≤ k) (e1 : -5000 < e) (ek : -e = (k : Int)) (r : Nat) (hr : Hid (rne m (2 ^ k) = r)) (c : (0 : Int) < (r : Int))  :
    Calls Tryz.prog 15 #[.float .f64 x, .int .i64 most] w fun e w' => e = .returned (.int .i64 (0)) ∧ w' = w := by
  go_enter Tryz.func15, Tryz.ntmps15
  go_wp2_with fail
  refine (parts_at x m e true _ hx.out fx.out pm'.out pe'.out hn.out).mono ?_
  rintro e w' ⟨rfl, rfl⟩
  go_wp2_with fail
  refine (near_at m k r _ lm.out k1 hr.out).mono ?_
  rintro e w' ⟨rfl, rfl⟩
  go_wp2
  go_ret
  exact ⟨rfl, rfl⟩

set_option maxHeartbeats 1000000 in
theorem cAuptruele (x : Nat) (most : Int) (w : World) (hx : Hid (x < 18446744073709551616)) (c0 : most < 0) (hn : Hid (ng x = true)) (fx : Hid (mg x < 9218868437227405312)) (m : Nat) (pm' : Hid (pm x = m)) (e : Int) (pe' : Hid (pe x = e)) (e0 : 0 ≤ e) (e1 : e < 12) (g : Hid (gr m e.toNat = false)) (r : Nat) (hr : IntKind.u64.wrap ((m : Int) * 2 ^ e.toNat) = (r : Int)) (c : r = 0)  :
    Calls Tryz.prog 15 #[.float .f64 x, .int .i64 most] w fun e w' => e = .returned (.int .i64 (0)) ∧ w' = w := by
  subst c
  go_enter Tryz.func15, Tryz.ntmps15
  go_wp2_with fail
  refine (parts_at x m e true _ hx.out fx.out pm'.out pe'.out hn.out).mono ?_
  rintro e w' ⟨rfl, rfl⟩
  go_wp2_with fail
  refine (greatI m e false _ e0 g.out).mono ?_
  rintro e w' ⟨rfl, rfl⟩
  go_wp2
  go_ret
  exact ⟨rfl, rfl⟩

set_option maxHeartbeats 1000000 in
theorem cAdntruele (x : Nat) (most : Int) (w : World) (hx : Hid (x < 18446744073709551616)) (c0 : most < 0) (hn : Hid (ng x = true)) (fx : Hid (mg x < 9218868437227405312)) (m : Nat) (pm' : Hid (pm x = m)) (e : Int) (pe' : Hid (pe x = e)) (k : Nat) (lm : Hid (okm m k)) (k1 : 1 ≤ k) (e1 : -5000 < e) (ek : -e = (k : Int)) (r : Nat) (hr : Hid (rne m (2 ^ k) = r)) (c : r = 0)  :
    Calls Tryz.prog 15 #[.float .f64 x, .int .i64 most] w fun e w' => e = .returned (.int .i64 (0)) ∧ w' = w := by
  subst c
  go_enter Tryz.func15, Tryz.ntmps15
  go_wp2_with fail
  refine (parts_at x m e true _ hx.out fx.out pm'.out pe'.out hn.out).mono ?_
  rintro e w' ⟨rfl, rfl⟩
  go_wp2_with fail
  refine (near_at m k 0 _ lm.out k1 hr.out).mono ?_
  rintro e w' ⟨rfl, rfl⟩
  go_wp2
  go_ret
  exact ⟨rfl, rfl⟩

set_option maxHeartbeats 1000000 in
theorem cAnanfalse (x : Nat) (most : Int) (w : World) (hx : Hid (x < 18446744073709551616)) (c0 : most < 0) (hn : Hid (ng x = false)) (fx : Hid (isN x = true)) :
    Calls Tryz.prog 15 #[.float .f64 x, .int .i64 most] w fun e w' => e = .returned (.int .i64 (0)) ∧ w' = w := by
  go_enter Tryz.func15, Tryz.ntmps15
  go_wp2_with fail
  refine (parts_nat x false _ hx.out fx.out hn.out).mono ?_
  rintro e w' ⟨rfl, rfl⟩
  go_wp2
  go_ret
  exact ⟨rfl, rfl⟩

set_option maxHeartbeats 1000000 in
theorem cAinffalse (x : Nat) (most : Int) (w : World) (hx : Hid (x < 18446744073709551616)) (c0 : most < 0) (hn : Hid (ng x = false)) (fx : Hid (mg x = 9218868437227405312)) :
    Calls Tryz.prog 15 #[.float .f64 x, .int .i64 most] w fun e w' => e = .returned (.int .i64 (0)) ∧ w' = w := by
  go_enter Tryz.func15, Tryz.ntmps15
  go_wp2_with fail
  refine (parts_iat x false _ hx.out fx.out hn.out).mono ?_
  rintro e w' ⟨rfl, rfl⟩
  go_wp2
  go_ret
  exact ⟨rfl, rfl⟩

set_option maxHeartbeats 1000000 in
theorem cAgrfalse (x : Nat) (most : Int) (w : World) (hx : Hid (x < 18446744073709551616)) (c0 : most < 0) (hn : Hid (ng x = false)) (fx : Hid (mg x < 9218868437227405312)) (m : Nat) (pm' : Hid (pm x = m)) (e : Int) (pe' : Hid (pe x = e)) (e0 : 0 ≤ e) (g : Hid (gr m e.toNat = true)) :
    Calls Tryz.prog 15 #[.float .f64 x, .int .i64 most] w fun e w' => e = .returned (.int .i64 (0)) ∧ w' = w := by
  go_enter Tryz.func15, Tryz.ntmps15
  go_wp2_with fail
  refine (parts_at x m e false _ hx.out fx.out pm'.out pe'.out hn.out).mono ?_
  rintro e w' ⟨rfl, rfl⟩
  go_wp2_with fail
  refine (greatI m e true _ e0 g.out).mono ?_
  rintro e w' ⟨rfl, rfl⟩
  go_wp2
  go_ret
  exact ⟨rfl, rfl⟩

set_option maxHeartbeats 1000000 in
theorem cAupfalsegt (x : Nat) (most : Int) (w : World) (hx : Hid (x < 18446744073709551616)) (c0 : most < 0) (hn : Hid (ng x = false)) (fx : Hid (mg x < 9218868437227405312)) (m : Nat) (pm' : Hid (pm x = m)) (e : Int) (pe' : Hid (pe x = e)) (e0 : 0 ≤ e) (e1 : e < 12) (g : Hid (gr m e.toNat = false)) (r : Nat) (hr : IntKind.u64.wrap ((m : Int) * 2 ^ e.toNat) = (r : Int)) (c : (0 : Int) < (r : Int))  :
    Calls Tryz.prog 15 #[.float .f64 x, .int .i64 most] w fun e w' => e = .returned (.int .i64 (0)) ∧ w' = w := by
  go_enter Tryz.func15, Tryz.ntmps15
  go_wp2_with fail
  refine (parts_at x m e false _ hx.out fx.out pm'.out pe'.out hn.out).mono ?_
  rintro e w' ⟨rfl, rfl⟩
  go_wp2_with fail
  refine (greatI m e false _ e0 g.out).mono ?_
  rintro e w' ⟨rfl, rfl⟩
  go_wp2
  go_ret
  exact ⟨rfl, rfl⟩

set_option maxHeartbeats 1000000 in
theorem cAdnfalsegt (x : Nat) (most : Int) (w : World) (hx : Hid (x < 18446744073709551616)) (c0 : most < 0) (hn : Hid (ng x = false)) (fx : Hid (mg x < 9218868437227405312)) (m : Nat) (pm' : Hid (pm x = m)) (e : Int) (pe' : Hid (pe x = e)) (k : Nat) (lm : Hid (okm m k)) (k1 : 1 ≤ k) (e1 : -5000 < e) (ek : -e = (k : Int)) (r : Nat) (hr : Hid (rne m (2 ^ k) = r)) (c : (0 : Int) < (r : Int))  :
    Calls Tryz.prog 15 #[.float .f64 x, .int .i64 most] w fun e w' => e = .returned (.int .i64 (0)) ∧ w' = w := by
  go_enter Tryz.func15, Tryz.ntmps15
  go_wp2_with fail
  refine (parts_at x m e false _ hx.out fx.out pm'.out pe'.out hn.out).mono ?_
  rintro e w' ⟨rfl, rfl⟩
  go_wp2_with fail
  refine (near_at m k r _ lm.out k1 hr.out).mono ?_
  rintro e w' ⟨rfl, rfl⟩
  go_wp2
  go_ret
  exact ⟨rfl, rfl⟩

set_option maxHeartbeats 1000000 in
theorem cAupfalsele (x : Nat) (most : Int) (w : World) (hx : Hid (x < 18446744073709551616)) (c0 : most < 0) (hn : Hid (ng x = false)) (fx : Hid (mg x < 9218868437227405312)) (m : Nat) (pm' : Hid (pm x = m)) (e : Int) (pe' : Hid (pe x = e)) (e0 : 0 ≤ e) (e1 : e < 12) (g : Hid (gr m e.toNat = false)) (r : Nat) (hr : IntKind.u64.wrap ((m : Int) * 2 ^ e.toNat) = (r : Int)) (c : r = 0)  :
    Calls Tryz.prog 15 #[.float .f64 x, .int .i64 most] w fun e w' => e = .returned (.int .i64 (0)) ∧ w' = w := by
  subst c
  go_enter Tryz.func15, Tryz.ntmps15
  go_wp2_with fail
  refine (parts_at x m e false _ hx.out fx.out pm'.out pe'.out hn.out).mono ?_
  rintro e w' ⟨rfl, rfl⟩
  go_wp2_with fail
  refine (greatI m e false _ e0 g.out).mono ?_
  rintro e w' ⟨rfl, rfl⟩
  go_wp2
  go_ret
  exact ⟨rfl, rfl⟩

set_option maxHeartbeats 1000000 in
theorem cAdnfalsele (x : Nat) (most : Int) (w : World) (hx : Hid (x < 18446744073709551616)) (c0 : most < 0) (hn : Hid (ng x = false)) (fx : Hid (mg x < 9218868437227405312)) (m : Nat) (pm' : Hid (pm x = m)) (e : Int) (pe' : Hid (pe x = e)) (k : Nat) (lm : Hid (okm m k)) (k1 : 1 ≤ k) (e1 : -5000 < e) (ek : -e = (k : Int)) (r : Nat) (hr : Hid (rne m (2 ^ k) = r)) (c : r = 0)  :
    Calls Tryz.prog 15 #[.float .f64 x, .int .i64 most] w fun e w' => e = .returned (.int .i64 (0)) ∧ w' = w := by
  subst c
  go_enter Tryz.func15, Tryz.ntmps15
  go_wp2_with fail
  refine (parts_at x m e false _ hx.out fx.out pm'.out pe'.out hn.out).mono ?_
  rintro e w' ⟨rfl, rfl⟩
  go_wp2_with fail
  refine (near_at m k 0 _ lm.out k1 hr.out).mono ?_
  rintro e w' ⟨rfl, rfl⟩
  go_wp2
  go_ret
  exact ⟨rfl, rfl⟩

set_option maxHeartbeats 1000000 in
theorem cBnantrue (x : Nat) (most : Int) (w : World) (hx : Hid (x < 18446744073709551616)) (c0 : ¬ most < 0) (_m1 : most ≤ 9223372036854775807) (hn : Hid (ng x = true)) (fx : Hid (isN x = true)) :
    Calls Tryz.prog 15 #[.float .f64 x, .int .i64 most] w fun e w' => e = .returned (.int .i64 (0)) ∧ w' = w := by
  go_enter Tryz.func15, Tryz.ntmps15
  go_wp2_with fail
  refine (parts_nat x true _ hx.out fx.out hn.out).mono ?_
  rintro e w' ⟨rfl, rfl⟩
  go_wp2
  go_ret
  exact ⟨rfl, rfl⟩

set_option maxHeartbeats 1000000 in
theorem cBinftrue (x : Nat) (most : Int) (w : World) (hx : Hid (x < 18446744073709551616)) (c0 : ¬ most < 0) (m1 : most ≤ 9223372036854775807) (hn : Hid (ng x = true)) (b : decide (most < (9223372036854775808 : Int)) = true) (fx : Hid (mg x = 9218868437227405312)) :
    Calls Tryz.prog 15 #[.float .f64 x, .int .i64 most] w fun e w' => e = .returned (.int .i64 (-most)) ∧ w' = w := by
  go_enter Tryz.func15, Tryz.ntmps15
  go_wp2_with fail
  refine (parts_iat x true _ hx.out fx.out hn.out).mono ?_
  rintro e w' ⟨rfl, rfl⟩
  go_wp2
  go_ret
  exact ⟨rfl, rfl⟩

set_option maxHeartbeats 1000000 in
theorem cBgrtrue (x : Nat) (most : Int) (w : World) (hx : Hid (x < 18446744073709551616)) (c0 : ¬ most < 0) (m1 : most ≤ 9223372036854775807) (hn : Hid (ng x = true)) (b : decide (most < (9223372036854775808 : Int)) = true) (fx : Hid (mg x < 9218868437227405312)) (m : Nat) (pm' : Hid (pm x = m)) (e : Int) (pe' : Hid (pe x = e)) (e0 : 0 ≤ e) (g : Hid (gr m e.toNat = true)) :
    Calls Tryz.prog 15 #[.float .f64 x, .int .i64 most] w fun e w' => e = .returned (.int .i64 (-most)) ∧ w' = w := by
  go_enter Tryz.func15, Tryz.ntmps15
  go_wp2_with fail
  refine (parts_at x m e true _ hx.out fx.out pm'.out pe'.out hn.out).mono ?_
  rintro e w' ⟨rfl, rfl⟩
  go_wp2_with fail
  refine (greatI m e true _ e0 g.out).mono ?_
  rintro e w' ⟨rfl, rfl⟩
  go_wp2
  go_ret
  exact ⟨rfl, rfl⟩

set_option maxHeartbeats 1000000 in
theorem cBuptruegt (x : Nat) (most : Int) (w : World) (hx : Hid (x < 18446744073709551616)) (c0 : ¬ most < 0) (m1 : most ≤ 9223372036854775807) (hn : Hid (ng x = true)) (fx : Hid (mg x < 9218868437227405312)) (m : Nat) (pm' : Hid (pm x = m)) (e : Int) (pe' : Hid (pe x = e)) (e0 : 0 ≤ e) (e1 : e < 12) (g : Hid (gr m e.toNat = false)) (r : Nat) (hr : IntKind.u64.wrap ((m : Int) * 2 ^ e.toNat) = (r : Int)) (c : most < (r : Int))  :
    Calls Tryz.prog 15 #[.float .f64 x, .int .i64 most] w fun e w' => e = .returned (.int .i64 (-most)) ∧ w' = w := by
  go_enter Tryz.func15, Tryz.ntmps15
  go_wp2_with fail
  refine (parts_at x m e true _ hx.out fx.out pm'.out pe'.out hn.out).mono ?_
  rintro e w' ⟨rfl, rfl⟩
  go_wp2_with fail
  refine (greatI m e false _ e0 g.out).mono ?_
  rintro e w' ⟨rfl, rfl⟩
  go_wp2
  go_ret
  exact ⟨rfl, rfl⟩

set_option maxHeartbeats 1000000 in
theorem cBdntruegt (x : Nat) (most : Int) (w : World) (hx : Hid (x < 18446744073709551616)) (c0 : ¬ most < 0) (m1 : most ≤ 9223372036854775807) (hn : Hid (ng x = true)) (fx : Hid (mg x < 9218868437227405312)) (m : Nat) (pm' : Hid (pm x = m)) (e : Int) (pe' : Hid (pe x = e)) (k : Nat) (lm : Hid (okm m k)) (k1 : 1 ≤ k) (e1 : -5000 < e) (ek : -e = (k : Int)) (r : Nat) (hr : Hid (rne m (2 ^ k) = r)) (c : most < (r : Int))  :
    Calls Tryz.prog 15 #[.float .f64 x, .int .i64 most] w fun e w' => e = .returned (.int .i64 (-most)) ∧ w' = w := by
  go_enter Tryz.func15, Tryz.ntmps15
  go_wp2_with fail
  refine (parts_at x m e true _ hx.out fx.out pm'.out pe'.out hn.out).mono ?_
  rintro e w' ⟨rfl, rfl⟩
  go_wp2_with fail
  refine (near_at m k r _ lm.out k1 hr.out).mono ?_
  rintro e w' ⟨rfl, rfl⟩
  go_wp2
  go_ret
  exact ⟨rfl, rfl⟩

set_option maxHeartbeats 1000000 in
theorem cBuptruele (x : Nat) (most : Int) (w : World) (hx : Hid (x < 18446744073709551616)) (c0 : ¬ most < 0) (m1 : most ≤ 9223372036854775807) (hn : Hid (ng x = true)) (fx : Hid (mg x < 9218868437227405312)) (m : Nat) (pm' : Hid (pm x = m)) (e : Int) (pe' : Hid (pe x = e)) (e0 : 0 ≤ e) (e1 : e < 12) (g : Hid (gr m e.toNat = false)) (r : Nat) (hr : IntKind.u64.wrap ((m : Int) * 2 ^ e.toNat) = (r : Int)) (c : ¬ most < (r : Int)) (r1 : wrap64 (r : Int) = (r : Int))  :
    Calls Tryz.prog 15 #[.float .f64 x, .int .i64 most] w fun e w' => e = .returned (.int .i64 (-(r : Int))) ∧ w' = w := by
  go_enter Tryz.func15, Tryz.ntmps15
  go_wp2_with fail
  refine (parts_at x m e true _ hx.out fx.out pm'.out pe'.out hn.out).mono ?_
  rintro e w' ⟨rfl, rfl⟩
  go_wp2_with fail
  refine (greatI m e false _ e0 g.out).mono ?_
  rintro e w' ⟨rfl, rfl⟩
  go_wp2
  go_ret
  exact ⟨rfl, rfl⟩

set_option maxHeartbeats 1000000 in
theorem cBdntruele (x : Nat) (most : Int) (w : World) (hx : Hid (x < 18446744073709551616)) (c0 : ¬ most < 0) (m1 : most ≤ 9223372036854775807) (hn : Hid (ng x = true)) (fx : Hid (mg x < 9218868437227405312)) (m : Nat) (pm' : Hid (pm x = m)) (e : Int) (pe' : Hid (pe x = e)) (k : Nat) (lm : Hid (okm m k)) (k1 : 1 ≤ k) (e1 : -5000 < e) (ek : -e = (k : Int)) (r : Nat) (hr : Hid (rne m (2 ^ k) = r)) (c : ¬ most < (r : Int)) (_r1 : wrap64 (r : Int) = (r : Int))  :
    Calls Tryz.prog 15 #[.float .f64 x, .int .i64 most] w fun e w' => e = .returned (.int .i64 (-(r : Int))) ∧ w' = w := by
  go_enter Tryz.func15, Tryz.ntmps15
  go_wp2_with fail
  refine (parts_at x m e true _ hx.out fx.out pm'.out pe'.out hn.out).mono ?_
  rintro e w' ⟨rfl, rfl⟩
  go_wp2_with fail
  refine (near_at m k r _ lm.out k1 hr.out).mono ?_
  rintro e w' ⟨rfl, rfl⟩
  go_wp2
  go_ret
  exact ⟨rfl, rfl⟩

set_option maxHeartbeats 1000000 in
theorem cBnanfalse (x : Nat) (most : Int) (w : World) (hx : Hid (x < 18446744073709551616)) (c0 : ¬ most < 0) (_m1 : most ≤ 9223372036854775807) (hn : Hid (ng x = false)) (fx : Hid (isN x = true)) :
    Calls Tryz.prog 15 #[.float .f64 x, .int .i64 most] w fun e w' => e = .returned (.int .i64 (0)) ∧ w' = w := by
  go_enter Tryz.func15, Tryz.ntmps15
  go_wp2_with fail
  refine (parts_nat x false _ hx.out fx.out hn.out).mono ?_
  rintro e w' ⟨rfl, rfl⟩
  go_wp2
  go_ret
  exact ⟨rfl, rfl⟩

set_option maxHeartbeats 1000000 in
theorem cBinffalse (x : Nat) (most : Int) (w : World) (hx : Hid (x < 18446744073709551616)) (c0 : ¬ most < 0) (m1 : most ≤ 9223372036854775807) (hn : Hid (ng x = false)) (b : decide (most < (9223372036854775808 : Int)) = true) (fx : Hid (mg x = 9218868437227405312)) :
    Calls Tryz.prog 15 #[.float .f64 x, .int .i64 most] w fun e w' => e = .returned (.int .i64 (most)) ∧ w' = w := by
  go_enter Tryz.func15, Tryz.ntmps15
  go_wp2_with fail
  refine (parts_iat x false _ hx.out fx.out hn.out).mono ?_
  rintro e w' ⟨rfl, rfl⟩
  go_wp2
  go_ret
  exact ⟨rfl, rfl⟩

set_option maxHeartbeats 1000000 in
theorem cBgrfalse (x : Nat) (most : Int) (w : World) (hx : Hid (x < 18446744073709551616)) (c0 : ¬ most < 0) (m1 : most ≤ 9223372036854775807) (hn : Hid (ng x = false)) (b : decide (most < (9223372036854775808 : Int)) = true) (fx : Hid (mg x < 9218868437227405312)) (m : Nat) (pm' : Hid (pm x = m)) (e : Int) (pe' : Hid (pe x = e)) (e0 : 0 ≤ e) (g : Hid (gr m e.toNat = true)) :
    Calls Tryz.prog 15 #[.float .f64 x, .int .i64 most] w fun e w' => e = .returned (.int .i64 (most)) ∧ w' = w := by
  go_enter Tryz.func15, Tryz.ntmps15
  go_wp2_with fail
  refine (parts_at x m e false _ hx.out fx.out pm'.out pe'.out hn.out).mono ?_
  rintro e w' ⟨rfl, rfl⟩
  go_wp2_with fail
  refine (greatI m e true _ e0 g.out).mono ?_
  rintro e w' ⟨rfl, rfl⟩
  go_wp2
  go_ret
  exact ⟨rfl, rfl⟩

set_option maxHeartbeats 1000000 in
theorem cBupfalsegt (x : Nat) (most : Int) (w : World) (hx : Hid (x < 18446744073709551616)) (c0 : ¬ most < 0) (m1 : most ≤ 9223372036854775807) (hn : Hid (ng x = false)) (fx : Hid (mg x < 9218868437227405312)) (m : Nat) (pm' : Hid (pm x = m)) (e : Int) (pe' : Hid (pe x = e)) (e0 : 0 ≤ e) (e1 : e < 12) (g : Hid (gr m e.toNat = false)) (r : Nat) (hr : IntKind.u64.wrap ((m : Int) * 2 ^ e.toNat) = (r : Int)) (c : most < (r : Int))  :
    Calls Tryz.prog 15 #[.float .f64 x, .int .i64 most] w fun e w' => e = .returned (.int .i64 (most)) ∧ w' = w := by
  go_enter Tryz.func15, Tryz.ntmps15
  go_wp2_with fail
  refine (parts_at x m e false _ hx.out fx.out pm'.out pe'.out hn.out).mono ?_
  rintro e w' ⟨rfl, rfl⟩
  go_wp2_with fail
  refine (greatI m e false _ e0 g.out).mono ?_
  rintro e w' ⟨rfl, rfl⟩
  go_wp2
  go_ret
  exact ⟨rfl, rfl⟩

set_option maxHeartbeats 1000000 in
theorem cBdnfalsegt (x : Nat) (most : Int) (w : World) (hx : Hid (x < 18446744073709551616)) (c0 : ¬ most < 0) (m1 : most ≤ 9223372036854775807) (hn : Hid (ng x = false)) (fx : Hid (mg x < 9218868437227405312)) (m : Nat) (pm' : Hid (pm x = m)) (e : Int) (pe' : Hid (pe x = e)) (k : Nat) (lm : Hid (okm m k)) (k1 : 1 ≤ k) (e1 : -5000 < e) (ek : -e = (k : Int)) (r : Nat) (hr : Hid (rne m (2 ^ k) = r)) (c : most < (r : Int))  :
    Calls Tryz.prog 15 #[.float .f64 x, .int .i64 most] w fun e w' => e = .returned (.int .i64 (most)) ∧ w' = w := by
  go_enter Tryz.func15, Tryz.ntmps15
  go_wp2_with fail
  refine (parts_at x m e false _ hx.out fx.out pm'.out pe'.out hn.out).mono ?_
  rintro e w' ⟨rfl, rfl⟩
  go_wp2_with fail
  refine (near_at m k r _ lm.out k1 hr.out).mono ?_
  rintro e w' ⟨rfl, rfl⟩
  go_wp2
  go_ret
  exact ⟨rfl, rfl⟩

set_option maxHeartbeats 1000000 in
theorem cBupfalsele (x : Nat) (most : Int) (w : World) (hx : Hid (x < 18446744073709551616)) (c0 : ¬ most < 0) (m1 : most ≤ 9223372036854775807) (hn : Hid (ng x = false)) (fx : Hid (mg x < 9218868437227405312)) (m : Nat) (pm' : Hid (pm x = m)) (e : Int) (pe' : Hid (pe x = e)) (e0 : 0 ≤ e) (e1 : e < 12) (g : Hid (gr m e.toNat = false)) (r : Nat) (hr : IntKind.u64.wrap ((m : Int) * 2 ^ e.toNat) = (r : Int)) (c : ¬ most < (r : Int)) (r1 : wrap64 (r : Int) = (r : Int))  :
    Calls Tryz.prog 15 #[.float .f64 x, .int .i64 most] w fun e w' => e = .returned (.int .i64 ((r : Int))) ∧ w' = w := by
  go_enter Tryz.func15, Tryz.ntmps15
  go_wp2_with fail
  refine (parts_at x m e false _ hx.out fx.out pm'.out pe'.out hn.out).mono ?_
  rintro e w' ⟨rfl, rfl⟩
  go_wp2_with fail
  refine (greatI m e false _ e0 g.out).mono ?_
  rintro e w' ⟨rfl, rfl⟩
  go_wp2
  go_ret
  exact ⟨rfl, rfl⟩

set_option maxHeartbeats 1000000 in
theorem cBdnfalsele (x : Nat) (most : Int) (w : World) (hx : Hid (x < 18446744073709551616)) (c0 : ¬ most < 0) (m1 : most ≤ 9223372036854775807) (hn : Hid (ng x = false)) (fx : Hid (mg x < 9218868437227405312)) (m : Nat) (pm' : Hid (pm x = m)) (e : Int) (pe' : Hid (pe x = e)) (k : Nat) (lm : Hid (okm m k)) (k1 : 1 ≤ k) (e1 : -5000 < e) (ek : -e = (k : Int)) (r : Nat) (hr : Hid (rne m (2 ^ k) = r)) (c : ¬ most < (r : Int)) (_r1 : wrap64 (r : Int) = (r : Int))  :
    Calls Tryz.prog 15 #[.float .f64 x, .int .i64 most] w fun e w' => e = .returned (.int .i64 ((r : Int))) ∧ w' = w := by
  go_enter Tryz.func15, Tryz.ntmps15
  go_wp2_with fail
  refine (parts_at x m e false _ hx.out fx.out pm'.out pe'.out hn.out).mono ?_
  rintro e w' ⟨rfl, rfl⟩
  go_wp2_with fail
  refine (near_at m k r _ lm.out k1 hr.out).mono ?_
  rintro e w' ⟨rfl, rfl⟩
  go_wp2
  go_ret
  exact ⟨rfl, rfl⟩


theorem clamp_mag (x : Nat) (most : Int) (hx : x < 18446744073709551616) (fx : mg x < 9218868437227405312) (hm : clampM most ≤ 9223372036854775807) :
    clampB x most = if ng x then -(min ((cutq .even (ng x) (mv (mg x)) one : Nat) : Int) (clampM most)) else min ((cutq .even (ng x) (mv (mg x)) one : Nat) : Int) (clampM most) := by
  have n : isN x = false := isN_false.2 (by omega)
  have m0 := clampM_nonneg most
  obtain ⟨k1, k2⟩ := cOk_wk .even x fx
  have hg := fgt_zero x hx n
  unfold clampB
  rw [n, if_neg (by decide), k1, k2, hg]
  have hM : mg x = 0 → cutq .even (ng x) (mv (mg x)) one = 0 := by
    intro h
    rw [h, mv_zero]
    have := cutq_mul .even (ng x) 0 one one_pos
    rwa [Nat.zero_mul] at this
  generalize cutq .even (ng x) (mv (mg x)) one = M at *
  unfold wi wk rk
  cases hn : ng x
  · simp only [Bool.false_eq_true, if_false]
    by_cases c : M < 9223372036854775808
    · rw [decide_eq_true c, if_pos rfl, if_pos rfl]; omega
    · rw [decide_eq_false c, if_neg (by decide)]
      have : 0 < mg x := by
        by_cases z : mg x = 0
        · have := hM z; omega
        · omega
      rw [decide_eq_true (by omega), if_pos rfl]; omega
  · simp only [if_true]
    by_cases c : M ≤ 9223372036854775808
    · rw [decide_eq_true c, if_pos rfl, if_pos rfl]; omega
    · rw [decide_eq_false c, if_neg (by decide), decide_eq_false (by omega), if_neg (by decide)]; omega

theorem refClamp_at (x : Nat) (most r : Int) (w : World) (hx : x < 18446744073709551616) (m1 : most ≤ 9223372036854775807) (hr : clampB x most = r) :
    Calls Tryz.prog 15 #[.float .f64 x, .int .i64 most] w fun e w' => e = .returned (.int .i64 r) ∧ w' = w := by
  subst hr
  have m0 := clampM_nonneg most
  have hm1 : clampM most ≤ 9223372036854775807 := by unfold clampM; split <;> omega
  have mA : most < 0 → clampM most = 0 := by intro h; unfold clampM; rw [if_pos h]
  have mB : ¬ most < 0 → clampM most = most := by intro h; unfold clampM; rw [if_neg h]
  cases n : isN x
  · have hle := isN_false.1 n
    by_cases fx : mg x < 9218868437227405312
    · have hc := clamp_mag x most hx fx hm1
      have lm := pm_lt x
      by_cases h : 0 ≤ pe x
      · rw [cut_up .even x h] at hc
        cases g : gr (pm x) (pe x).toNat
        · obtain ⟨e1, l⟩ := gr_false x h g
          have hw := wrap_pow (pm x) (pe x).toNat _ rfl (show pm x * 2 ^ (pe x).toNat < 18446744073709551616 by omega)
          generalize pm x * 2 ^ (pe x).toNat = M at *
          by_cases c0 : most < 0
          · rw [mA c0] at hc
            cases hn : ng x
            · rw [hn] at hc
              by_cases c : 0 < M
              · have e : clampB x most = 0 := by rw [hc]; simp; omega
                rw [e]; exact cAupfalsegt x most w hx c0 hn fx _ rfl _ rfl h e1 g M hw (by omega)
              · have e : clampB x most = 0 := by rw [hc]; simp; omega
                rw [e]; exact cAupfalsele x most w hx c0 hn fx _ rfl _ rfl h e1 g M hw (by omega)
            · rw [hn] at hc
              by_cases c : 0 < M
              · have e : clampB x most = 0 := by rw [hc]; simp; omega
                rw [e]; exact cAuptruegt x most w hx c0 hn fx _ rfl _ rfl h e1 g M hw (by omega)
              · have e : clampB x most = 0 := by rw [hc]; simp; omega
                rw [e]; exact cAuptruele x most w hx c0 hn fx _ rfl _ rfl h e1 g M hw (by omega)
          · rw [mB c0] at hc
            cases hn : ng x
            · rw [hn] at hc
              by_cases c : most < (M : Int)
              · have e : clampB x most = most := by rw [hc]; simp; omega
                rw [e]; exact cBupfalsegt x most w hx c0 m1 hn fx _ rfl _ rfl h e1 g M hw c
              · have e : clampB x most = (M : Int) := by rw [hc]; simp; omega
                rw [e]; exact cBupfalsele x most w hx c0 m1 hn fx _ rfl _ rfl h e1 g M hw c (by unfold wrap64; omega)
            · rw [hn] at hc
              by_cases c : most < (M : Int)
              · have e : clampB x most = -most := by rw [hc]; simp; omega
                rw [e]; exact cBuptruegt x most w hx c0 m1 hn fx _ rfl _ rfl h e1 g M hw c
              · have e : clampB x most = -(M : Int) := by rw [hc]; simp; omega
                rw [e]; exact cBuptruele x most w hx c0 m1 hn fx _ rfl _ rfl h e1 g M hw c (by unfold wrap64; omega)
        · have l := gr_true x h g
          generalize pm x * 2 ^ (pe x).toNat = M at *
          by_cases c0 : most < 0
          · rw [mA c0] at hc
            cases hn : ng x
            · rw [hn] at hc
              have e : clampB x most = 0 := by rw [hc]; simp <;> omega
              rw [e]; exact cAgrfalse x most w hx c0 hn fx _ rfl _ rfl h g
            · rw [hn] at hc
              have e : clampB x most = 0 := by rw [hc]; simp <;> omega
              rw [e]; exact cAgrtrue x most w hx c0 hn fx _ rfl _ rfl h g
          · rw [mB c0] at hc
            cases hn : ng x
            · rw [hn] at hc
              have e : clampB x most = most := by rw [hc]; simp <;> omega
              rw [e]; exact cBgrfalse x most w hx c0 m1 hn (decide_eq_true (by omega)) fx _ rfl _ rfl h g
            · rw [hn] at hc
              have e : clampB x most = -most := by rw [hc]; simp <;> omega
              rw [e]; exact cBgrtrue x most w hx c0 m1 hn (decide_eq_true (by omega)) fx _ rfl _ rfl h g
      · have hg := pe_ge x
        obtain ⟨k, hk⟩ : ∃ k : Nat, pe x = -(k : Int) := ⟨(-pe x).toNat, by omega⟩
        rw [cut_dn .even x k hk, cutq_even] at hc
        obtain ⟨M, hM⟩ : ∃ M, rne (pm x) (2 ^ k) = M := ⟨_, rfl⟩
        rw [hM] at hc
        by_cases c0 : most < 0
        · rw [mA c0] at hc
          cases hn : ng x
          · rw [hn] at hc
            by_cases c : 0 < M
            · have e : clampB x most = 0 := by rw [hc]; simp; omega
              rw [e]; exact cAdnfalsegt x most w hx c0 hn fx _ rfl _ rfl k (okm_of _ _ (by omega)) (by omega) (by omega) (by omega) M hM (by omega)
            · have e : clampB x most = 0 := by rw [hc]; simp; omega
              rw [e]; exact cAdnfalsele x most w hx c0 hn fx _ rfl _ rfl k (okm_of _ _ (by omega)) (by omega) (by omega) (by omega) M hM (by omega)
          · rw [hn] at hc
            by_cases c : 0 < M
            · have e : clampB x most = 0 := by rw [hc]; simp; omega
              rw [e]; exact cAdntruegt x most w hx c0 hn fx _ rfl _ rfl k (okm_of _ _ (by omega)) (by omega) (by omega) (by omega) M hM (by omega)
            · have e : clampB x most = 0 := by rw [hc]; simp; omega
              rw [e]; exact cAdntruele x most w hx c0 hn fx _ rfl _ rfl k (okm_of _ _ (by omega)) (by omega) (by omega) (by omega) M hM (by omega)
        · rw [mB c0] at hc
          cases hn : ng x
          · rw [hn] at hc
            by_cases c : most < (M : Int)
            · have e : clampB x most = most := by rw [hc]; simp; omega
              rw [e]; exact cBdnfalsegt x most w hx c0 m1 hn fx _ rfl _ rfl k (okm_of _ _ (by omega)) (by omega) (by omega) (by omega) M hM c
            · have e : clampB x most = (M : Int) := by rw [hc]; simp; omega
              rw [e]; exact cBdnfalsele x most w hx c0 m1 hn fx _ rfl _ rfl k (okm_of _ _ (by omega)) (by omega) (by omega) (by omega) M hM c (by unfold wrap64; omega)
          · rw [hn] at hc
            by_cases c : most < (M : Int)
            · have e : clampB x most = -most := by rw [hc]; simp; omega
              rw [e]; exact cBdntruegt x most w hx c0 m1 hn fx _ rfl _ rfl k (okm_of _ _ (by omega)) (by omega) (by omega) (by omega) M hM c
            · have e : clampB x most = -(M : Int) := by rw [hc]; simp; omega
              rw [e]; exact cBdntruele x most w hx c0 m1 hn fx _ rfl _ rfl k (okm_of _ _ (by omega)) (by omega) (by omega) (by omega) M hM c (by unfold wrap64; omega)
    · have fi : mg x = 9218868437227405312 := by omega
      have o : cOk .even x = false := by unfold cOk fin; rw [decide_eq_false fx]; rfl
      have hg := fgt_zero x hx n
      have hc : clampB x most = if ng x then -clampM most else clampM most := by
        unfold clampB
        rw [n, if_neg (by decide), o, if_neg (by decide), hg]
        unfold rk; rw [fi]
        cases ng x <;> simp
      by_cases c0 : most < 0
      · rw [mA c0] at hc
        cases hn : ng x
        · rw [hn] at hc
          have e : clampB x most = 0 := by rw [hc]; simp <;> omega
          rw [e]; exact cAinffalse x most w hx c0 hn fi
        · rw [hn] at hc
          have e : clampB x most = 0 := by rw [hc]; simp <;> omega
          rw [e]; exact cAinftrue x most w hx c0 hn fi
      · rw [mB c0] at hc
        cases hn : ng x
        · rw [hn] at hc
          have e : clampB x most = most := by rw [hc]; simp <;> omega
          rw [e]; exact cBinffalse x most w hx c0 m1 hn (decide_eq_true (by omega)) fi
        · rw [hn] at hc
          have e : clampB x most = -most := by rw [hc]; simp <;> omega
          rw [e]; exact cBinftrue x most w hx c0 m1 hn (decide_eq_true (by omega)) fi
  · have e : clampB x most = 0 := by unfold clampB; rw [n]; rfl
    rw [e]
    by_cases c0 : most < 0
    · cases hn : ng x
      · exact cAnanfalse x most w hx c0 hn n
      · exact cAnantrue x most w hx c0 hn n
    · cases hn : ng x
      · exact cBnanfalse x most w hx c0 m1 hn n
      · exact cBnantrue x most w hx c0 m1 hn n
end Go.Proofs.YtomenbbhdnfciaaGreatDoor.Ref2

namespace Go.Proofs.YtomenbbhdnfciaaGreatDoor.Ref2
open Go.RowKit Tf
attribute [local go_sem] run_bits run_from raw_feq raw_fne raw_flt raw_fgt run_neg

/-- how many bits -/
def bl (m : Nat) : Nat := if m = 0 then 0 else m.log2 + 1
end Go.Proofs.YtomenbbhdnfciaaGreatDoor.Ref2

namespace Go.Proofs.YtomenbbhdnfciaaGreatDoor.Ref2
open Go.RowKit Tf
attribute [local go_sem] run_bits run_from raw_feq raw_fne raw_flt raw_fgt run_neg

theorem rung_none (p d : Nat) : rung p d 0 = 0 := by unfold rung rne; simp
end Go.Proofs.YtomenbbhdnfciaaGreatDoor.Ref2

namespace Go.Proofs.YtomenbbhdnfciaaGreatDoor
open Go.RowKit Tf Cu
attribute [local go_sem] run_bits run_from raw_feq raw_fne raw_flt raw_fgt run_neg run_store_float
def fU (f : Nat) : Int := [3, 3, 3, 3, -1, 1].getD f 0
end Go.Proofs.YtomenbbhdnfciaaGreatDoor

namespace Go.Proofs.YtomenbbhdnfciaaGreatDoor
open Go.RowKit Cu Tf
attribute [local go_sem] run_store_float
/-- the document's net of side n lies in block rb -/
def RefOf (n rb : Nat) (w : World) : Prop := ∃ ab eb cap, w.heap[rb]? = some (.cells #[.int .i64 n, .slice (some ⟨eb, 0, none⟩) (12 * n * n) cap, .slice (some ⟨ab, 0, none⟩) (24 * n * n) (24 * n * n)] 69) ∧ EG w n eb ∧ w.rowIs ab 3 (24 * n * n) (fun t => .int .i64 (eE n t : Nat))
theorem RefOf.to {n rb : Nat} {w w' : World} (h : RefOf n rb w) (a : Ab w w') : RefOf n rb w' := by
  obtain ⟨ab, eb, cap, h1, h2, h3⟩ := h
  exact ⟨ab, eb, cap, a.heap h1, h2.to a, rowIs.ab h3 a⟩
theorem RE.all {B n rb ab : Nat} {es : Value} {w : World} (hn : 1 ≤ n) (h : RE B n (24 * n * n) (24 * n * n) rb ab es w) : RefOf n rb w := by
  obtain ⟨h1, h2, h3, h4, h5, h6⟩ := h
  have hh := h2
  have hpos : 0 < 12 * n * n := Nat.mul_pos (by omega) (by omega)
  rw [eN_all hn] at hh
  rcases hh.2 with ⟨rfl, h0⟩ | ⟨g, cap, cur, rfl, hb, hg, k1, k2, k3, k4⟩
  · omega
  · refine ⟨ab, g, cap, h1, ⟨lt_of_block hg, fun t ht hl => ?_⟩, h3.congr (fun t ht => by rw [rA_end hn ht])⟩
    have hc : ∀ j < 4, ∀ u, (edV n t)[j]? = some u → w.cell? ⟨g, eN n t * 4 + j, none⟩ = some u := by
      intro j hj u hu
      have := hh.cells (g := g) rfl (eN n t * 4 + j) u (by rw [edL_at ht hl hj]; exact hu)
      have ha : (⟨g, 0, none⟩ : Addr).add (eN n t * 4 + j) = ⟨g, eN n t * 4 + j, none⟩ := by unfold Addr.add; split <;> simp_all
      rwa [ha] at this
    exact ⟨hc 0 (by omega) _ rfl, hc 1 (by omega) _ rfl, hc 2 (by omega) _ rfl, hc 3 (by omega) _ rfl⟩
end Go.Proofs.YtomenbbhdnfciaaGreatDoor

namespace Go.Proofs.YtomenbbhdnfciaaGreatDoor
open Go.RowKit Cu Tf
attribute [local go_sem] run_store_float
theorem RefOf.c0 {n rb : Nat} {w : World} (h : RefOf n rb w) : w.cell? ⟨rb, 0, none⟩ = some (.int .i64 n) := by
  obtain ⟨ab, eb, cap, h1, -⟩ := h
  exact cell_of_row _ _ 0 _ _ _ h1
end Go.Proofs.YtomenbbhdnfciaaGreatDoor

namespace Go.Proofs.YtomenbbhdnfciaaGreatDoor
open Go.ChangeShapes Go.WideShapes Go.ChangeAt Go.WideMaps Go.WideElems Go.RowKit Go.Deep
/-- a list of whole numbers lies there -/
def IsIn (w : World) (a0 : Option Addr) (len : Nat) (xs : Nat → Int) : Prop := ∀ k, k < len → (-9223372036854775808 ≤ xs k ∧ xs k ≤ 9223372036854775807) ∧ ∃ b o, a0 = some ⟨b, o, none⟩ ∧ b < w.heap.size ∧ w.cell? ⟨b, o + k, none⟩ = some (.int .i64 (xs k))
theorem IsIn.below {w w' : World} {a0 : Option Addr} {len : Nat} {xs : Nat → Int} (h : IsIn w a0 len xs) (hb : Below w.heap.size w w') : IsIn w' a0 len xs := by
  intro k hk
  obtain ⟨h1, b, o, h2, h3, h4⟩ := h k hk
  exact ⟨h1, b, o, h2, Nat.lt_of_lt_of_le h3 hb.size, by rw [hb.cell (p := ⟨b, o + k, none⟩) h3]; exact h4⟩
/-- a sea's lists, as a walk is told of them -/
structure SeaAt (w : World) (pb : Option Addr) (lb cb : Nat) (B : Nat → Nat) (pw : Option Addr) (lw cw : Nat) (Wt : Nat → Int) (pt : Option Addr) (lt ct : Nat) (Tr : Nat → Int) (ps : Option Addr) (ls cs : Nat) (Sp : Nat → Nat) : Prop where
  bed : IsFl w pb lb B
  water : IsIn w pw lw Wt
  tracer : IsIn w pt lt Tr
  speed : IsFl w ps ls Sp
  lens : (lb ≤ cb ∧ cb ≤ maxLen) ∧ (lw ≤ cw ∧ cw ≤ maxLen) ∧ (lt ≤ ct ∧ ct ≤ maxLen) ∧ (ls ≤ cs ∧ cs ≤ maxLen)
theorem SeaAt.to {w w' : World} {pb : Option Addr} {lb cb : Nat} {B : Nat → Nat} {pw : Option Addr} {lw cw : Nat} {Wt : Nat → Int} {pt : Option Addr} {lt ct : Nat} {Tr : Nat → Int} {ps : Option Addr} {ls cs : Nat} {Sp : Nat → Nat} (h : SeaAt w pb lb cb B pw lw cw Wt pt lt ct Tr ps ls cs Sp) (a : Ab w w') : SeaAt w' pb lb cb B pw lw cw Wt pt lt ct Tr ps ls cs Sp :=
  ⟨h.bed.below a, h.water.below a, h.tracer.below a, h.speed.below a, h.lens⟩
end Go.Proofs.YtomenbbhdnfciaaGreatDoor

namespace Go.Proofs.YtomenbbhdnfciaaGreatDoor
open Go.RowKit Go.Deep
theorem size1 (W : World) (A : Obj) : (W.alloc A).heap.size = W.heap.size + 1 := by
  show (W.heap.push A).size = _
  simp
theorem made_row {v : World} {g n : Nat} {z : Value} {T : TypeId} (h : v.heap[g]? = some (Obj.cells (madeCells #[z] n) T)) : v.rowIs g T n (fun _ => z) := by
  have e := World.rowIs_made v z n T
  have l := heap_alloc_new v (Obj.cells (madeCells #[z] n) T)
  obtain ⟨c, h1, h2⟩ := e
  rw [l] at h1
  exact ⟨c, h.trans h1, h2⟩
theorem row6 {w : World} {g : Nat} {a b c d e f x y z p q r : Value} {T : TypeId} (h : w.heap[g]? = some (.cells #[a, b, c, d, e, f] T)) :
    ((((((w.setCell ⟨g, 0, none⟩ x).setCell ⟨g, 1, none⟩ y).setCell ⟨g, 2, none⟩ z).setCell ⟨g, 3, none⟩ p).setCell ⟨g, 4, none⟩ q).setCell ⟨g, 5, none⟩ r).heap[g]? = some (.cells #[x, y, z, p, q, r] T) := by
  have h1 := one_set (v := x) (k := 0) h
  have h2 := one_set (v := y) (k := 1) h1
  have h3 := one_set (v := z) (k := 2) h2
  have h4 := one_set (v := p) (k := 3) h3
  have h5 := one_set (v := q) (k := 4) h4
  have h6 := one_set (v := r) (k := 5) h5
  simpa using h6
theorem heap_set_ne {v : World} {b k g : Nat} {x : Value} (h : g ≠ b) : (v.setCell ⟨b, k, none⟩ x).heap[g]? = v.heap[g]? := blk_setCell_other _ _ _ _ h
end Go.Proofs.YtomenbbhdnfciaaGreatDoor

namespace Go.Proofs.YtomenbbhdnfciaaGreatDoor
open Go.RowKit Tf Cu Go.Deep
/-- a sea of the call's own in block g, its lists in blocks bB and bW: fb and fw lie there -/
def OwnSea (W : World) (g bB bW M : Nat) (r : Array Value) (fb : Nat → Nat) (fw : Nat → Int) (v : World) : Prop :=
  Ab W v ∧ v.heap[g]? = some (.cells r 35) ∧ v.rowIs bB 24 M (fun i => .float .f64 (fb i)) ∧ v.rowIs bW 2 M (fun i => .int .i64 (fw i))
theorem OwnSea.to {W : World} {g bB bW M : Nat} {r : Array Value} {fb : Nat → Nat} {fw : Nat → Int} {v v' : World} (h : OwnSea W g bB bW M r fb fw v) (a : Ab v v') : OwnSea W g bB bW M r fb fw v' :=
  ⟨h.1.trans a, a.heap h.2.1, rowIs.ab h.2.2.1 a, rowIs.ab h.2.2.2 a⟩
end Go.Proofs.YtomenbbhdnfciaaGreatDoor

namespace Go.Proofs.YtomenbbhdnfciaaGreatDoor
open Go.RowKit
/-- each of the first n operations waits for earlier ones alone, and asks earlier ones alone whether it is wanted -/
def backB (md : Region.Mode) (ops : Array Oper) (n : Nat) : Bool :=
  (List.range n).all fun i => match ops[i]? with
    | some o => o.after.all (fun e => !Region.binds md e || decide (e.on < i)) && (match o.guard with | none => true | some (j, _) => decide (j < n))
    | none => true
/-- the first n are done, no other -/
def finA (m n : Nat) : Array Bool := Array.replicate n true ++ Array.replicate (m - n) false
theorem back_spec {md : Region.Mode} {ops : Array Oper} {n : Nat} (h : backB md ops n = true) {i : Nat} {o : Oper} (hi : i < n) (ho : ops[i]? = some o) :
    (∀ e ∈ o.after, Region.binds md e = true → e.on < i) ∧ (∀ j b, o.guard = some (j, b) → j < n) := by
  have a := List.all_eq_true.1 h i (List.mem_range.2 hi)
  simp only [ho, Bool.and_eq_true] at a
  refine ⟨fun e he hb => ?_, fun j b hg => ?_⟩
  · have := Array.all_eq_true_iff_forall_mem.1 a.1 e he
    simpa [hb] using this
  · have := a.2
    rw [hg] at this
    simpa using this
theorem getD_tf {l : Array Bool} {i : Nat} (h : i < l.size) (d d' : Bool) : l.getD i d = l.getD i d' := by simp [h]
theorem wpAny_more {P : Program} {md : Region.Mode} {ops : Array Oper} {Q : Exit → Act → World → Prop} : ∀ (g k : Nat) (listed : Array Bool) (a : Act) (w : World), wpAny P md ops Q g listed a w → wpAny P md ops Q (g + k) listed a w
  | 0, 0, _, _, _, h => h
  | 0, k + 1, listed, a, w, h => by
    rw [Nat.zero_add]
    exact ⟨fun _ => h.2, fun i hi => by rw [h.1] at hi; cases hi⟩
  | g + 1, k, listed, a, w, h => by
    rw [show g + 1 + k = (g + k) + 1 by omega]
    exact ⟨h.1, fun i hi => wpOp_mono (fun a' w' h' => wpAny_more g k _ a' w' h') (h.2 i hi)⟩
section
variable {P : Program} {md : Region.Mode} {ops hd : Array Oper} {C : World → Prop} {n : Nat}
theorem ready_head (hhd : ∀ i, i < n → hd[i]? = ops[i]?) (hb : backB md ops n = true) {listed lh : Array Bool} (hl : lh.size = n) (hls : n ≤ listed.size) (he : ∀ i, i < n → lh.getD i true = listed.getD i true) {i : Nat} (hi : i < n) :
    i ∈ Region.ready md hd lh ↔ i ∈ Region.ready md ops listed := by
  rw [mem_ready, mem_ready, he i hi, hhd i hi]
  refine and_congr Iff.rfl (exists_congr fun o => and_congr_right fun ho => forall_congr' fun e => forall_congr' fun hm => forall_congr' fun hbd => ?_)
  have lt := (back_spec hb hi ho).1 e hm hbd
  rw [getD_tf (d := false) (d' := true) (by omega), getD_tf (l := listed) (d := false) (d' := true) (by omega), he _ (by omega)]
theorem some_ready (hsz : n ≤ ops.size) (hb : backB md ops n = true) {listed : Array Bool} (hls : n ≤ listed.size) :
    (∀ i, i < n → listed.getD i true = true) ∨ ∃ i, i < n ∧ i ∈ Region.ready md ops listed := by
  have key : ∀ k, k ≤ n → (∀ i, i < k → listed.getD i true = true) ∨ ∃ i, i < n ∧ i ∈ Region.ready md ops listed := by
    intro k
    induction k with
    | zero => exact fun _ => .inl (fun i hi => by omega)
    | succ k ih =>
      intro hk
      rcases ih (by omega) with h | h
      · cases c : listed.getD k true
        · right
          refine ⟨k, by omega, mem_ready.2 ⟨c, ops[k]'(by omega), by simp, fun e he hbd => ?_⟩⟩
          have lt := (back_spec hb (i := k) (o := ops[k]'(by omega)) (by omega) (by simp)).1 e he hbd
          rw [getD_tf (d := false) (d' := true) (by omega)]
          exact h _ lt
        · left
          intro i hi
          by_cases e : i = k
          · rw [e]; exact c
          · exact h i (by omega)
      · exact .inr h
  exact key n (Nat.le_refl _)
theorem qOp_head (hhd : ∀ i, i < n → hd[i]? = ops[i]?) (hb : backB md ops n = true) {i : Nat} (hi : i < n) {K : Act → Prop} {a : Act} (h : qOp P hd C i K a) : qOp P ops C i K a := by
  unfold qOp at *
  rw [hhd i hi] at h
  cases ho : ops[i]? with
  | none => rw [ho] at h; exact h
  | some o =>
    rw [ho] at h
    have e : Region.wanted o (yielded hd a.tmps) = Region.wanted o (yielded ops a.tmps) := by
      unfold Region.wanted
      cases hg : o.guard with
      | none => rfl
      | some jb =>
        obtain ⟨j, b⟩ := jb
        have lt := (back_spec hb hi ho).2 j b hg
        show (yielded hd a.tmps j == some b) = (yielded ops a.tmps j == some b)
        unfold yielded
        rw [hhd j lt]
    simp only [e] at h
    exact h
theorem fin_of {listed : Array Bool} (hn : n < ops.size) (inv : HeadInv md ops n listed) (h : ∀ i, i < n → listed.getD i true = true) : listed = finA ops.size n := by
  have s := inv.size
  unfold finA
  refine Array.ext (by simp; omega) fun i h1 h2 => ?_
  by_cases c : i < n
  · have := h i c
    rw [Array.getElem_append_left (by simpa using c)]
    simp [h1] at this
    simpa using this
  · have := inv.tail i (by omega) (by omega)
    rw [Array.getElem_append_right (by simp; omega)]
    simp [h1] at this
    simpa using this
theorem wpAny_of_headQ {g : Nat} {Q1 : Act → Prop} {Q' : Exit → Act → World → Prop} (hhd : ∀ i, i < n → hd[i]? = ops[i]?) (hsz : hd.size = n) (hn : n < ops.size) (hb : backB md ops n = true) (hs : Region.sinkB md ops n = true) (hc : Region.chainB md ops n = true)
    (hL : ∀ a w, C w → Q1 a → wpAny P md ops Q' g (finA ops.size n) a w) :
    ∀ (fuel : Nat) (listed lh : Array Bool) (a : Act) (w : World), C w → HeadInv md ops n listed → lh.size = n → (∀ i, i < n → lh.getD i true = listed.getD i true) →
      wpAnyQ P md hd C Q1 fuel lh a → wpAny P md ops Q' (fuel + g) listed a w := by
  intro fuel
  induction fuel with
  | zero =>
    intro listed lh a w hC inv hl he h
    have hls : n ≤ listed.size := by rw [inv.size]; omega
    rcases some_ready (by omega) hb hls with all | ⟨i, hi, hr⟩
    · rw [Nat.zero_add, fin_of hn inv all]
      exact hL a w hC h.2
    · have := (ready_head hhd hb hl hls he hi).2 hr
      rw [h.1] at this
      cases this
  | succ fuel ih =>
    intro listed lh a w hC inv hl he h
    have hls : n ≤ listed.size := by rw [inv.size]; omega
    rcases some_ready (by omega) hb hls with all | ⟨i0, hi0, hr0⟩
    · have no : Region.ready md hd lh = [] := by
        rw [List.eq_nil_iff_forall_not_mem]
        intro i hi
        obtain ⟨u, o, ho, _⟩ := mem_ready.1 hi
        have lt : i < n := by rw [← hsz]; exact (Array.getElem?_eq_some_iff.1 ho).1
        rw [he i lt, all i lt] at u
        cases u
      rw [Nat.add_comm (fuel + 1) g, fin_of hn inv all]
      exact wpAny_more g (fuel + 1) _ a w (hL a w hC (h.1 no))
    · rw [show fuel + 1 + g = (fuel + g) + 1 by omega]
      refine ⟨fun h0 => (by rw [h0] at hr0; cases hr0), fun i hi => ?_⟩
      have lt : i < n := by
        by_cases c : i < n
        · exact c
        · exact absurd hi (tail_waits hs hc hn inv _ i0 rfl hi0 (mem_ready.1 hr0).1 i (by omega))
      have hq := qOp_head hhd hb lt (h.2 i ((ready_head hhd hb hl hls he lt).2 hi))
      refine wpOp_of_qOp hC (fun a' w' hC' h' => ih _ _ a' w' hC' (inv.set hi lt) (by simp [hl]) (fun j hj => ?_) h') hq
      by_cases e : i = j
      · subst e
        simp [hl, lt, show i < listed.size by omega]
      · rw [getD_set_ne true e, getD_set_ne true e, he j hj]
end
/-- what is asked of the region's text -/
def tailB (ops : Array Oper) (n : Nat) : Bool :=
  decide (n < ops.size) && backB .any ops n && Region.sinkB .any ops n && Region.chainB .any ops n && Region.seqB .any ops (ops.size - n) n (finA ops.size n)
theorem region_tail {P : Program} {id : Nat} {Q : Exit → Act → World → Prop} {a : Act} {w : World} {l : List Oper} {U : Type} (n : Nat) (F : U → World) (hm : P.follows .mixedOrders = true) (hB : Region.lexB .any (l.take n).toArray = true) (hT : tailB l.toArray n = true)
    (hC : ∃ u, w.drew = F u)
    (h : wpQuiet P (l.take n).toArray (fun w' => ∃ u, w' = F u) (fun a' => ∀ w', (∃ u, w' = F u) → wpList P l.toArray Q (l.drop n) a' w') (l.take n) a) : (Code.region id l.toArray true).wp P Q a w := by
  simp only [tailB, Bool.and_eq_true, decide_eq_true_eq] at hT
  obtain ⟨⟨⟨⟨hn, hb⟩, hs⟩, hc⟩, hq⟩ := hT
  have hn' : n < l.length := by simpa using hn
  have htl : (l.take n).toArray.size = n := by simp; omega
  have hdl : (l.drop n).length = l.toArray.size - n := by simp
  refine wp_region_any hm ?_
  simp only [Region.lexB, Bool.and_eq_true] at hB
  have H := wpAnyQ_lex (P := P) (C := fun w' => ∃ u, w' = F u) (md := .any) hB.1 (l.take n) 0 (Array.replicate (l.take n).toArray.size false) a (by simp) (by simpa using hB.2) h
  have inv0 : HeadInv .any l.toArray n (Array.replicate l.toArray.size false) :=
    ⟨by simp, fun j oj _ hl => (by rw [getD_replicate_false] at hl; cases hl), fun t _ ht => getD_in (by simpa using ht) (getD_replicate_false _ _)⟩
  have := wpAny_of_headQ (P := P) (Q' := Q) (g := l.toArray.size - n) (hd := (l.take n).toArray) (ops := l.toArray) (fun i hi => by simp [hi]) htl hn hb hs hc
    (fun a' w' hC' h' => by
      have := wpAny_of_seq (P := P) (md := .any) (ops := l.toArray) (Q' := Q) (l.drop n) n (finA l.toArray.size n) a' w' (fun j => by simp) (by rw [hdl]; exact hq) (h' w' hC')
      rwa [hdl] at this)
    (l.take n).length _ _ a w.drew hC inv0 (by simpa using htl) (fun i hi => by
      rw [getD_in (listed := Array.replicate l.toArray.size false) (by simp; omega) (getD_replicate_false _ _)]
      exact getD_in (by rw [Array.size_replicate]; omega) (getD_replicate_false _ _)) H
  have e : (l.take n).length + (l.toArray.size - n) = l.toArray.size := by simp; omega
  rw [e] at this
  exact this
end Go.Proofs.YtomenbbhdnfciaaGreatDoor
