/-
  Some of the texts of this proof, one behind the other.
-/
import Derived.Test.YtdigecacmibkpaaGreatDoorSq12
set_option maxRecDepth 100000
set_option maxHeartbeats 400000000
namespace Go.Proofs.YtdigecacmibkpaaGreatDoor.Ref2
open Go.RowKit Tf
attribute [local go_sem] run_bits run_from raw_feq raw_fne raw_flt raw_fgt run_neg
theorem cut_up (way : Ieee.Toward) (x : Nat) (h : 0 <= pe x) : cutq way (ng x) (mv (mg x)) one = pm x * 2 ^ (pe x).toNat := by
  have hK := K_eq
  have e : (pe x + 1074).toNat = (pe x).toNat + K := by omega
  rw [mv_parts, e, Nat.pow_add, <- Nat.mul_assoc, <- one_pow, cutq_mul _ _ _ _ one_pos]
theorem cut_dn (way : Ieee.Toward) (x k : Nat) (h : pe x = -(k : Int)) : cutq way (ng x) (mv (mg x)) one = cutq way (ng x) (pm x) (2 ^ k) := by
  have hK := K_eq
  have hg := pe_ge x
  have e : (pe x + 1074).toNat = K - k := by omega
  have e2 : one = 2 ^ k * 2 ^ (K - k) := by rw [one_pow, <- Nat.pow_add]; congr 1; omega
  rw [mv_parts, e, e2, cutq_scale _ _ _ _ _ (pow_pos _)]
theorem cOk_wk (way : Ieee.Toward) (x : Nat) (fx : mg x < 9218868437227405312) : cOk way x = wk (ng x) (cutq way (ng x) (mv (mg x)) one) /\ cI way x = wi (ng x) (cutq way (ng x) (mv (mg x)) one) := by
  have e : cOk way x = wk (ng x) (cutq way (ng x) (mv (mg x)) one) := by
    unfold cOk wk cq fin
    rw [decide_eq_true fx, Bool.true_and]
    generalize cutq way (ng x) (mv (mg x)) one = M
    cases ng x
    · simp only [Bool.false_eq_true, if_false]
      rw [decide_eq_true (by omega), Bool.true_and]
      exact decide_eq_decide.2 (by omega)
    · simp only [if_true]
      rw [show decide (-(M : Int) < 9223372036854775808) = true from decide_eq_true (by omega), Bool.and_true]
      exact decide_eq_decide.2 (by omega)
  refine ⟨e, ?_⟩
  unfold cI wi
  rw [e]
  rfl
theorem pm_great (x : Nat) (h : 0 <= pe x) : 4503599627370496 <= pm x := by
  unfold pm pe at *
  by_cases c : mg x / 4503599627370496 = 0
  · rw [if_pos c] at h; omega
  · rw [if_neg c]; omega
theorem gr_true (x : Nat) (h : 0 <= pe x) (g : gr (pm x) (pe x).toNat = true) : 9223372036854775808 < pm x * 2 ^ (pe x).toNat := by
  have h1 := pm_great x h
  unfold gr at g
  simp only [Bool.and_eq_true, Bool.or_eq_true, decide_eq_true_eq] at g
  generalize (pe x).toNat = k at *
  rcases g.2 with c | c
  · have : 2 ^ 12 <= 2 ^ k := Nat.pow_le_pow_right (by omega) (by omega)
    have := Nat.mul_le_mul h1 this
    omega
  · exact (Nat.div_lt_iff_lt_mul (pow_pos k)).1 c
theorem gr_false (x : Nat) (h : 0 <= pe x) (g : gr (pm x) (pe x).toNat = false) : pe x < 12 /\ pm x * 2 ^ (pe x).toNat <= 9223372036854775808 := by
  have h1 := pm_great x h
  unfold gr at g
  rw [decide_eq_true (show pm x ≠ 0 by omega), Bool.true_and, Bool.or_eq_false_iff] at g
  have g1 := of_decide_eq_false g.1
  have g2 := of_decide_eq_false g.2
  refine ⟨by omega, ?_⟩
  rw [Nat.div_lt_iff_lt_mul (pow_pos _)] at g2
  omega
theorem wrap_pow (m k p : Nat) (hp : p = m * 2 ^ k) (h : p < 18446744073709551616) : IntKind.u64.wrap ((m : Int) * 2 ^ k) = (p : Int) := by
  have e : (m : Int) * 2 ^ k = (p : Int) := by rw [hp, Int.natCast_mul]; rfl
  rw [e, wrap_id] <;> omega
theorem wk_great (n : Bool) (M : Nat) (h : 9223372036854775808 < M) : wk n M = false /\ wi n M = 0 := by
  have e : wk n M = false := by unfold wk; cases n <;> simp <;> omega
  exact ⟨e, by unfold wi; rw [e]; rfl⟩
theorem refRound_at (x : Nat) (i : Int) (ok : Bool) (w : World) (hx : x < 18446744073709551616) (hi : cI .even x = i) (ho : cOk .even x = ok) :
    Calls Tryz.prog 140 #[.float .f64 x] w fun e w' => e = .returned (.tuple #[.int .i64 i, .bool ok]) /\ w' = w := by
  subst hi ho
  cases n : isN x
  · have hle := isN_false.1 n
    by_cases fx : mg x < 9218868437227405312
    · obtain ⟨k1, k2⟩ := cOk_wk .even x fx
      have lm := pm_lt x
      by_cases h : 0 <= pe x
      · rw [cut_up .even x h] at k1 k2
        cases g : gr (pm x) (pe x).toNat
        · obtain ⟨e1, l⟩ := gr_false x h g
          exact rr_up x _ w hx rfl fx _ rfl _ h e1 rfl g _ (wrap_pow _ _ _ rfl (by omega)) (show _ < _ by omega) _ _ k2.symm k1.symm
        · have l := gr_true x h g
          obtain ⟨z1, z2⟩ := wk_great (ng x) _ l
          rw [k1, k2, z1, z2]
          exact rr_gr x _ w hx rfl fx _ rfl _ h rfl g
      · have hg := pe_ge x
        obtain ⟨k, hk⟩ : ∃ k : Nat, pe x = -(k : Int) := ⟨(-pe x).toNat, by omega⟩
        rw [cut_dn .even x k hk] at k1 k2
        have lk : pm x / 2 ^ k <= pm x := Nat.div_le_self ..
        rw [cutq_even] at k1 k2
        have lr := rne_le (pm x) (2 ^ k)
        exact rr_dn x _ w hx rfl fx _ rfl k (okm_of _ _ (by omega)) (by omega) _ (by omega) (show -pe x = (k : Int) by omega) rfl _ rfl (show _ < _ by omega) _ _ k2.symm k1.symm
    · have o : cOk .even x = false /\ cI .even x = 0 := by
        have e : cOk .even x = false := by unfold cOk fin; rw [decide_eq_false fx]; rfl
        exact ⟨e, by unfold cI; rw [e]; rfl⟩
      rw [o.1, o.2]
      exact rr_inf x _ w hx rfl (show _ = _ by omega)
  · obtain ⟨o1, o2⟩ := cOk_nan .even n
    rw [o1, o2]
    exact rr_nan x _ w hx rfl n
theorem cAnantrue (x : Nat) (most : Int) (w : World) (hx : Hid (x < 18446744073709551616)) (c0 : most < 0) (hn : Hid (ng x = true)) (fx : Hid (isN x = true)) :
    Calls Tryz.prog 108 #[.float .f64 x, .int .i64 most] w fun e w' => e = .returned (.int .i64 (0)) /\ w' = w := by
  go_enter Tryz.func108, Tryz.ntmps108
  go_wp2_with fail
  refine (parts_nat x true _ hx.out fx.out hn.out).mono ?_
  rintro e w' ⟨rfl, rfl⟩
  go_wp2
  go_ret
  exact ⟨rfl, rfl⟩
theorem cAinftrue (x : Nat) (most : Int) (w : World) (hx : Hid (x < 18446744073709551616)) (c0 : most < 0) (hn : Hid (ng x = true)) (fx : Hid (mg x = 9218868437227405312)) :
    Calls Tryz.prog 108 #[.float .f64 x, .int .i64 most] w fun e w' => e = .returned (.int .i64 (0)) /\ w' = w := by
  go_enter Tryz.func108, Tryz.ntmps108
  go_wp2_with fail
  refine (parts_iat x true _ hx.out fx.out hn.out).mono ?_
  rintro e w' ⟨rfl, rfl⟩
  go_wp2
  go_ret
  exact ⟨rfl, rfl⟩
theorem cAgrtrue (x : Nat) (most : Int) (w : World) (hx : Hid (x < 18446744073709551616)) (c0 : most < 0) (hn : Hid (ng x = true)) (fx : Hid (mg x < 9218868437227405312)) (m : Nat) (pm' : Hid (pm x = m)) (e : Int) (pe' : Hid (pe x = e)) (e0 : 0 <= e) (g : Hid (gr m e.toNat = true)) :
    Calls Tryz.prog 108 #[.float .f64 x, .int .i64 most] w fun e w' => e = .returned (.int .i64 (0)) /\ w' = w := by
  go_enter Tryz.func108, Tryz.ntmps108
  go_wp2_with fail
  refine (parts_at x m e true _ hx.out fx.out pm'.out pe'.out hn.out).mono ?_
  rintro e w' ⟨rfl, rfl⟩
  go_wp2_with fail
  refine (greatI m e true _ e0 g.out).mono ?_
  rintro e w' ⟨rfl, rfl⟩
  go_wp2
  go_ret
  exact ⟨rfl, rfl⟩
theorem cAuptruegt (x : Nat) (most : Int) (w : World) (hx : Hid (x < 18446744073709551616)) (c0 : most < 0) (hn : Hid (ng x = true)) (fx : Hid (mg x < 9218868437227405312)) (m : Nat) (pm' : Hid (pm x = m)) (e : Int) (pe' : Hid (pe x = e)) (e0 : 0 <= e) (e1 : e < 12) (g : Hid (gr m e.toNat = false)) (r : Nat) (hr : IntKind.u64.wrap ((m : Int) * 2 ^ e.toNat) = (r : Int)) (c : (0 : Int) < (r : Int))  :
    Calls Tryz.prog 108 #[.float .f64 x, .int .i64 most] w fun e w' => e = .returned (.int .i64 (0)) /\ w' = w := by
  go_enter Tryz.func108, Tryz.ntmps108
  go_wp2_with fail
  refine (parts_at x m e true _ hx.out fx.out pm'.out pe'.out hn.out).mono ?_
  rintro e w' ⟨rfl, rfl⟩
  go_wp2_with fail
  refine (greatI m e false _ e0 g.out).mono ?_
  rintro e w' ⟨rfl, rfl⟩
  go_wp2
  go_ret
  exact ⟨rfl, rfl⟩
theorem cAdntruegt (x : Nat) (most : Int) (w : World) (hx : Hid (x < 18446744073709551616)) (c0 : most < 0) (hn : Hid (ng x = true)) (fx : Hid (mg x < 9218868437227405312)) (m : Nat) (pm' : Hid (pm x = m)) (e : Int) (pe' : Hid (pe x = e)) (k : Nat) (lm : Hid (okm m k)) (k1 : 1 <= k) (e1 : -5000 < e) (ek : -e = (k : Int)) (r : Nat) (hr : Hid (rne m (2 ^ k) = r)) (c : (0 : Int) < (r : Int))  :
    Calls Tryz.prog 108 #[.float .f64 x, .int .i64 most] w fun e w' => e = .returned (.int .i64 (0)) /\ w' = w := by
  go_enter Tryz.func108, Tryz.ntmps108
  go_wp2_with fail
  refine (parts_at x m e true _ hx.out fx.out pm'.out pe'.out hn.out).mono ?_
  rintro e w' ⟨rfl, rfl⟩
  go_wp2_with fail
  refine (near_at m k r _ lm.out k1 hr.out).mono ?_
  rintro e w' ⟨rfl, rfl⟩
  go_wp2
  go_ret
  exact ⟨rfl, rfl⟩
theorem cAuptruele (x : Nat) (most : Int) (w : World) (hx : Hid (x < 18446744073709551616)) (c0 : most < 0) (hn : Hid (ng x = true)) (fx : Hid (mg x < 9218868437227405312)) (m : Nat) (pm' : Hid (pm x = m)) (e : Int) (pe' : Hid (pe x = e)) (e0 : 0 <= e) (e1 : e < 12) (g : Hid (gr m e.toNat = false)) (r : Nat) (hr : IntKind.u64.wrap ((m : Int) * 2 ^ e.toNat) = (r : Int)) (c : r = 0)  :
    Calls Tryz.prog 108 #[.float .f64 x, .int .i64 most] w fun e w' => e = .returned (.int .i64 (0)) /\ w' = w := by
  subst c
  go_enter Tryz.func108, Tryz.ntmps108
  go_wp2_with fail
  refine (parts_at x m e true _ hx.out fx.out pm'.out pe'.out hn.out).mono ?_
  rintro e w' ⟨rfl, rfl⟩
  go_wp2_with fail
  refine (greatI m e false _ e0 g.out).mono ?_
  rintro e w' ⟨rfl, rfl⟩
  go_wp2
  go_ret
  exact ⟨rfl, rfl⟩
theorem cAdntruele (x : Nat) (most : Int) (w : World) (hx : Hid (x < 18446744073709551616)) (c0 : most < 0) (hn : Hid (ng x = true)) (fx : Hid (mg x < 9218868437227405312)) (m : Nat) (pm' : Hid (pm x = m)) (e : Int) (pe' : Hid (pe x = e)) (k : Nat) (lm : Hid (okm m k)) (k1 : 1 <= k) (e1 : -5000 < e) (ek : -e = (k : Int)) (r : Nat) (hr : Hid (rne m (2 ^ k) = r)) (c : r = 0)  :
    Calls Tryz.prog 108 #[.float .f64 x, .int .i64 most] w fun e w' => e = .returned (.int .i64 (0)) /\ w' = w := by
  subst c
  go_enter Tryz.func108, Tryz.ntmps108
  go_wp2_with fail
  refine (parts_at x m e true _ hx.out fx.out pm'.out pe'.out hn.out).mono ?_
  rintro e w' ⟨rfl, rfl⟩
  go_wp2_with fail
  refine (near_at m k 0 _ lm.out k1 hr.out).mono ?_
  rintro e w' ⟨rfl, rfl⟩
  go_wp2
  go_ret
  exact ⟨rfl, rfl⟩
theorem cAnanfalse (x : Nat) (most : Int) (w : World) (hx : Hid (x < 18446744073709551616)) (c0 : most < 0) (hn : Hid (ng x = false)) (fx : Hid (isN x = true)) :
    Calls Tryz.prog 108 #[.float .f64 x, .int .i64 most] w fun e w' => e = .returned (.int .i64 (0)) /\ w' = w := by
  go_enter Tryz.func108, Tryz.ntmps108
  go_wp2_with fail
  refine (parts_nat x false _ hx.out fx.out hn.out).mono ?_
  rintro e w' ⟨rfl, rfl⟩
  go_wp2
  go_ret
  exact ⟨rfl, rfl⟩
theorem cAinffalse (x : Nat) (most : Int) (w : World) (hx : Hid (x < 18446744073709551616)) (c0 : most < 0) (hn : Hid (ng x = false)) (fx : Hid (mg x = 9218868437227405312)) :
    Calls Tryz.prog 108 #[.float .f64 x, .int .i64 most] w fun e w' => e = .returned (.int .i64 (0)) /\ w' = w := by
  go_enter Tryz.func108, Tryz.ntmps108
  go_wp2_with fail
  refine (parts_iat x false _ hx.out fx.out hn.out).mono ?_
  rintro e w' ⟨rfl, rfl⟩
  go_wp2
  go_ret
  exact ⟨rfl, rfl⟩
theorem cAgrfalse (x : Nat) (most : Int) (w : World) (hx : Hid (x < 18446744073709551616)) (c0 : most < 0) (hn : Hid (ng x = false)) (fx : Hid (mg x < 9218868437227405312)) (m : Nat) (pm' : Hid (pm x = m)) (e : Int) (pe' : Hid (pe x = e)) (e0 : 0 <= e) (g : Hid (gr m e.toNat = true)) :
    Calls Tryz.prog 108 #[.float .f64 x, .int .i64 most] w fun e w' => e = .returned (.int .i64 (0)) /\ w' = w := by
  go_enter Tryz.func108, Tryz.ntmps108
  go_wp2_with fail
  refine (parts_at x m e false _ hx.out fx.out pm'.out pe'.out hn.out).mono ?_
  rintro e w' ⟨rfl, rfl⟩
  go_wp2_with fail
  refine (greatI m e true _ e0 g.out).mono ?_
  rintro e w' ⟨rfl, rfl⟩
  go_wp2
  go_ret
  exact ⟨rfl, rfl⟩
theorem cAupfalsegt (x : Nat) (most : Int) (w : World) (hx : Hid (x < 18446744073709551616)) (c0 : most < 0) (hn : Hid (ng x = false)) (fx : Hid (mg x < 9218868437227405312)) (m : Nat) (pm' : Hid (pm x = m)) (e : Int) (pe' : Hid (pe x = e)) (e0 : 0 <= e) (e1 : e < 12) (g : Hid (gr m e.toNat = false)) (r : Nat) (hr : IntKind.u64.wrap ((m : Int) * 2 ^ e.toNat) = (r : Int)) (c : (0 : Int) < (r : Int))  :
    Calls Tryz.prog 108 #[.float .f64 x, .int .i64 most] w fun e w' => e = .returned (.int .i64 (0)) /\ w' = w := by
  go_enter Tryz.func108, Tryz.ntmps108
  go_wp2_with fail
  refine (parts_at x m e false _ hx.out fx.out pm'.out pe'.out hn.out).mono ?_
  rintro e w' ⟨rfl, rfl⟩
  go_wp2_with fail
  refine (greatI m e false _ e0 g.out).mono ?_
  rintro e w' ⟨rfl, rfl⟩
  go_wp2
  go_ret
  exact ⟨rfl, rfl⟩
theorem cAdnfalsegt (x : Nat) (most : Int) (w : World) (hx : Hid (x < 18446744073709551616)) (c0 : most < 0) (hn : Hid (ng x = false)) (fx : Hid (mg x < 9218868437227405312)) (m : Nat) (pm' : Hid (pm x = m)) (e : Int) (pe' : Hid (pe x = e)) (k : Nat) (lm : Hid (okm m k)) (k1 : 1 <= k) (e1 : -5000 < e) (ek : -e = (k : Int)) (r : Nat) (hr : Hid (rne m (2 ^ k) = r)) (c : (0 : Int) < (r : Int))  :
    Calls Tryz.prog 108 #[.float .f64 x, .int .i64 most] w fun e w' => e = .returned (.int .i64 (0)) /\ w' = w := by
  go_enter Tryz.func108, Tryz.ntmps108
  go_wp2_with fail
  refine (parts_at x m e false _ hx.out fx.out pm'.out pe'.out hn.out).mono ?_
  rintro e w' ⟨rfl, rfl⟩
  go_wp2_with fail
  refine (near_at m k r _ lm.out k1 hr.out).mono ?_
  rintro e w' ⟨rfl, rfl⟩
  go_wp2
  go_ret
  exact ⟨rfl, rfl⟩
theorem cAupfalsele (x : Nat) (most : Int) (w : World) (hx : Hid (x < 18446744073709551616)) (c0 : most < 0) (hn : Hid (ng x = false)) (fx : Hid (mg x < 9218868437227405312)) (m : Nat) (pm' : Hid (pm x = m)) (e : Int) (pe' : Hid (pe x = e)) (e0 : 0 <= e) (e1 : e < 12) (g : Hid (gr m e.toNat = false)) (r : Nat) (hr : IntKind.u64.wrap ((m : Int) * 2 ^ e.toNat) = (r : Int)) (c : r = 0)  :
    Calls Tryz.prog 108 #[.float .f64 x, .int .i64 most] w fun e w' => e = .returned (.int .i64 (0)) /\ w' = w := by
  subst c
  go_enter Tryz.func108, Tryz.ntmps108
  go_wp2_with fail
  refine (parts_at x m e false _ hx.out fx.out pm'.out pe'.out hn.out).mono ?_
  rintro e w' ⟨rfl, rfl⟩
  go_wp2_with fail
  refine (greatI m e false _ e0 g.out).mono ?_
  rintro e w' ⟨rfl, rfl⟩
  go_wp2
  go_ret
  exact ⟨rfl, rfl⟩
theorem cAdnfalsele (x : Nat) (most : Int) (w : World) (hx : Hid (x < 18446744073709551616)) (c0 : most < 0) (hn : Hid (ng x = false)) (fx : Hid (mg x < 9218868437227405312)) (m : Nat) (pm' : Hid (pm x = m)) (e : Int) (pe' : Hid (pe x = e)) (k : Nat) (lm : Hid (okm m k)) (k1 : 1 <= k) (e1 : -5000 < e) (ek : -e = (k : Int)) (r : Nat) (hr : Hid (rne m (2 ^ k) = r)) (c : r = 0)  :
    Calls Tryz.prog 108 #[.float .f64 x, .int .i64 most] w fun e w' => e = .returned (.int .i64 (0)) /\ w' = w := by
  subst c
  go_enter Tryz.func108, Tryz.ntmps108
  go_wp2_with fail
  refine (parts_at x m e false _ hx.out fx.out pm'.out pe'.out hn.out).mono ?_
  rintro e w' ⟨rfl, rfl⟩
  go_wp2_with fail
  refine (near_at m k 0 _ lm.out k1 hr.out).mono ?_
  rintro e w' ⟨rfl, rfl⟩
  go_wp2
  go_ret
  exact ⟨rfl, rfl⟩
theorem cBnantrue (x : Nat) (most : Int) (w : World) (hx : Hid (x < 18446744073709551616)) (c0 : ¬ most < 0) (_m1 : most <= 9223372036854775807) (hn : Hid (ng x = true)) (fx : Hid (isN x = true)) :
    Calls Tryz.prog 108 #[.float .f64 x, .int .i64 most] w fun e w' => e = .returned (.int .i64 (0)) /\ w' = w := by
  go_enter Tryz.func108, Tryz.ntmps108
  go_wp2_with fail
  refine (parts_nat x true _ hx.out fx.out hn.out).mono ?_
  rintro e w' ⟨rfl, rfl⟩
  go_wp2
  go_ret
  exact ⟨rfl, rfl⟩
theorem cBinftrue (x : Nat) (most : Int) (w : World) (hx : Hid (x < 18446744073709551616)) (c0 : ¬ most < 0) (m1 : most <= 9223372036854775807) (hn : Hid (ng x = true)) (b : decide (most < (9223372036854775808 : Int)) = true) (fx : Hid (mg x = 9218868437227405312)) :
    Calls Tryz.prog 108 #[.float .f64 x, .int .i64 most] w fun e w' => e = .returned (.int .i64 (-most)) /\ w' = w := by
  go_enter Tryz.func108, Tryz.ntmps108
  go_wp2_with fail
  refine (parts_iat x true _ hx.out fx.out hn.out).mono ?_
  rintro e w' ⟨rfl, rfl⟩
  go_wp2
  go_ret
  exact ⟨rfl, rfl⟩
theorem cBgrtrue (x : Nat) (most : Int) (w : World) (hx : Hid (x < 18446744073709551616)) (c0 : ¬ most < 0) (m1 : most <= 9223372036854775807) (hn : Hid (ng x = true)) (b : decide (most < (9223372036854775808 : Int)) = true) (fx : Hid (mg x < 9218868437227405312)) (m : Nat) (pm' : Hid (pm x = m)) (e : Int) (pe' : Hid (pe x = e)) (e0 : 0 <= e) (g : Hid (gr m e.toNat = true)) :
    Calls Tryz.prog 108 #[.float .f64 x, .int .i64 most] w fun e w' => e = .returned (.int .i64 (-most)) /\ w' = w := by
  go_enter Tryz.func108, Tryz.ntmps108
  go_wp2_with fail
  refine (parts_at x m e true _ hx.out fx.out pm'.out pe'.out hn.out).mono ?_
  rintro e w' ⟨rfl, rfl⟩
  go_wp2_with fail
  refine (greatI m e true _ e0 g.out).mono ?_
  rintro e w' ⟨rfl, rfl⟩
  go_wp2
  go_ret
  exact ⟨rfl, rfl⟩
theorem cBuptruegt (x : Nat) (most : Int) (w : World) (hx : Hid (x < 18446744073709551616)) (c0 : ¬ most < 0) (m1 : most <= 9223372036854775807) (hn : Hid (ng x = true)) (fx : Hid (mg x < 9218868437227405312)) (m : Nat) (pm' : Hid (pm x = m)) (e : Int) (pe' : Hid (pe x = e)) (e0 : 0 <= e) (e1 : e < 12) (g : Hid (gr m e.toNat = false)) (r : Nat) (hr : IntKind.u64.wrap ((m : Int) * 2 ^ e.toNat) = (r : Int)) (c : most < (r : Int))  :
    Calls Tryz.prog 108 #[.float .f64 x, .int .i64 most] w fun e w' => e = .returned (.int .i64 (-most)) /\ w' = w := by
  go_enter Tryz.func108, Tryz.ntmps108
  go_wp2_with fail
  refine (parts_at x m e true _ hx.out fx.out pm'.out pe'.out hn.out).mono ?_
  rintro e w' ⟨rfl, rfl⟩
  go_wp2_with fail
  refine (greatI m e false _ e0 g.out).mono ?_
  rintro e w' ⟨rfl, rfl⟩
  go_wp2
  go_ret
  exact ⟨rfl, rfl⟩
theorem cBdntruegt (x : Nat) (most : Int) (w : World) (hx : Hid (x < 18446744073709551616)) (c0 : ¬ most < 0) (m1 : most <= 9223372036854775807) (hn : Hid (ng x = true)) (fx : Hid (mg x < 9218868437227405312)) (m : Nat) (pm' : Hid (pm x = m)) (e : Int) (pe' : Hid (pe x = e)) (k : Nat) (lm : Hid (okm m k)) (k1 : 1 <= k) (e1 : -5000 < e) (ek : -e = (k : Int)) (r : Nat) (hr : Hid (rne m (2 ^ k) = r)) (c : most < (r : Int))  :
    Calls Tryz.prog 108 #[.float .f64 x, .int .i64 most] w fun e w' => e = .returned (.int .i64 (-most)) /\ w' = w := by
  go_enter Tryz.func108, Tryz.ntmps108
  go_wp2_with fail
  refine (parts_at x m e true _ hx.out fx.out pm'.out pe'.out hn.out).mono ?_
  rintro e w' ⟨rfl, rfl⟩
  go_wp2_with fail
  refine (near_at m k r _ lm.out k1 hr.out).mono ?_
  rintro e w' ⟨rfl, rfl⟩
  go_wp2
  go_ret
  exact ⟨rfl, rfl⟩
theorem cBuptruele (x : Nat) (most : Int) (w : World) (hx : Hid (x < 18446744073709551616)) (c0 : ¬ most < 0) (m1 : most <= 9223372036854775807) (hn : Hid (ng x = true)) (fx : Hid (mg x < 9218868437227405312)) (m : Nat) (pm' : Hid (pm x = m)) (e : Int) (pe' : Hid (pe x = e)) (e0 : 0 <= e) (e1 : e < 12) (g : Hid (gr m e.toNat = false)) (r : Nat) (hr : IntKind.u64.wrap ((m : Int) * 2 ^ e.toNat) = (r : Int)) (c : ¬ most < (r : Int)) (r1 : wrap64 (r : Int) = (r : Int))  :
    Calls Tryz.prog 108 #[.float .f64 x, .int .i64 most] w fun e w' => e = .returned (.int .i64 (-(r : Int))) /\ w' = w := by
  go_enter Tryz.func108, Tryz.ntmps108
  go_wp2_with fail
  refine (parts_at x m e true _ hx.out fx.out pm'.out pe'.out hn.out).mono ?_
  rintro e w' ⟨rfl, rfl⟩
  go_wp2_with fail
  refine (greatI m e false _ e0 g.out).mono ?_
  rintro e w' ⟨rfl, rfl⟩
  go_wp2
  go_ret
  exact ⟨rfl, rfl⟩
theorem cBdntruele (x : Nat) (most : Int) (w : World) (hx : Hid (x < 18446744073709551616)) (c0 : ¬ most < 0) (m1 : most <= 9223372036854775807) (hn : Hid (ng x = true)) (fx : Hid (mg x < 9218868437227405312)) (m : Nat) (pm' : Hid (pm x = m)) (e : Int) (pe' : Hid (pe x = e)) (k : Nat) (lm : Hid (okm m k)) (k1 : 1 <= k) (e1 : -5000 < e) (ek : -e = (k : Int)) (r : Nat) (hr : Hid (rne m (2 ^ k) = r)) (c : ¬ most < (r : Int)) (_r1 : wrap64 (r : Int) = (r : Int))  :
    Calls Tryz.prog 108 #[.float .f64 x, .int .i64 most] w fun e w' => e = .returned (.int .i64 (-(r : Int))) /\ w' = w := by
  go_enter Tryz.func108, Tryz.ntmps108
  go_wp2_with fail
  refine (parts_at x m e true _ hx.out fx.out pm'.out pe'.out hn.out).mono ?_
  rintro e w' ⟨rfl, rfl⟩
  go_wp2_with fail
  refine (near_at m k r _ lm.out k1 hr.out).mono ?_
  rintro e w' ⟨rfl, rfl⟩
  go_wp2
  go_ret
  exact ⟨rfl, rfl⟩
theorem cBnanfalse (x : Nat) (most : Int) (w : World) (hx : Hid (x < 18446744073709551616)) (c0 : ¬ most < 0) (_m1 : most <= 9223372036854775807) (hn : Hid (ng x = false)) (fx : Hid (isN x = true)) :
    Calls Tryz.prog 108 #[.float .f64 x, .int .i64 most] w fun e w' => e = .returned (.int .i64 (0)) /\ w' = w := by
  go_enter Tryz.func108, Tryz.ntmps108
  go_wp2_with fail
  refine (parts_nat x false _ hx.out fx.out hn.out).mono ?_
  rintro e w' ⟨rfl, rfl⟩
  go_wp2
  go_ret
  exact ⟨rfl, rfl⟩
theorem cBinffalse (x : Nat) (most : Int) (w : World) (hx : Hid (x < 18446744073709551616)) (c0 : ¬ most < 0) (m1 : most <= 9223372036854775807) (hn : Hid (ng x = false)) (b : decide (most < (9223372036854775808 : Int)) = true) (fx : Hid (mg x = 9218868437227405312)) :
    Calls Tryz.prog 108 #[.float .f64 x, .int .i64 most] w fun e w' => e = .returned (.int .i64 (most)) /\ w' = w := by
  go_enter Tryz.func108, Tryz.ntmps108
  go_wp2_with fail
  refine (parts_iat x false _ hx.out fx.out hn.out).mono ?_
  rintro e w' ⟨rfl, rfl⟩
  go_wp2
  go_ret
  exact ⟨rfl, rfl⟩
theorem cBgrfalse (x : Nat) (most : Int) (w : World) (hx : Hid (x < 18446744073709551616)) (c0 : ¬ most < 0) (m1 : most <= 9223372036854775807) (hn : Hid (ng x = false)) (b : decide (most < (9223372036854775808 : Int)) = true) (fx : Hid (mg x < 9218868437227405312)) (m : Nat) (pm' : Hid (pm x = m)) (e : Int) (pe' : Hid (pe x = e)) (e0 : 0 <= e) (g : Hid (gr m e.toNat = true)) :
    Calls Tryz.prog 108 #[.float .f64 x, .int .i64 most] w fun e w' => e = .returned (.int .i64 (most)) /\ w' = w := by
  go_enter Tryz.func108, Tryz.ntmps108
  go_wp2_with fail
  refine (parts_at x m e false _ hx.out fx.out pm'.out pe'.out hn.out).mono ?_
  rintro e w' ⟨rfl, rfl⟩
  go_wp2_with fail
  refine (greatI m e true _ e0 g.out).mono ?_
  rintro e w' ⟨rfl, rfl⟩
  go_wp2
  go_ret
  exact ⟨rfl, rfl⟩
theorem cBupfalsegt (x : Nat) (most : Int) (w : World) (hx : Hid (x < 18446744073709551616)) (c0 : ¬ most < 0) (m1 : most <= 9223372036854775807) (hn : Hid (ng x = false)) (fx : Hid (mg x < 9218868437227405312)) (m : Nat) (pm' : Hid (pm x = m)) (e : Int) (pe' : Hid (pe x = e)) (e0 : 0 <= e) (e1 : e < 12) (g : Hid (gr m e.toNat = false)) (r : Nat) (hr : IntKind.u64.wrap ((m : Int) * 2 ^ e.toNat) = (r : Int)) (c : most < (r : Int))  :
    Calls Tryz.prog 108 #[.float .f64 x, .int .i64 most] w fun e w' => e = .returned (.int .i64 (most)) /\ w' = w := by
  go_enter Tryz.func108, Tryz.ntmps108
  go_wp2_with fail
  refine (parts_at x m e false _ hx.out fx.out pm'.out pe'.out hn.out).mono ?_
  rintro e w' ⟨rfl, rfl⟩
  go_wp2_with fail
  refine (greatI m e false _ e0 g.out).mono ?_
  rintro e w' ⟨rfl, rfl⟩
  go_wp2
  go_ret
  exact ⟨rfl, rfl⟩
theorem cBdnfalsegt (x : Nat) (most : Int) (w : World) (hx : Hid (x < 18446744073709551616)) (c0 : ¬ most < 0) (m1 : most <= 9223372036854775807) (hn : Hid (ng x = false)) (fx : Hid (mg x < 9218868437227405312)) (m : Nat) (pm' : Hid (pm x = m)) (e : Int) (pe' : Hid (pe x = e)) (k : Nat) (lm : Hid (okm m k)) (k1 : 1 <= k) (e1 : -5000 < e) (ek : -e = (k : Int)) (r : Nat) (hr : Hid (rne m (2 ^ k) = r)) (c : most < (r : Int))  :
    Calls Tryz.prog 108 #[.float .f64 x, .int .i64 most] w fun e w' => e = .returned (.int .i64 (most)) /\ w' = w := by
  go_enter Tryz.func108, Tryz.ntmps108
  go_wp2_with fail
  refine (parts_at x m e false _ hx.out fx.out pm'.out pe'.out hn.out).mono ?_
  rintro e w' ⟨rfl, rfl⟩
  go_wp2_with fail
  refine (near_at m k r _ lm.out k1 hr.out).mono ?_
  rintro e w' ⟨rfl, rfl⟩
  go_wp2
  go_ret
  exact ⟨rfl, rfl⟩
theorem cBupfalsele (x : Nat) (most : Int) (w : World) (hx : Hid (x < 18446744073709551616)) (c0 : ¬ most < 0) (m1 : most <= 9223372036854775807) (hn : Hid (ng x = false)) (fx : Hid (mg x < 9218868437227405312)) (m : Nat) (pm' : Hid (pm x = m)) (e : Int) (pe' : Hid (pe x = e)) (e0 : 0 <= e) (e1 : e < 12) (g : Hid (gr m e.toNat = false)) (r : Nat) (hr : IntKind.u64.wrap ((m : Int) * 2 ^ e.toNat) = (r : Int)) (c : ¬ most < (r : Int)) (r1 : wrap64 (r : Int) = (r : Int))  :
    Calls Tryz.prog 108 #[.float .f64 x, .int .i64 most] w fun e w' => e = .returned (.int .i64 ((r : Int))) /\ w' = w := by
  go_enter Tryz.func108, Tryz.ntmps108
  go_wp2_with fail
  refine (parts_at x m e false _ hx.out fx.out pm'.out pe'.out hn.out).mono ?_
  rintro e w' ⟨rfl, rfl⟩
  go_wp2_with fail
  refine (greatI m e false _ e0 g.out).mono ?_
  rintro e w' ⟨rfl, rfl⟩
  go_wp2
  go_ret
  exact ⟨rfl, rfl⟩
theorem cBdnfalsele (x : Nat) (most : Int) (w : World) (hx : Hid (x < 18446744073709551616)) (c0 : ¬ most < 0) (m1 : most <= 9223372036854775807) (hn : Hid (ng x = false)) (fx : Hid (mg x < 9218868437227405312)) (m : Nat) (pm' : Hid (pm x = m)) (e : Int) (pe' : Hid (pe x = e)) (k : Nat) (lm : Hid (okm m k)) (k1 : 1 <= k) (e1 : -5000 < e) (ek : -e = (k : Int)) (r : Nat) (hr : Hid (rne m (2 ^ k) = r)) (c : ¬ most < (r : Int)) (_r1 : wrap64 (r : Int) = (r : Int))  :
    Calls Tryz.prog 108 #[.float .f64 x, .int .i64 most] w fun e w' => e = .returned (.int .i64 ((r : Int))) /\ w' = w := by
  go_enter Tryz.func108, Tryz.ntmps108
  go_wp2_with fail
  refine (parts_at x m e false _ hx.out fx.out pm'.out pe'.out hn.out).mono ?_
  rintro e w' ⟨rfl, rfl⟩
  go_wp2_with fail
  refine (near_at m k r _ lm.out k1 hr.out).mono ?_
  rintro e w' ⟨rfl, rfl⟩
  go_wp2
  go_ret
  exact ⟨rfl, rfl⟩
theorem clamp_mag (x : Nat) (most : Int) (hx : x < 18446744073709551616) (fx : mg x < 9218868437227405312) (hm : clampM most <= 9223372036854775807) :
    clampB x most = if ng x then -(min ((cutq .even (ng x) (mv (mg x)) one : Nat) : Int) (clampM most)) else min ((cutq .even (ng x) (mv (mg x)) one : Nat) : Int) (clampM most) := by
  have n : isN x = false := isN_false.2 (by omega)
  have m0 := clampM_nonneg most
  obtain ⟨k1, k2⟩ := cOk_wk .even x fx
  have hg := fgt_zero x hx n
  unfold clampB
  rw [n, if_neg (by decide), k1, k2, hg]
  have hM : mg x = 0 -> cutq .even (ng x) (mv (mg x)) one = 0 := by
    intro h
    rw [h, mv_zero]
    have := cutq_mul .even (ng x) 0 one one_pos
    rwa [Nat.zero_mul] at this
  generalize cutq .even (ng x) (mv (mg x)) one = M at *
  unfold wi wk rk
  cases hn : ng x
  · simp only [Bool.false_eq_true, if_false]
    by_cases c : M < 9223372036854775808
    · rw [decide_eq_true c, if_pos rfl, if_pos rfl]; omega
    · rw [decide_eq_false c, if_neg (by decide)]
      have : 0 < mg x := by
        by_cases z : mg x = 0
        · have := hM z; omega
        · omega
      rw [decide_eq_true (by omega), if_pos rfl]; omega
  · simp only [if_true]
    by_cases c : M <= 9223372036854775808
    · rw [decide_eq_true c, if_pos rfl, if_pos rfl]; omega
    · rw [decide_eq_false c, if_neg (by decide), decide_eq_false (by omega), if_neg (by decide)]; omega
theorem refClamp_at (x : Nat) (most r : Int) (w : World) (hx : x < 18446744073709551616) (m1 : most <= 9223372036854775807) (hr : clampB x most = r) :
    Calls Tryz.prog 108 #[.float .f64 x, .int .i64 most] w fun e w' => e = .returned (.int .i64 r) /\ w' = w := by
  subst hr
  have m0 := clampM_nonneg most
  have hm1 : clampM most <= 9223372036854775807 := by unfold clampM; split <;> omega
  have mA : most < 0 -> clampM most = 0 := by intro h; unfold clampM; rw [if_pos h]
  have mB : ¬ most < 0 -> clampM most = most := by intro h; unfold clampM; rw [if_neg h]
  cases n : isN x
  · have hle := isN_false.1 n
    by_cases fx : mg x < 9218868437227405312
    · have hc := clamp_mag x most hx fx hm1
      have lm := pm_lt x
      by_cases h : 0 <= pe x
      · rw [cut_up .even x h] at hc
        cases g : gr (pm x) (pe x).toNat
        · obtain ⟨e1, l⟩ := gr_false x h g
          have hw := wrap_pow (pm x) (pe x).toNat _ rfl (show pm x * 2 ^ (pe x).toNat < 18446744073709551616 by omega)
          generalize pm x * 2 ^ (pe x).toNat = M at *
          by_cases c0 : most < 0
          · rw [mA c0] at hc
            cases hn : ng x
            · rw [hn] at hc
              by_cases c : 0 < M
              · have e : clampB x most = 0 := by rw [hc]; simp; omega
                rw [e]; exact cAupfalsegt x most w hx c0 hn fx _ rfl _ rfl h e1 g M hw (by omega)
              · have e : clampB x most = 0 := by rw [hc]; simp; omega
                rw [e]; exact cAupfalsele x most w hx c0 hn fx _ rfl _ rfl h e1 g M hw (by omega)
            · rw [hn] at hc
              by_cases c : 0 < M
              · have e : clampB x most = 0 := by rw [hc]; simp; omega
                rw [e]; exact cAuptruegt x most w hx c0 hn fx _ rfl _ rfl h e1 g M hw (by omega)
              · have e : clampB x most = 0 := by rw [hc]; simp; omega
                rw [e]; exact cAuptruele x most w hx c0 hn fx _ rfl _ rfl h e1 g M hw (by omega)
          · rw [mB c0] at hc
            cases hn : ng x
            · rw [hn] at hc
              by_cases c : most < (M : Int)
              · have e : clampB x most = most := by rw [hc]; simp; omega
                rw [e]; exact cBupfalsegt x most w hx c0 m1 hn fx _ rfl _ rfl h e1 g M hw c
              · have e : clampB x most = (M : Int) := by rw [hc]; simp; omega
                rw [e]; exact cBupfalsele x most w hx c0 m1 hn fx _ rfl _ rfl h e1 g M hw c (by unfold wrap64; omega)
            · rw [hn] at hc
              by_cases c : most < (M : Int)
              · have e : clampB x most = -most := by rw [hc]; simp; omega
                rw [e]; exact cBuptruegt x most w hx c0 m1 hn fx _ rfl _ rfl h e1 g M hw c
              · have e : clampB x most = -(M : Int) := by rw [hc]; simp; omega
                rw [e]; exact cBuptruele x most w hx c0 m1 hn fx _ rfl _ rfl h e1 g M hw c (by unfold wrap64; omega)
        · have l := gr_true x h g
          generalize pm x * 2 ^ (pe x).toNat = M at *
          by_cases c0 : most < 0
          · rw [mA c0] at hc
            cases hn : ng x
            · rw [hn] at hc
              have e : clampB x most = 0 := by rw [hc]; simp <;> omega
              rw [e]; exact cAgrfalse x most w hx c0 hn fx _ rfl _ rfl h g
            · rw [hn] at hc
              have e : clampB x most = 0 := by rw [hc]; simp <;> omega
              rw [e]; exact cAgrtrue x most w hx c0 hn fx _ rfl _ rfl h g
          · rw [mB c0] at hc
            cases hn : ng x
            · rw [hn] at hc
              have e : clampB x most = most := by rw [hc]; simp <;> omega
              rw [e]; exact cBgrfalse x most w hx c0 m1 hn (decide_eq_true (by omega)) fx _ rfl _ rfl h g
            · rw [hn] at hc
              have e : clampB x most = -most := by rw [hc]; simp <;> omega
              rw [e]; exact cBgrtrue x most w hx c0 m1 hn (decide_eq_true (by omega)) fx _ rfl _ rfl h g
      · have hg := pe_ge x
        obtain ⟨k, hk⟩ : ∃ k : Nat, pe x = -(k : Int) := ⟨(-pe x).toNat, by omega⟩
        rw [cut_dn .even x k hk, cutq_even] at hc
        obtain ⟨M, hM⟩ : ∃ M, rne (pm x) (2 ^ k) = M := ⟨_, rfl⟩
        rw [hM] at hc
        by_cases c0 : most < 0
        · rw [mA c0] at hc
          cases hn : ng x
          · rw [hn] at hc
            by_cases c : 0 < M
            · have e : clampB x most = 0 := by rw [hc]; simp; omega
              rw [e]; exact cAdnfalsegt x most w hx c0 hn fx _ rfl _ rfl k (okm_of _ _ (by omega)) (by omega) (by omega) (by omega) M hM (by omega)
            · have e : clampB x most = 0 := by rw [hc]; simp; omega
              rw [e]; exact cAdnfalsele x most w hx c0 hn fx _ rfl _ rfl k (okm_of _ _ (by omega)) (by omega) (by omega) (by omega) M hM (by omega)
          · rw [hn] at hc
            by_cases c : 0 < M
            · have e : clampB x most = 0 := by rw [hc]; simp; omega
              rw [e]; exact cAdntruegt x most w hx c0 hn fx _ rfl _ rfl k (okm_of _ _ (by omega)) (by omega) (by omega) (by omega) M hM (by omega)
            · have e : clampB x most = 0 := by rw [hc]; simp; omega
              rw [e]; exact cAdntruele x most w hx c0 hn fx _ rfl _ rfl k (okm_of _ _ (by omega)) (by omega) (by omega) (by omega) M hM (by omega)
        · rw [mB c0] at hc
          cases hn : ng x
          · rw [hn] at hc
            by_cases c : most < (M : Int)
            · have e : clampB x most = most := by rw [hc]; simp; omega
              rw [e]; exact cBdnfalsegt x most w hx c0 m1 hn fx _ rfl _ rfl k (okm_of _ _ (by omega)) (by omega) (by omega) (by omega) M hM c
            · have e : clampB x most = (M : Int) := by rw [hc]; simp; omega
              rw [e]; exact cBdnfalsele x most w hx c0 m1 hn fx _ rfl _ rfl k (okm_of _ _ (by omega)) (by omega) (by omega) (by omega) M hM c (by unfold wrap64; omega)
          · rw [hn] at hc
            by_cases c : most < (M : Int)
            · have e : clampB x most = -most := by rw [hc]; simp; omega
              rw [e]; exact cBdntruegt x most w hx c0 m1 hn fx _ rfl _ rfl k (okm_of _ _ (by omega)) (by omega) (by omega) (by omega) M hM c
            · have e : clampB x most = -(M : Int) := by rw [hc]; simp; omega
              rw [e]; exact cBdntruele x most w hx c0 m1 hn fx _ rfl _ rfl k (okm_of _ _ (by omega)) (by omega) (by omega) (by omega) M hM c (by unfold wrap64; omega)
    · have fi : mg x = 9218868437227405312 := by omega
      have o : cOk .even x = false := by unfold cOk fin; rw [decide_eq_false fx]; rfl
      have hg := fgt_zero x hx n
      have hc : clampB x most = if ng x then -clampM most else clampM most := by
        unfold clampB
        rw [n, if_neg (by decide), o, if_neg (by decide), hg]
        unfold rk; rw [fi]
        cases ng x <;> simp
      by_cases c0 : most < 0
      · rw [mA c0] at hc
        cases hn : ng x
        · rw [hn] at hc
          have e : clampB x most = 0 := by rw [hc]; simp <;> omega
          rw [e]; exact cAinffalse x most w hx c0 hn fi
        · rw [hn] at hc
          have e : clampB x most = 0 := by rw [hc]; simp <;> omega
          rw [e]; exact cAinftrue x most w hx c0 hn fi
      · rw [mB c0] at hc
        cases hn : ng x
        · rw [hn] at hc
          have e : clampB x most = most := by rw [hc]; simp <;> omega
          rw [e]; exact cBinffalse x most w hx c0 m1 hn (decide_eq_true (by omega)) fi
        · rw [hn] at hc
          have e : clampB x most = -most := by rw [hc]; simp <;> omega
          rw [e]; exact cBinftrue x most w hx c0 m1 hn (decide_eq_true (by omega)) fi
  · have e : clampB x most = 0 := by unfold clampB; rw [n]; rfl
    rw [e]
    by_cases c0 : most < 0
    · cases hn : ng x
      · exact cAnanfalse x most w hx c0 hn n
      · exact cAnantrue x most w hx c0 hn n
    · cases hn : ng x
      · exact cBnanfalse x most w hx c0 m1 hn n
      · exact cBnantrue x most w hx c0 m1 hn n
end Go.Proofs.YtdigecacmibkpaaGreatDoor.Ref2

namespace Go.Proofs.YtdigecacmibkpaaGreatDoor.Ref2
open Go.RowKit Tf
attribute [local go_sem] run_bits run_from raw_feq raw_fne raw_flt raw_fgt run_neg
theorem length_w (S : Nat -> Nat) (L : Nat) (w : World) (hS : ∀ j, (S j : Int) / 2 = (S (j + 1) : Int)) (hL : ∀ j, j < L ↔ 0 < S j) (hW : ∀ j, IntKind.u64.wrap (S j : Int) = (S j : Int)) (l : (L : Int) <= 64) :
    Calls Tryz.prog 156 #[.int .u64 (S 0 : Nat)] w fun e w' => e = .returned (.int .i64 (L : Nat)) /\ w' = w := by
  have HL := hid hL
  have HS := hid hS
  have HW := hid hW
  clear hL hS hW
  go_enter Tryz.func156, Tryz.ntmps156
  go_wp2
  go_loop [0, 3] (fun a b => ∃ j : Nat, j <= L /\ a = .int .u64 (S j : Nat) /\ b = .int .i64 (j : Nat)) (fun _ b => L - (intOf b).toNat)
  case atStart => exact ⟨0, Nat.zero_le _, rfl, rfl⟩
  case round =>
    obtain ⟨j, hj, rfl, rfl⟩ := hrel
    by_cases hlt : j < L
    · have h1 : 0 < S j := (HL.out j).1 hlt
      have h2 := HS.out j
      have h3 := HW.out (j + 1)
      go_wp2
      go_round
      case rel => exact ⟨j + 1, by omega, rfl, by go_num⟩
      case measure => simp [intOf]; omega
    · have e : j = L := by omega
      subst e
      have h1 : ¬ 0 < S j := fun h => hlt ((HL.out j).2 h)
      go_wp2
      go_ret
      exact ⟨rfl, rfl⟩
def bl (m : Nat) : Nat := if m = 0 then 0 else m.log2 + 1
theorem length_at (m L : Nat) (w : World) (hm : m < 18446744073709551616) (hL : bl m = L) :
    Calls Tryz.prog 156 #[.int .u64 (m : Nat)] w fun e w' => e = .returned (.int .i64 (L : Nat)) /\ w' = w := by
  subst hL
  have h0 : m = m / 2 ^ 0 := by simp
  have := length_w (fun j => m / 2 ^ j) (bl m) w ?_ ?_ ?_ ?_
  · simpa using this
  · intro j
    show ((m / 2 ^ j : Nat) : Int) / 2 = ((m / 2 ^ (j + 1) : Nat) : Int)
    rw [Nat.pow_succ, <- Nat.div_div_eq_div_mul]; omega
  · intro j
    show j < bl m ↔ 0 < m / 2 ^ j
    unfold bl
    by_cases z : m = 0
    · subst z; simp
    · rw [if_neg z, Nat.div_pos_iff]
      constructor
      · intro h
        refine ⟨pow_pos j, Nat.le_trans (Nat.pow_le_pow_right (by omega) (by omega)) (Nat.log2_self_le z)⟩
      · intro h
        have h2 : m < 2 ^ (m.log2 + 1) := Nat.lt_log2_self
        by_cases c : j < m.log2 + 1
        · exact c
        · exfalso
          have : 2 ^ (m.log2 + 1) <= 2 ^ j := Nat.pow_le_pow_right (by omega) (by omega)
          omega
  · intro j
    have : m / 2 ^ j <= m := Nat.div_le_self ..
    show IntKind.u64.wrap ((m / 2 ^ j : Nat) : Int) = _
    generalize m / 2 ^ j = q at *
    rw [wrap_id] <;> omega
  · unfold bl
    by_cases z : m = 0
    · rw [if_pos z]; decide
    · rw [if_neg z]
      have := log2_small (k := 63) (show m < 2 ^ (63 + 1) by omega)
      omega
theorem smlogtg (m p I L : Nat) (e least un : Int) (w : World) (z : ((m : Int) == 0) = false) (lm : Hid (m < 18446744073709551616)) (hL : Hid (bl m = L)) (L1 : (L : Int) <= 64) (p1 : (p : Int) <= 60) (_e0 : -5000 < e) (_e1 : e < 5000) (l0 : -5000 < least) (l1 : least < 5000) (hun : (L : Int) + e - ((p : Int) + 1) = un) (c : un < least) (d : least < e) (d2 : e - least < 64) (k : Nat) (hk : IntKind.u64.wrap ((m : Int) * 2 ^ (e - least).toNat) = (k : Int)) (hw : IntKind.u64.wrap (k : Int) = (k : Int)) (f : I < k) :
    Calls Tryz.prog 135 #[.int .u64 (m : Nat), .int .i64 e, .int .i64 (p : Nat), .int .i64 least, .int .u64 (I : Nat)] w fun e w' => e = .returned (.int .u64 ((I : Nat))) /\ w' = w := by
  go_enter Tryz.func135, Tryz.ntmps135
  go_wp2_with fail
  refine (length_at m L _ lm.out hL.out).mono ?_
  rintro e w' ⟨rfl, rfl⟩
  go_wp2
  go_ret
  exact ⟨rfl, rfl⟩
theorem smlogts (m p I L : Nat) (e least un : Int) (w : World) (z : ((m : Int) == 0) = false) (lm : Hid (m < 18446744073709551616)) (hL : Hid (bl m = L)) (L1 : (L : Int) <= 64) (p1 : (p : Int) <= 60) (_e0 : -5000 < e) (_e1 : e < 5000) (l0 : -5000 < least) (l1 : least < 5000) (hun : (L : Int) + e - ((p : Int) + 1) = un) (c : un < least) (d : least < e) (d2 : e - least < 64) (k : Nat) (hk : IntKind.u64.wrap ((m : Int) * 2 ^ (e - least).toNat) = (k : Int)) (hw : IntKind.u64.wrap (k : Int) = (k : Int)) (f : ¬ I < k) :
    Calls Tryz.prog 135 #[.int .u64 (m : Nat), .int .i64 e, .int .i64 (p : Nat), .int .i64 least, .int .u64 (I : Nat)] w fun e w' => e = .returned (.int .u64 ((k : Nat))) /\ w' = w := by
  go_enter Tryz.func135, Tryz.ntmps135
  go_wp2_with fail
  refine (length_at m L _ lm.out hL.out).mono ?_
  rintro e w' ⟨rfl, rfl⟩
  go_wp2
  go_ret
  exact ⟨rfl, rfl⟩
theorem smloltg (m p I L : Nat) (e least un : Int) (w : World) (z : ((m : Int) == 0) = false) (lm : Hid (m < 18446744073709551616)) (hL : Hid (bl m = L)) (L1 : (L : Int) <= 64) (p1 : (p : Int) <= 60) (e0 : -5000 < e) (e1 : e < 5000) (l0 : -5000 < least) (l1 : least < 5000) (hun : (L : Int) + e - ((p : Int) + 1) = un) (c : un < least) (d : e < least) (j : Nat) (j1 : 1 <= j) (dj : least - e = (j : Int)) (lm2 : Hid (okm m j)) (k : Nat) (hk : Hid (rne m (2 ^ j) = k)) (hw : IntKind.u64.wrap (k : Int) = (k : Int)) (f : I < k) :
    Calls Tryz.prog 135 #[.int .u64 (m : Nat), .int .i64 e, .int .i64 (p : Nat), .int .i64 least, .int .u64 (I : Nat)] w fun e w' => e = .returned (.int .u64 ((I : Nat))) /\ w' = w := by
  go_enter Tryz.func135, Tryz.ntmps135
  go_wp2_with fail
  refine (length_at m L _ lm.out hL.out).mono ?_
  rintro e w' ⟨rfl, rfl⟩
  go_wp2_with fail
  refine (near_at m j k _ lm2.out j1 hk.out).mono ?_
  rintro e w' ⟨rfl, rfl⟩
  go_wp2
  go_ret
  exact ⟨rfl, rfl⟩
theorem smlolts (m p I L : Nat) (e least un : Int) (w : World) (z : ((m : Int) == 0) = false) (lm : Hid (m < 18446744073709551616)) (hL : Hid (bl m = L)) (L1 : (L : Int) <= 64) (p1 : (p : Int) <= 60) (e0 : -5000 < e) (e1 : e < 5000) (l0 : -5000 < least) (l1 : least < 5000) (hun : (L : Int) + e - ((p : Int) + 1) = un) (c : un < least) (d : e < least) (j : Nat) (j1 : 1 <= j) (dj : least - e = (j : Int)) (lm2 : Hid (okm m j)) (k : Nat) (hk : Hid (rne m (2 ^ j) = k)) (hw : IntKind.u64.wrap (k : Int) = (k : Int)) (f : ¬ I < k) :
    Calls Tryz.prog 135 #[.int .u64 (m : Nat), .int .i64 e, .int .i64 (p : Nat), .int .i64 least, .int .u64 (I : Nat)] w fun e w' => e = .returned (.int .u64 ((k : Nat))) /\ w' = w := by
  go_enter Tryz.func135, Tryz.ntmps135
  go_wp2_with fail
  refine (length_at m L _ lm.out hL.out).mono ?_
  rintro e w' ⟨rfl, rfl⟩
  go_wp2_with fail
  refine (near_at m j k _ lm2.out j1 hk.out).mono ?_
  rintro e w' ⟨rfl, rfl⟩
  go_wp2
  go_ret
  exact ⟨rfl, rfl⟩
theorem smloeqg (m p I L : Nat) (e least un : Int) (w : World) (z : ((m : Int) == 0) = false) (lm : Hid (m < 18446744073709551616)) (hL : Hid (bl m = L)) (L1 : (L : Int) <= 64) (p1 : (p : Int) <= 60) (e0 : -5000 < e) (e1 : e < 5000) (l0 : -5000 < least) (l1 : least < 5000) (hun : (L : Int) + e - ((p : Int) + 1) = un) (c : un < least) (d : e = least) (hw : IntKind.u64.wrap (m : Int) = (m : Int)) (f : I < m) :
    Calls Tryz.prog 135 #[.int .u64 (m : Nat), .int .i64 e, .int .i64 (p : Nat), .int .i64 least, .int .u64 (I : Nat)] w fun e w' => e = .returned (.int .u64 ((I : Nat))) /\ w' = w := by
  subst d
  go_enter Tryz.func135, Tryz.ntmps135
  go_wp2_with fail
  refine (length_at m L _ lm.out hL.out).mono ?_
  rintro e w' ⟨rfl, rfl⟩
  go_wp2
  go_ret
  exact ⟨rfl, rfl⟩
theorem smloeqs (m p I L : Nat) (e least un : Int) (w : World) (z : ((m : Int) == 0) = false) (lm : Hid (m < 18446744073709551616)) (hL : Hid (bl m = L)) (L1 : (L : Int) <= 64) (p1 : (p : Int) <= 60) (e0 : -5000 < e) (e1 : e < 5000) (l0 : -5000 < least) (l1 : least < 5000) (hun : (L : Int) + e - ((p : Int) + 1) = un) (c : un < least) (d : e = least) (hw : IntKind.u64.wrap (m : Int) = (m : Int)) (f : ¬ I < m) :
    Calls Tryz.prog 135 #[.int .u64 (m : Nat), .int .i64 e, .int .i64 (p : Nat), .int .i64 least, .int .u64 (I : Nat)] w fun e w' => e = .returned (.int .u64 ((m : Nat))) /\ w' = w := by
  subst d
  go_enter Tryz.func135, Tryz.ntmps135
  go_wp2_with fail
  refine (length_at m L _ lm.out hL.out).mono ?_
  rintro e w' ⟨rfl, rfl⟩
  go_wp2
  go_ret
  exact ⟨rfl, rfl⟩
theorem smhigtg (m p I L : Nat) (e least un : Int) (w : World) (z : ((m : Int) == 0) = false) (lm : Hid (m < 18446744073709551616)) (hL : Hid (bl m = L)) (L1 : (L : Int) <= 64) (p1 : (p : Int) <= 60) (e0 : -5000 < e) (e1 : e < 5000) (_l0 : -5000 < least) (_l1 : least < 5000) (hun : (L : Int) + e - ((p : Int) + 1) = un) (_c : ¬ un < least) (d : un < e) (d2 : e - un < 64) (k : Nat) (hk : IntKind.u64.wrap ((m : Int) * 2 ^ (e - un).toNat) = (k : Int)) (u : Int) (v b : Nat) (hu : un - least = u) (u0 : 0 <= u) (u1 : u < 5000) (hv : IntKind.u64.wrap (u * 2 ^ p) = (v : Int)) (hb : IntKind.u64.wrap ((v : Int) + (k : Int)) = (b : Int)) (f : I < b) :
    Calls Tryz.prog 135 #[.int .u64 (m : Nat), .int .i64 e, .int .i64 (p : Nat), .int .i64 least, .int .u64 (I : Nat)] w fun e w' => e = .returned (.int .u64 ((I : Nat))) /\ w' = w := by
  go_enter Tryz.func135, Tryz.ntmps135
  go_wp2_with fail
  refine (length_at m L _ lm.out hL.out).mono ?_
  rintro e w' ⟨rfl, rfl⟩
  go_wp2
  go_ret
  exact ⟨rfl, rfl⟩
theorem smhigts (m p I L : Nat) (e least un : Int) (w : World) (z : ((m : Int) == 0) = false) (lm : Hid (m < 18446744073709551616)) (hL : Hid (bl m = L)) (L1 : (L : Int) <= 64) (p1 : (p : Int) <= 60) (e0 : -5000 < e) (e1 : e < 5000) (_l0 : -5000 < least) (_l1 : least < 5000) (hun : (L : Int) + e - ((p : Int) + 1) = un) (_c : ¬ un < least) (d : un < e) (d2 : e - un < 64) (k : Nat) (hk : IntKind.u64.wrap ((m : Int) * 2 ^ (e - un).toNat) = (k : Int)) (u : Int) (v b : Nat) (hu : un - least = u) (u0 : 0 <= u) (u1 : u < 5000) (hv : IntKind.u64.wrap (u * 2 ^ p) = (v : Int)) (hb : IntKind.u64.wrap ((v : Int) + (k : Int)) = (b : Int)) (f : ¬ I < b) :
    Calls Tryz.prog 135 #[.int .u64 (m : Nat), .int .i64 e, .int .i64 (p : Nat), .int .i64 least, .int .u64 (I : Nat)] w fun e w' => e = .returned (.int .u64 ((b : Nat))) /\ w' = w := by
  go_enter Tryz.func135, Tryz.ntmps135
  go_wp2_with fail
  refine (length_at m L _ lm.out hL.out).mono ?_
  rintro e w' ⟨rfl, rfl⟩
  go_wp2
  go_ret
  exact ⟨rfl, rfl⟩
theorem smhiltg (m p I L : Nat) (e least un : Int) (w : World) (z : ((m : Int) == 0) = false) (lm : Hid (m < 18446744073709551616)) (hL : Hid (bl m = L)) (L1 : (L : Int) <= 64) (p1 : (p : Int) <= 60) (e0 : -5000 < e) (e1 : e < 5000) (l0 : -5000 < least) (l1 : least < 5000) (hun : (L : Int) + e - ((p : Int) + 1) = un) (_c : ¬ un < least) (d : e < un) (j : Nat) (j1 : 1 <= j) (dj : un - e = (j : Int)) (lm2 : Hid (okm m j)) (k : Nat) (hk : Hid (rne m (2 ^ j) = k)) (u : Int) (v b : Nat) (hu : un - least = u) (u0 : 0 <= u) (u1 : u < 5000) (hv : IntKind.u64.wrap (u * 2 ^ p) = (v : Int)) (hb : IntKind.u64.wrap ((v : Int) + (k : Int)) = (b : Int)) (f : I < b) :
    Calls Tryz.prog 135 #[.int .u64 (m : Nat), .int .i64 e, .int .i64 (p : Nat), .int .i64 least, .int .u64 (I : Nat)] w fun e w' => e = .returned (.int .u64 ((I : Nat))) /\ w' = w := by
  go_enter Tryz.func135, Tryz.ntmps135
  go_wp2_with fail
  refine (length_at m L _ lm.out hL.out).mono ?_
  rintro e w' ⟨rfl, rfl⟩
  go_wp2_with fail
  refine (near_at m j k _ lm2.out j1 hk.out).mono ?_
  rintro e w' ⟨rfl, rfl⟩
  go_wp2
  go_ret
  exact ⟨rfl, rfl⟩
theorem smhilts (m p I L : Nat) (e least un : Int) (w : World) (z : ((m : Int) == 0) = false) (lm : Hid (m < 18446744073709551616)) (hL : Hid (bl m = L)) (L1 : (L : Int) <= 64) (p1 : (p : Int) <= 60) (e0 : -5000 < e) (e1 : e < 5000) (l0 : -5000 < least) (l1 : least < 5000) (hun : (L : Int) + e - ((p : Int) + 1) = un) (_c : ¬ un < least) (d : e < un) (j : Nat) (j1 : 1 <= j) (dj : un - e = (j : Int)) (lm2 : Hid (okm m j)) (k : Nat) (hk : Hid (rne m (2 ^ j) = k)) (u : Int) (v b : Nat) (hu : un - least = u) (u0 : 0 <= u) (u1 : u < 5000) (hv : IntKind.u64.wrap (u * 2 ^ p) = (v : Int)) (hb : IntKind.u64.wrap ((v : Int) + (k : Int)) = (b : Int)) (f : ¬ I < b) :
    Calls Tryz.prog 135 #[.int .u64 (m : Nat), .int .i64 e, .int .i64 (p : Nat), .int .i64 least, .int .u64 (I : Nat)] w fun e w' => e = .returned (.int .u64 ((b : Nat))) /\ w' = w := by
  go_enter Tryz.func135, Tryz.ntmps135
  go_wp2_with fail
  refine (length_at m L _ lm.out hL.out).mono ?_
  rintro e w' ⟨rfl, rfl⟩
  go_wp2_with fail
  refine (near_at m j k _ lm2.out j1 hk.out).mono ?_
  rintro e w' ⟨rfl, rfl⟩
  go_wp2
  go_ret
  exact ⟨rfl, rfl⟩
theorem smhieqg (m p I L : Nat) (e least un : Int) (w : World) (z : ((m : Int) == 0) = false) (lm : Hid (m < 18446744073709551616)) (hL : Hid (bl m = L)) (_L1 : (L : Int) <= 64) (p1 : (p : Int) <= 60) (e0 : -5000 < e) (e1 : e < 5000) (_l0 : -5000 < least) (_l1 : least < 5000) (hun : (L : Int) + e - ((p : Int) + 1) = un) (c : ¬ un < least) (d : e = un) (u : Int) (v b : Nat) (hu : un - least = u) (u0 : 0 <= u) (u1 : u < 5000) (hv : IntKind.u64.wrap (u * 2 ^ p) = (v : Int)) (hb : IntKind.u64.wrap ((v : Int) + (m : Int)) = (b : Int)) (f : I < b) :
    Calls Tryz.prog 135 #[.int .u64 (m : Nat), .int .i64 e, .int .i64 (p : Nat), .int .i64 least, .int .u64 (I : Nat)] w fun e w' => e = .returned (.int .u64 ((I : Nat))) /\ w' = w := by
  subst d
  go_enter Tryz.func135, Tryz.ntmps135
  go_wp2_with fail
  refine (length_at m L _ lm.out hL.out).mono ?_
  rintro e w' ⟨rfl, rfl⟩
  go_wp2
  go_ret
  exact ⟨rfl, rfl⟩
theorem smhieqs (m p I L : Nat) (e least un : Int) (w : World) (z : ((m : Int) == 0) = false) (lm : Hid (m < 18446744073709551616)) (hL : Hid (bl m = L)) (_L1 : (L : Int) <= 64) (p1 : (p : Int) <= 60) (e0 : -5000 < e) (e1 : e < 5000) (_l0 : -5000 < least) (_l1 : least < 5000) (hun : (L : Int) + e - ((p : Int) + 1) = un) (c : ¬ un < least) (d : e = un) (u : Int) (v b : Nat) (hu : un - least = u) (u0 : 0 <= u) (u1 : u < 5000) (hv : IntKind.u64.wrap (u * 2 ^ p) = (v : Int)) (hb : IntKind.u64.wrap ((v : Int) + (m : Int)) = (b : Int)) (f : ¬ I < b) :
    Calls Tryz.prog 135 #[.int .u64 (m : Nat), .int .i64 e, .int .i64 (p : Nat), .int .i64 least, .int .u64 (I : Nat)] w fun e w' => e = .returned (.int .u64 ((b : Nat))) /\ w' = w := by
  subst d
  go_enter Tryz.func135, Tryz.ntmps135
  go_wp2_with fail
  refine (length_at m L _ lm.out hL.out).mono ?_
  rintro e w' ⟨rfl, rfl⟩
  go_wp2
  go_ret
  exact ⟨rfl, rfl⟩
end Go.Proofs.YtdigecacmibkpaaGreatDoor.Ref2

namespace Go.Proofs.YtdigecacmibkpaaGreatDoor.Ref2
open Go.RowKit Tf
attribute [local go_sem] run_bits run_from raw_feq raw_fne raw_flt raw_fgt run_neg
theorem small_0 (e p least : Int) (I : Nat) (w : World) :
    Calls Tryz.prog 135 #[.int .u64 0, .int .i64 e, .int .i64 p, .int .i64 least, .int .u64 (I : Nat)] w fun e w' => e = .returned (.int .u64 0) /\ w' = w := by
  go_enter Tryz.func135, Tryz.ntmps135
  go_wp2
  go_ret
  exact ⟨rfl, rfl⟩
theorem rung_none (p d : Nat) : rung p d 0 = 0 := by unfold rung rne; simp
theorem rne_up (m t d : Nat) : rne (m * 2 ^ (d + t)) (2 ^ d) = m * 2 ^ t := by
  rw [Nat.add_comm, Nat.pow_add, <- Nat.mul_assoc, rne_mul _ _ (pow_pos d)]
theorem rne_dn (m j E : Nat) : rne (m * 2 ^ E) (2 ^ (j + E)) = rne m (2 ^ j) := by
  rw [Nat.pow_add, rne_scale _ _ _ (pow_pos E)]
theorem rne_top (m j p : Nat) (h : m < 2 ^ (p + 1 + j)) : rne m (2 ^ j) <= 2 ^ (p + 1) := by
  have h1 := rne_mono (2 ^ j) (show m <= 2 ^ (p + 1) * 2 ^ j by rw [<- Nat.pow_add]; omega)
  rwa [rne_mul _ _ (pow_pos j)] at h1
theorem small_at (m p I : Nat) (e least : Int) (r : Nat) (w : World) (hm : m <= 9223372036854775808) (hm2 : m < 9223372036854775808 \/ least <= e) (hp : p <= 52) (e0 : -1100 <= e) (e1 : e <= 1100) (l0 : -1100 <= least) (l1 : least <= 0)
    (HB : ∀ u : Nat, (u : Int) <= 64 + e - least -> u * 2 ^ p < 9223372036854775808) (hr : min (rung p (least - e).toNat (m * 2 ^ (e - least).toNat)) I = r) :
    Calls Tryz.prog 135 #[.int .u64 (m : Nat), .int .i64 e, .int .i64 (p : Nat), .int .i64 least, .int .u64 (I : Nat)] w fun e w' => e = .returned (.int .u64 (r : Nat)) /\ w' = w := by
  by_cases z : m = 0
  · subst z
    rw [Nat.zero_mul, rung_none, Nat.zero_min] at hr
    subst hr
    exact small_0 e p least I w
  · have zb : ((m : Int) == 0) = false := by simp; omega
    obtain ⟨g, hg⟩ : ∃ g, m.log2 = g := ⟨_, rfl⟩
    have hb : bl m = g + 1 := by unfold bl; rw [if_neg z, hg]
    have g63 : g <= 63 := by
      have := log2_small (k := 63) (show m < 2 ^ (63 + 1) by omega)
      omega
    have hlo : 2 ^ g <= m := by rw [<- hg]; exact Nat.log2_self_le z
    have hhi : m < 2 ^ (g + 1) := by rw [<- hg]; exact Nat.lt_log2_self
    obtain ⟨E, hE⟩ : ∃ E, (e - least).toNat = E := ⟨_, rfl⟩
    obtain ⟨Dd, hD⟩ : ∃ Dd, (least - e).toNat = Dd := ⟨_, rfl⟩
    have hlogN : (m * 2 ^ E).log2 = g + E := by rw [log2_mul_pow m E z, hg]
    rw [hE, hD] at hr
    have hrung : rung p Dd (m * 2 ^ E) = (g + E - (p + Dd)) * 2 ^ p + rne (m * 2 ^ E) (2 ^ (g + E - (p + Dd) + Dd)) := by unfold rung; rw [hlogN]
    rw [hrung] at hr
    have hp53 : 2 ^ (p + 1) <= 2 ^ 53 := Nat.pow_le_pow_right (by omega) (by omega)
    have hun : ((g + 1 : Nat) : Int) + e - ((p : Int) + 1) = (g : Int) + e - p := by omega
    have wid : ∀ a : Nat, a < 18446744073709551616 -> IntKind.u64.wrap (a : Int) = (a : Int) := fun a h => by rw [wrap_id] <;> omega
    -- what is kept, in each of the three ways; 'u': the band; 't': how far up
    have kup : ∀ u t : Nat, g + E - (p + Dd) = u -> E = u + Dd + t -> g + t <= p -> rne (m * 2 ^ E) (2 ^ (u + Dd)) = m * 2 ^ t /\ m * 2 ^ t <= 2 ^ (p + 1) := by
      intro u t _ h2 h3
      refine ⟨by rw [h2]; exact rne_up m t (u + Dd), ?_⟩
      have h4 : m * 2 ^ t <= 2 ^ (g + 1) * 2 ^ t := Nat.mul_le_mul_right _ (by omega)
      rw [<- Nat.pow_add] at h4
      exact Nat.le_trans h4 (Nat.pow_le_pow_right (by omega) (by omega))
    have kdn : ∀ u j : Nat, u + Dd = j + E -> g <= p + j -> rne (m * 2 ^ E) (2 ^ (u + Dd)) = rne m (2 ^ j) /\ rne m (2 ^ j) <= 2 ^ (p + 1) := by
      intro u j h2 h3
      refine ⟨by rw [h2]; exact rne_dn m j E, rne_top m j p ?_⟩
      exact Nat.lt_of_lt_of_le hhi (Nat.pow_le_pow_right (by omega) (by omega))
    have fin : ∀ b : Nat, min b I = r -> (I < b -> r = I) /\ (¬ I < b -> r = b) := by intro b h; omega
    by_cases c : (g : Int) + e - p < least
    · have u0 : g + E - (p + Dd) = 0 := by omega
      rw [u0, Nat.zero_mul, Nat.zero_add, Nat.zero_add] at hr
      by_cases d : least < e
      · obtain ⟨k1, k2⟩ := kup 0 E u0 (by omega) (by omega)
        rw [Nat.zero_add] at k1
        rw [k1] at hr
        have hw : IntKind.u64.wrap ((m : Int) * 2 ^ (e - least).toNat) = ((m * 2 ^ E : Nat) : Int) := by rw [hE]; exact wrap_pow _ _ _ rfl (by omega)
        have hw2 := wid (m * 2 ^ E) (by omega)
        generalize m * 2 ^ E = k at *
        by_cases f : I < k
        · rw [(fin k hr).1 f]
          exact smlogtg m p I (g + 1) e least _ w zb (show _ < _ by omega) hb (by omega) (by omega) (by omega) (by omega) (by omega) (by omega) hun c d (by omega) k hw hw2 f
        · rw [(fin k hr).2 f]
          exact smlogts m p I (g + 1) e least _ w zb (show _ < _ by omega) hb (by omega) (by omega) (by omega) (by omega) (by omega) (by omega) hun c d (by omega) k hw hw2 f
      · by_cases d2 : e < least
        · obtain ⟨k1, k2⟩ := kdn 0 Dd (by omega) (by omega)
          rw [Nat.zero_add] at k1
          rw [k1] at hr
          obtain ⟨k, hk⟩ : ∃ k, rne m (2 ^ Dd) = k := ⟨_, rfl⟩
          rw [hk] at hr k2
          have hw2 := wid k (by omega)
          have ok : okm m Dd := okm_of _ _ (by omega)
          by_cases f : I < k
          · rw [(fin k hr).1 f]
            exact smloltg m p I (g + 1) e least _ w zb (show _ < _ by omega) hb (by omega) (by omega) (by omega) (by omega) (by omega) (by omega) hun c d2 Dd (by omega) (by omega) ok k hk hw2 f
          · rw [(fin k hr).2 f]
            exact smlolts m p I (g + 1) e least _ w zb (show _ < _ by omega) hb (by omega) (by omega) (by omega) (by omega) (by omega) (by omega) hun c d2 Dd (by omega) (by omega) ok k hk hw2 f
        · have de : e = least := by omega
          obtain ⟨k1, k2⟩ := kup 0 0 u0 (by omega) (by omega)
          rw [Nat.zero_add, Nat.pow_zero, Nat.mul_one] at k1
          rw [k1] at hr
          have hw2 := wid m (by omega)
          by_cases f : I < m
          · rw [(fin m hr).1 f]
            exact smloeqg m p I (g + 1) e least _ w zb (show _ < _ by omega) hb (by omega) (by omega) (by omega) (by omega) (by omega) (by omega) hun c de hw2 f
          · rw [(fin m hr).2 f]
            exact smloeqs m p I (g + 1) e least _ w zb (show _ < _ by omega) hb (by omega) (by omega) (by omega) (by omega) (by omega) (by omega) hun c de hw2 f
    · obtain ⟨u, hu⟩ : ∃ u, g + E - (p + Dd) = u := ⟨_, rfl⟩
      have hui : (g : Int) + e - p - least = (u : Int) := by omega
      rw [hu] at hr
      have hv := HB u (by omega)
      have hv2 : IntKind.u64.wrap ((u : Int) * 2 ^ p) = ((u * 2 ^ p : Nat) : Int) := wrap_pow _ _ _ rfl (by omega)
      generalize u * 2 ^ p = v at *
      by_cases d : (g : Int) + e - p < e
      · obtain ⟨t, ht⟩ : ∃ t : Nat, (e - ((g : Int) + e - p)).toNat = t := ⟨_, rfl⟩
        obtain ⟨k1, k2⟩ := kup u t hu (by omega) (by omega)
        rw [k1] at hr
        have hw : IntKind.u64.wrap ((m : Int) * 2 ^ (e - ((g : Int) + e - p)).toNat) = ((m * 2 ^ t : Nat) : Int) := by rw [ht]; exact wrap_pow _ _ _ rfl (by omega)
        generalize m * 2 ^ t = k at *
        have hs := wid (v + k) (by omega)
        rw [Int.natCast_add] at hs
        by_cases f : I < v + k
        · rw [(fin _ hr).1 f]
          exact smhigtg m p I (g + 1) e least _ w zb (show _ < _ by omega) hb (by omega) (by omega) (by omega) (by omega) (by omega) (by omega) hun c d (by omega) k hw u v (v + k) hui (by omega) (by omega) hv2 hs f
        · rw [(fin _ hr).2 f]
          exact smhigts m p I (g + 1) e least _ w zb (show _ < _ by omega) hb (by omega) (by omega) (by omega) (by omega) (by omega) (by omega) hun c d (by omega) k hw u v (v + k) hui (by omega) (by omega) hv2 hs f
      · by_cases d2 : e < (g : Int) + e - p
        · obtain ⟨j, hj⟩ : ∃ j : Nat, (g : Int) + e - p - e = (j : Int) := ⟨g - p, by omega⟩
          obtain ⟨k1, k2⟩ := kdn u j (by omega) (by omega)
          rw [k1] at hr
          obtain ⟨k, hk⟩ : ∃ k, rne m (2 ^ j) = k := ⟨_, rfl⟩
          rw [hk] at hr k2
          have ok : okm m j := ⟨hm, fun h => by omega⟩
          have hs := wid (v + k) (by omega)
          rw [Int.natCast_add] at hs
          by_cases f : I < v + k
          · rw [(fin _ hr).1 f]
            exact smhiltg m p I (g + 1) e least _ w zb (show _ < _ by omega) hb (by omega) (by omega) (by omega) (by omega) (by omega) (by omega) hun c d2 j (by omega) hj ok k hk u v (v + k) hui (by omega) (by omega) hv2 hs f
          · rw [(fin _ hr).2 f]
            exact smhilts m p I (g + 1) e least _ w zb (show _ < _ by omega) hb (by omega) (by omega) (by omega) (by omega) (by omega) (by omega) hun c d2 j (by omega) hj ok k hk u v (v + k) hui (by omega) (by omega) hv2 hs f
        · have de : e = (g : Int) + e - p := by omega
          obtain ⟨k1, k2⟩ := kup u 0 hu (by omega) (by omega)
          rw [Nat.pow_zero, Nat.mul_one] at k1 k2
          rw [k1] at hr
          have hs := wid (v + m) (by omega)
          rw [Int.natCast_add] at hs
          by_cases f : I < v + m
          · rw [(fin _ hr).1 f]
            exact smhieqg m p I (g + 1) e least _ w zb (show _ < _ by omega) hb (by omega) (by omega) (by omega) (by omega) (by omega) (by omega) hun c de u v (v + m) hui (by omega) (by omega) hv2 hs f
          · rw [(fin _ hr).2 f]
            exact smhieqs m p I (g + 1) e least _ w zb (show _ < _ by omega) hb (by omega) (by omega) (by omega) (by omega) (by omega) (by omega) hun c de u v (v + m) hui (by omega) (by omega) hv2 hs f
end Go.Proofs.YtdigecacmibkpaaGreatDoor.Ref2
