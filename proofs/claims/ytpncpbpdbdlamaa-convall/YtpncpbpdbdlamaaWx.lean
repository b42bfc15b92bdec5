/-
  What Round, Floor and Clamp of the reference of layer 2 return: walks over the program.
-/
import Derived.Test.YtpncpbpdbdlamaaWq
namespace Go.Proofs.Ytpncpbpdbdlamaa.Ref2
open Go.RowKit Tf
attribute [local go_sem] run_bits run_from raw_feq raw_fne raw_flt raw_fgt run_neg

theorem down_at (m k q : Nat) (c : Int) (w : World) (hm : okm m k) (hk : 1 ≤ k) (hq : m / 2 ^ k = q) (hc : rc m k = c) :
    Calls Try.prog 37 #[.int .u64 (m : Nat), .int .i64 (k : Nat)] w fun e w' => e = .returned (.tuple #[.int .u64 (q : Nat), .int .i64 c]) ∧ w' = w := by
  subst hq hc; exact down_any m k w hm hk
set_option maxHeartbeats 1000000 in
theorem near_01 (m k q : Nat) (w : World) (hm : Hid (okm m k)) (hk : 1 ≤ k) (hq : Hid (m / 2 ^ k = q)) (_q1 : (q : Int) + 1 < 18446744073709551616) (c : Int) (hc : Hid (rc m k = c)) (c3 : (c == 3) = false) (c2 : (c == 2) = false) :
    Calls Try.prog 35 #[.int .u64 (m : Nat), .int .i64 (k : Nat)] w fun e w' => e = .returned (.int .u64 ((q : Nat))) ∧ w' = w := by
  go_enter Try.func35, Try.ntmps35
  go_wp2_with fail
  refine (down_at m k q c _ hm.out hk hq.out hc.out).mono ?_
  rintro e w' ⟨rfl, rfl⟩
  go_wp2
  go_ret
  exact ⟨rfl, rfl⟩

set_option maxHeartbeats 1000000 in
theorem near_3 (m k q : Nat) (w : World) (hm : Hid (okm m k)) (hk : 1 ≤ k) (hq : Hid (m / 2 ^ k = q)) (q1 : (q : Int) + 1 < 18446744073709551616) (hc : Hid (rc m k = 3)) :
    Calls Try.prog 35 #[.int .u64 (m : Nat), .int .i64 (k : Nat)] w fun e w' => e = .returned (.int .u64 ((q : Int) + 1)) ∧ w' = w := by
  go_enter Try.func35, Try.ntmps35
  go_wp2_with fail
  refine (down_at m k q 3 _ hm.out hk hq.out hc.out).mono ?_
  rintro e w' ⟨rfl, rfl⟩
  go_wp2
  go_ret
  exact ⟨rfl, rfl⟩

set_option maxHeartbeats 1000000 in
theorem near_2o (m k q : Nat) (w : World) (hm : Hid (okm m k)) (hk : 1 ≤ k) (hq : Hid (m / 2 ^ k = q)) (q1 : (q : Int) + 1 < 18446744073709551616) (hc : Hid (rc m k = 2)) (o : ((q : Int) % 2 == 1) = true) :
    Calls Try.prog 35 #[.int .u64 (m : Nat), .int .i64 (k : Nat)] w fun e w' => e = .returned (.int .u64 ((q : Int) + 1)) ∧ w' = w := by
  go_enter Try.func35, Try.ntmps35
  go_wp2_with fail
  refine (down_at m k q 2 _ hm.out hk hq.out hc.out).mono ?_
  rintro e w' ⟨rfl, rfl⟩
  go_wp2
  go_ret
  exact ⟨rfl, rfl⟩

set_option maxHeartbeats 1000000 in
theorem near_2e (m k q : Nat) (w : World) (hm : Hid (okm m k)) (hk : 1 ≤ k) (hq : Hid (m / 2 ^ k = q)) (_q1 : (q : Int) + 1 < 18446744073709551616) (hc : Hid (rc m k = 2)) (o : ((q : Int) % 2 == 1) = false) :
    Calls Try.prog 35 #[.int .u64 (m : Nat), .int .i64 (k : Nat)] w fun e w' => e = .returned (.int .u64 ((q : Nat))) ∧ w' = w := by
  go_enter Try.func35, Try.ntmps35
  go_wp2_with fail
  refine (down_at m k q 2 _ hm.out hk hq.out hc.out).mono ?_
  rintro e w' ⟨rfl, rfl⟩
  go_wp2
  go_ret
  exact ⟨rfl, rfl⟩


theorem near_at (m k r : Nat) (w : World) (hm : okm m k) (hk : 1 ≤ k) (hr : rne m (2 ^ k) = r) :
    Calls Try.prog 35 #[.int .u64 (m : Nat), .int .i64 (k : Nat)] w fun e w' => e = .returned (.int .u64 (r : Nat)) ∧ w' = w := by
  subst hr
  have hq : m / 2 ^ k ≤ m := Nat.div_le_self ..
  have l : ((m / 2 ^ k : Nat) : Int) + 1 < 18446744073709551616 := by have := hm.1; omega
  unfold rne
  have hrc : rc m k = if m % 2 ^ k = 0 then 0 else if 2 * (m % 2 ^ k) < 2 ^ k then 1 else if 2 * (m % 2 ^ k) = 2 ^ k then 2 else 3 := rfl
  have hp := pow_pos k
  by_cases c0 : m % 2 ^ k = 0
  · rw [if_pos c0] at hrc
    rw [if_neg (by omega)]
    exact near_01 m k _ w hm hk rfl l 0 hrc (by decide) (by decide)
  · rw [if_neg c0] at hrc
    by_cases c1 : 2 * (m % 2 ^ k) < 2 ^ k
    · rw [if_pos c1] at hrc
      rw [if_neg (by omega)]
      exact near_01 m k _ w hm hk rfl l 1 hrc (by decide) (by decide)
    · rw [if_neg c1] at hrc
      by_cases c2 : 2 * (m % 2 ^ k) = 2 ^ k
      · rw [if_pos c2] at hrc
        by_cases c3 : m / 2 ^ k % 2 = 1
        · rw [if_pos (.inr ⟨c2.symm, c3⟩)]
          exact near_2o m k _ w hm hk rfl l hrc (by simp only [beq_iff_eq]; omega)
        · rw [if_neg (by omega)]
          exact near_2e m k _ w hm hk rfl l hrc (by simp only [beq_eq_false_iff_ne, ne_eq]; omega)
      · rw [if_neg c2] at hrc
        rw [if_pos (by omega)]
        exact near_3 m k _ w hm hk rfl l hrc

/-- a magnitude with its sign -/
def wk (neg : Bool) (m : Nat) : Bool := if neg then decide (m ≤ 9223372036854775808) else decide (m < 9223372036854775808)
def wi (neg : Bool) (m : Nat) : Int := if wk neg m then (if neg then -(m : Int) else (m : Int)) else 0
set_option maxHeartbeats 1000000 in
theorem whole_n (m : Nat) (w : World) (h : (m : Int) ≤ 9223372036854775808) (e1 : wrap64 (IntKind.u64.wrap (-(m : Int))) = -(m : Int)) :
    Calls Try.prog 34 #[.bool true, .int .u64 (m : Nat)] w fun e w' => e = .returned (.tuple #[.int .i64 (-(m : Int)), .bool true]) ∧ w' = w := by
  go_enter Try.func34, Try.ntmps34
  go_wp2
  go_ret2
  refine ⟨?_, rfl⟩
  show Ending.returned (.tuple #[.int .i64 (wrap64 (IntKind.u64.wrap (-(m : Int)))), .bool true]) = _
  rw [e1]

set_option maxHeartbeats 1000000 in
theorem whole_no (m : Nat) (w : World) (h : ¬ (m : Int) ≤ 9223372036854775808) :
    Calls Try.prog 34 #[.bool true, .int .u64 (m : Nat)] w fun e w' => e = .returned (.tuple #[.int .i64 0, .bool false]) ∧ w' = w := by
  go_enter Try.func34, Try.ntmps34
  go_wp2
  go_ret2
  exact ⟨rfl, rfl⟩

set_option maxHeartbeats 1000000 in
theorem whole_p (m : Nat) (w : World) (h : decide ((9223372036854775808 : Int) ≤ (m : Int)) = false) (e1 : wrap64 (m : Int) = (m : Int)) :
    Calls Try.prog 34 #[.bool false, .int .u64 (m : Nat)] w fun e w' => e = .returned (.tuple #[.int .i64 (m : Int), .bool true]) ∧ w' = w := by
  go_enter Try.func34, Try.ntmps34
  go_wp2
  go_ret2
  refine ⟨?_, rfl⟩
  show Ending.returned (.tuple #[.int .i64 (wrap64 (m : Int)), .bool true]) = _
  rw [e1]

set_option maxHeartbeats 1000000 in
theorem whole_po (m : Nat) (w : World) (h : decide ((9223372036854775808 : Int) ≤ (m : Int)) = true) :
    Calls Try.prog 34 #[.bool false, .int .u64 (m : Nat)] w fun e w' => e = .returned (.tuple #[.int .i64 0, .bool false]) ∧ w' = w := by
  go_enter Try.func34, Try.ntmps34
  go_wp2
  go_ret2
  exact ⟨rfl, rfl⟩

theorem whole_at (neg : Bool) (m : Nat) (i : Int) (ok : Bool) (w : World) (hm : m < 18446744073709551616) (hi : wi neg m = i) (hk : wk neg m = ok) :
    Calls Try.prog 34 #[.bool neg, .int .u64 (m : Nat)] w fun e w' => e = .returned (.tuple #[.int .i64 i, .bool ok]) ∧ w' = w := by
  subst hi hk
  unfold wi wk
  cases neg
  · simp only [Bool.false_eq_true, if_false]
    by_cases c : m < 9223372036854775808
    · rw [decide_eq_true c, if_pos rfl]; exact whole_p m w (decide_eq_false (by omega)) (by unfold wrap64; omega)
    · rw [decide_eq_false c, if_neg (by decide)]; exact whole_po m w (decide_eq_true (by omega))
  · simp only [if_true]
    by_cases c : m ≤ 9223372036854775808
    · rw [decide_eq_true c, if_pos rfl]
      refine whole_n m w (by omega) ?_
      unfold wrap64
      by_cases z : m = 0
      · subst z; decide
      · have : IntKind.u64.wrap (-(m : Int)) = 18446744073709551616 - (m : Int) := by
          simp [IntKind.wrap, IntKind.bits, IntKind.signed]; omega
        rw [this]; omega
    · rw [decide_eq_false c, if_neg (by decide)]; exact whole_no m w (by omega)

/-- too great for 64 bits -/
def gr (m e : Nat) : Bool := decide (m ≠ 0) && (decide (11 < e) || decide (9223372036854775808 / 2 ^ e < m))
set_option maxHeartbeats 1000000 in
theorem great_0 (e : Nat) (w : World) :
    Calls Try.prog 33 #[.int .u64 0, .int .i64 (e : Nat)] w fun e w' => e = .returned (.bool false) ∧ w' = w := by
  go_enter Try.func33, Try.ntmps33
  go_wp2
  go_ret
  exact ⟨rfl, rfl⟩

set_option maxHeartbeats 1000000 in
theorem great_e (m e : Nat) (w : World) (h : ((m : Int) != 0) = true) (h1 : (11 : Int) < e) :
    Calls Try.prog 33 #[.int .u64 (m : Nat), .int .i64 (e : Nat)] w fun e w' => e = .returned (.bool true) ∧ w' = w := by
  go_enter Try.func33, Try.ntmps33
  go_wp2
  go_ret
  exact ⟨rfl, rfl⟩

set_option maxHeartbeats 1000000 in
theorem great_m (m e : Nat) (b : Bool) (w : World) (h : ((m : Int) != 0) = true) (h1 : ¬ (11 : Int) < e) (h2 : decide ((9223372036854775808 : Int) / 2 ^ e < (m : Int)) = b) :
    Calls Try.prog 33 #[.int .u64 (m : Nat), .int .i64 (e : Nat)] w fun e w' => e = .returned (.bool b) ∧ w' = w := by
  go_enter Try.func33, Try.ntmps33
  go_wp2
  go_ret
  exact ⟨rfl, rfl⟩

theorem great_at (m e : Nat) (b : Bool) (w : World) (hb : gr m e = b) :
    Calls Try.prog 33 #[.int .u64 (m : Nat), .int .i64 (e : Nat)] w fun e w' => e = .returned (.bool b) ∧ w' = w := by
  subst hb
  unfold gr
  by_cases z : m = 0
  · subst z; exact great_0 e w
  · have h : ((m : Int) != 0) = true := by simp; omega
    rw [decide_eq_true z, Bool.true_and]
    by_cases c : 11 < e
    · rw [decide_eq_true c, Bool.true_or]; exact great_e m e w h (by omega)
    · rw [decide_eq_false c, Bool.false_or]
      refine great_m m e _ w h (by omega) (decide_eq_decide.2 ?_)
      have e1 : (9223372036854775808 : Int) / 2 ^ e = ((9223372036854775808 / 2 ^ e : Nat) : Int) := by
        rw [Int.natCast_ediv]; rfl
      rw [e1]; omega

theorem greatI (m : Nat) (e : Int) (b : Bool) (w : World) (he : 0 ≤ e) (hb : gr m e.toNat = b) :
    Calls Try.prog 33 #[.int .u64 (m : Nat), .int .i64 e] w fun e w' => e = .returned (.bool b) ∧ w' = w := by
  obtain ⟨k, rfl⟩ : ∃ k : Nat, e = k := ⟨e.toNat, by omega⟩
  rw [Int.toNat_natCast] at hb
  exact great_at m k b w hb
theorem parts_at (x m : Nat) (e : Int) (n : Bool) (w : World) (hx : x < 18446744073709551616) (fx : mg x < 9218868437227405312) (hm : pm x = m) (he : pe x = e) (hn : ng x = n) :
    Calls Try.prog 32 #[.float .f64 x] w fun e' w' => e' = .returned (.tuple #[.bool n, .int .u64 (m : Nat), .int .i64 e, .int .i64 0]) ∧ w' = w := by
  subst hm he hn; exact parts_fin x w hx fx
theorem parts_iat (x : Nat) (n : Bool) (w : World) (hx : x < 18446744073709551616) (fx : mg x = 9218868437227405312) (hn : ng x = n) :
    Calls Try.prog 32 #[.float .f64 x] w fun e w' => e = .returned (.tuple #[.bool n, .int .u64 0, .int .i64 0, .int .i64 1]) ∧ w' = w := by
  subst hn; exact parts_i x w hx fx
theorem parts_nat (x : Nat) (n : Bool) (w : World) (hx : x < 18446744073709551616) (fx : isN x = true) (hn : ng x = n) :
    Calls Try.prog 32 #[.float .f64 x] w fun e w' => e = .returned (.tuple #[.bool n, .int .u64 0, .int .i64 0, .int .i64 2]) ∧ w' = w := by
  subst hn; exact parts_n x w hx fx
set_option maxHeartbeats 1000000 in
theorem rr_inf (x : Nat) (n : Bool) (w : World) (hx : Hid (x < 18446744073709551616)) (hn : Hid (ng x = n)) (fx : Hid (mg x = 9218868437227405312)) :
    Calls Try.prog 11 #[.float .f64 x] w fun e w' => e = .returned (.tuple #[.int .i64 0, .bool false]) ∧ w' = w := by
  go_enter Try.func11, Try.ntmps11
  go_wp2_with fail
  refine (parts_iat x n _ hx.out fx.out hn.out).mono ?_
  rintro e w' ⟨rfl, rfl⟩
  go_wp2
  go_ret2
  exact ⟨rfl, rfl⟩

set_option maxHeartbeats 1000000 in
theorem rr_nan (x : Nat) (n : Bool) (w : World) (hx : Hid (x < 18446744073709551616)) (hn : Hid (ng x = n)) (fx : Hid (isN x = true)) :
    Calls Try.prog 11 #[.float .f64 x] w fun e w' => e = .returned (.tuple #[.int .i64 0, .bool false]) ∧ w' = w := by
  go_enter Try.func11, Try.ntmps11
  go_wp2_with fail
  refine (parts_nat x n _ hx.out fx.out hn.out).mono ?_
  rintro e w' ⟨rfl, rfl⟩
  go_wp2
  go_ret2
  exact ⟨rfl, rfl⟩

set_option maxHeartbeats 1000000 in
theorem rr_gr (x : Nat) (n : Bool) (w : World) (hx : Hid (x < 18446744073709551616)) (hn : Hid (ng x = n)) (fx : Hid (mg x < 9218868437227405312)) (m : Nat) (pm' : Hid (pm x = m)) (e : Int) (e0 : 0 ≤ e) (pe' : Hid (pe x = e)) (g : Hid (gr m e.toNat = true)) :
    Calls Try.prog 11 #[.float .f64 x] w fun e w' => e = .returned (.tuple #[.int .i64 0, .bool false]) ∧ w' = w := by
  go_enter Try.func11, Try.ntmps11
  go_wp2_with fail
  refine (parts_at x m e n _ hx.out fx.out pm'.out pe'.out hn.out).mono ?_
  rintro e w' ⟨rfl, rfl⟩
  go_wp2_with fail
  refine (greatI m e true _ e0 g.out).mono ?_
  rintro e w' ⟨rfl, rfl⟩
  go_wp2
  go_ret2
  exact ⟨rfl, rfl⟩

set_option maxHeartbeats 1000000 in
theorem rr_up (x : Nat) (n : Bool) (w : World) (hx : Hid (x < 18446744073709551616)) (hn : Hid (ng x = n)) (fx : Hid (mg x < 9218868437227405312)) (m : Nat) (pm' : Hid (pm x = m)) (e : Int) (e0 : 0 ≤ e) (e1 : e < 12) (pe' : Hid (pe x = e)) (g : Hid (gr m e.toNat = false)) (p : Nat) (hp : IntKind.u64.wrap ((m : Int) * 2 ^ e.toNat) = (p : Int)) (lp : Hid (p < 18446744073709551616)) (i : Int) (ok : Bool) (hi : Hid (wi n p = i)) (hk : Hid (wk n p = ok)) :
    Calls Try.prog 11 #[.float .f64 x] w fun e w' => e = .returned (.tuple #[.int .i64 i, .bool ok]) ∧ w' = w := by
  go_enter Try.func11, Try.ntmps11
  go_wp2_with fail
  refine (parts_at x m e n _ hx.out fx.out pm'.out pe'.out hn.out).mono ?_
  rintro e w' ⟨rfl, rfl⟩
  go_wp2_with fail
  refine (greatI m e false _ e0 g.out).mono ?_
  rintro e w' ⟨rfl, rfl⟩
  go_wp2_with fail
  refine (whole_at n p i ok _ lp.out hi.out hk.out).mono ?_
  rintro e w' ⟨rfl, rfl⟩
  go_wp2
  go_ret2
  exact ⟨rfl, rfl⟩

set_option maxHeartbeats 1000000 in
theorem rf_inf (x : Nat) (n : Bool) (w : World) (hx : Hid (x < 18446744073709551616)) (hn : Hid (ng x = n)) (fx : Hid (mg x = 9218868437227405312)) :
    Calls Try.prog 13 #[.float .f64 x] w fun e w' => e = .returned (.tuple #[.int .i64 0, .bool false]) ∧ w' = w := by
  go_enter Try.func13, Try.ntmps13
  go_wp2_with fail
  refine (parts_iat x n _ hx.out fx.out hn.out).mono ?_
  rintro e w' ⟨rfl, rfl⟩
  go_wp2
  go_ret2
  exact ⟨rfl, rfl⟩

set_option maxHeartbeats 1000000 in
theorem rf_nan (x : Nat) (n : Bool) (w : World) (hx : Hid (x < 18446744073709551616)) (hn : Hid (ng x = n)) (fx : Hid (isN x = true)) :
    Calls Try.prog 13 #[.float .f64 x] w fun e w' => e = .returned (.tuple #[.int .i64 0, .bool false]) ∧ w' = w := by
  go_enter Try.func13, Try.ntmps13
  go_wp2_with fail
  refine (parts_nat x n _ hx.out fx.out hn.out).mono ?_
  rintro e w' ⟨rfl, rfl⟩
  go_wp2
  go_ret2
  exact ⟨rfl, rfl⟩

set_option maxHeartbeats 1000000 in
theorem rf_gr (x : Nat) (n : Bool) (w : World) (hx : Hid (x < 18446744073709551616)) (hn : Hid (ng x = n)) (fx : Hid (mg x < 9218868437227405312)) (m : Nat) (pm' : Hid (pm x = m)) (e : Int) (e0 : 0 ≤ e) (pe' : Hid (pe x = e)) (g : Hid (gr m e.toNat = true)) :
    Calls Try.prog 13 #[.float .f64 x] w fun e w' => e = .returned (.tuple #[.int .i64 0, .bool false]) ∧ w' = w := by
  go_enter Try.func13, Try.ntmps13
  go_wp2_with fail
  refine (parts_at x m e n _ hx.out fx.out pm'.out pe'.out hn.out).mono ?_
  rintro e w' ⟨rfl, rfl⟩
  go_wp2_with fail
  refine (greatI m e true _ e0 g.out).mono ?_
  rintro e w' ⟨rfl, rfl⟩
  go_wp2
  go_ret2
  exact ⟨rfl, rfl⟩

set_option maxHeartbeats 1000000 in
theorem rf_up (x : Nat) (n : Bool) (w : World) (hx : Hid (x < 18446744073709551616)) (hn : Hid (ng x = n)) (fx : Hid (mg x < 9218868437227405312)) (m : Nat) (pm' : Hid (pm x = m)) (e : Int) (e0 : 0 ≤ e) (e1 : e < 12) (pe' : Hid (pe x = e)) (g : Hid (gr m e.toNat = false)) (p : Nat) (hp : IntKind.u64.wrap ((m : Int) * 2 ^ e.toNat) = (p : Int)) (lp : Hid (p < 18446744073709551616)) (i : Int) (ok : Bool) (hi : Hid (wi n p = i)) (hk : Hid (wk n p = ok)) :
    Calls Try.prog 13 #[.float .f64 x] w fun e w' => e = .returned (.tuple #[.int .i64 i, .bool ok]) ∧ w' = w := by
  go_enter Try.func13, Try.ntmps13
  go_wp2_with fail
  refine (parts_at x m e n _ hx.out fx.out pm'.out pe'.out hn.out).mono ?_
  rintro e w' ⟨rfl, rfl⟩
  go_wp2_with fail
  refine (greatI m e false _ e0 g.out).mono ?_
  rintro e w' ⟨rfl, rfl⟩
  go_wp2_with fail
  refine (whole_at n p i ok _ lp.out hi.out hk.out).mono ?_
  rintro e w' ⟨rfl, rfl⟩
  go_wp2
  go_ret2
  exact ⟨rfl, rfl⟩

set_option maxHeartbeats 1000000 in
theorem rr_dn (x : Nat) (n : Bool) (w : World) (hx : Hid (x < 18446744073709551616)) (hn : Hid (ng x = n)) (fx : Hid (mg x < 9218868437227405312)) (m : Nat) (pm' : Hid (pm x = m)) (k : Nat) (lm : Hid (okm m k)) (k1 : 1 ≤ k) (e : Int) (e1 : -5000 < e) (ek : -e = (k : Int)) (pe' : Hid (pe x = e)) (r : Nat) (hr : Hid (rne m (2 ^ k) = r)) (lr : Hid (r < 18446744073709551616)) (i : Int) (ok : Bool) (hi : Hid (wi n r = i)) (hk : Hid (wk n r = ok)) :
    Calls Try.prog 11 #[.float .f64 x] w fun e w' => e = .returned (.tuple #[.int .i64 i, .bool ok]) ∧ w' = w := by
  go_enter Try.func11, Try.ntmps11
  go_wp2_with fail
  refine (parts_at x m e n _ hx.out fx.out pm'.out pe'.out hn.out).mono ?_
  rintro e w' ⟨rfl, rfl⟩
  go_wp2_with fail
  refine (near_at m k r _ lm.out k1 hr.out).mono ?_
  rintro e w' ⟨rfl, rfl⟩
  go_wp2_with fail
  refine (whole_at n r i ok _ lr.out hi.out hk.out).mono ?_
  rintro e w' ⟨rfl, rfl⟩
  go_wp2
  go_ret2
  exact ⟨rfl, rfl⟩

set_option maxHeartbeats 1000000 in
theorem rf_dnf (x : Nat) (w : World) (hx : Hid (x < 18446744073709551616)) (hn : Hid (ng x = false)) (fx : Hid (mg x < 9218868437227405312)) (m : Nat) (pm' : Hid (pm x = m)) (k : Nat) (lm : Hid (okm m k)) (k1 : 1 ≤ k) (e : Int) (e1 : -5000 < e) (ek : -e = (k : Int)) (pe' : Hid (pe x = e)) (q : Nat) (c : Int) (hq : Hid (m / 2 ^ k = q)) (hc : Hid (rc m k = c)) (i : Int) (ok : Bool)  (lq' : Hid (q < 18446744073709551616)) (hi : Hid (wi false q = i)) (hk : Hid (wk false q = ok)) :
    Calls Try.prog 13 #[.float .f64 x] w fun e w' => e = .returned (.tuple #[.int .i64 i, .bool ok]) ∧ w' = w := by
  go_enter Try.func13, Try.ntmps13
  go_wp2_with fail
  refine (parts_at x m e false _ hx.out fx.out pm'.out pe'.out hn.out).mono ?_
  rintro e w' ⟨rfl, rfl⟩
  go_wp2_with fail
  refine (down_at m k q c _ lm.out k1 hq.out hc.out).mono ?_
  rintro e w' ⟨rfl, rfl⟩
  go_wp2_with fail
  refine (whole_at false q i ok _ lq'.out hi.out hk.out).mono ?_
  rintro e w' ⟨rfl, rfl⟩
  go_wp2
  go_ret2
  exact ⟨rfl, rfl⟩

set_option maxHeartbeats 1000000 in
theorem rf_dnt (x : Nat) (w : World) (hx : Hid (x < 18446744073709551616)) (hn : Hid (ng x = true)) (fx : Hid (mg x < 9218868437227405312)) (m : Nat) (pm' : Hid (pm x = m)) (k : Nat) (lm : Hid (okm m k)) (k1 : 1 ≤ k) (e : Int) (e1 : -5000 < e) (ek : -e = (k : Int)) (pe' : Hid (pe x = e)) (q : Nat) (c : Int) (hq : Hid (m / 2 ^ k = q)) (hc : Hid (rc m k = c)) (i : Int) (ok : Bool) (hs : ¬ 0 < c) (lq' : Hid (q < 18446744073709551616)) (hi : Hid (wi true q = i)) (hk : Hid (wk true q = ok)) :
    Calls Try.prog 13 #[.float .f64 x] w fun e w' => e = .returned (.tuple #[.int .i64 i, .bool ok]) ∧ w' = w := by
  go_enter Try.func13, Try.ntmps13
  go_wp2_with fail
  refine (parts_at x m e true _ hx.out fx.out pm'.out pe'.out hn.out).mono ?_
  rintro e w' ⟨rfl, rfl⟩
  go_wp2_with fail
  refine (down_at m k q c _ lm.out k1 hq.out hc.out).mono ?_
  rintro e w' ⟨rfl, rfl⟩
  go_wp2_with fail
  refine (whole_at true q i ok _ lq'.out hi.out hk.out).mono ?_
  rintro e w' ⟨rfl, rfl⟩
  go_wp2
  go_ret2
  exact ⟨rfl, rfl⟩

set_option maxHeartbeats 1000000 in
theorem rf_dnu (x : Nat) (w : World) (hx : Hid (x < 18446744073709551616)) (hn : Hid (ng x = true)) (fx : Hid (mg x < 9218868437227405312)) (m : Nat) (pm' : Hid (pm x = m)) (k : Nat) (lm : Hid (okm m k)) (k1 : 1 ≤ k) (e : Int) (e1 : -5000 < e) (ek : -e = (k : Int)) (pe' : Hid (pe x = e)) (q : Nat) (c : Int) (hq : Hid (m / 2 ^ k = q)) (hc : Hid (rc m k = c)) (i : Int) (ok : Bool) (hs : 0 < c) (p : Nat) (hp : IntKind.u64.wrap ((q : Int) + 1) = (p : Int)) (lq' : Hid (p < 18446744073709551616)) (hi : Hid (wi true p = i)) (hk : Hid (wk true p = ok)) :
    Calls Try.prog 13 #[.float .f64 x] w fun e w' => e = .returned (.tuple #[.int .i64 i, .bool ok]) ∧ w' = w := by
  go_enter Try.func13, Try.ntmps13
  go_wp2_with fail
  refine (parts_at x m e true _ hx.out fx.out pm'.out pe'.out hn.out).mono ?_
  rintro e w' ⟨rfl, rfl⟩
  go_wp2_with fail
  refine (down_at m k q c _ lm.out k1 hq.out hc.out).mono ?_
  rintro e w' ⟨rfl, rfl⟩
  go_wp2_with fail
  refine (whole_at true p i ok _ lq'.out hi.out hk.out).mono ?_
  rintro e w' ⟨rfl, rfl⟩
  go_wp2
  go_ret2
  exact ⟨rfl, rfl⟩

end Go.Proofs.Ytpncpbpdbdlamaa.Ref2
