/-
  Some of the texts of this proof, one behind the other.
-/
import Derived.Test.YtbibhgikmnpbfaaGreatDoorRb11
namespace Go.Proofs.YtbibhgikmnpbfaaGreatDoor.Ref2
open Go.RowKit Tf
attribute [local go_sem] run_bits run_from raw_feq raw_fne raw_flt raw_fgt run_neg

set_option maxHeartbeats 400000 in
theorem rawBits_any (x : Nat) (w : World) :
    Calls Tryz.prog 122 #[.float .f64 x] w fun e w' => e = .returned (.int .u64 (x : Nat)) ∧ w' = w := by
  go_enter Tryz.func122, Tryz.ntmps122
  go_wp2
  go_ret
  exact ⟨rfl, rfl⟩

theorem from_at (a : Int) (r : Nat) (w : World) (hr : a.toNat = r) :
    Calls Tryz.prog 102 #[.int .u64 a] w fun e w' => e = .returned (.float .f64 r) ∧ w' = w := by
  subst hr; exact from_any a w

/-- a float's parts -/
def pm (x : Nat) : Nat := if mg x / 4503599627370496 = 0 then mg x else mg x % 4503599627370496 + 4503599627370496
def pe (x : Nat) : Int := if mg x / 4503599627370496 = 0 then -1074 else ((mg x / 4503599627370496 : Nat) : Int) - 1075
theorem pm_lt (x : Nat) : pm x < 9007199254740992 := by unfold pm; split <;> omega
theorem pe_ge (x : Nat) : -1074 ≤ pe x := by unfold pe; split <;> omega
theorem mv_parts (x : Nat) : mv (mg x) = pm x * 2 ^ (pe x + 1074).toNat := by
  have e : (2 : Nat) ^ 52 = 4503599627370496 := by decide
  unfold mv mag pm pe
  rw [e]
  by_cases h : mg x / 4503599627370496 = 0
  · rw [if_pos h, if_pos h, if_pos (by omega)]; simp
  · rw [if_neg h, if_neg h, if_neg (by omega)]
    have e2 : (((mg x / 4503599627370496 : Nat) : Int) - 1075 + 1074).toNat = mg x / 4503599627370496 - 1 := by omega
    rw [e2, Nat.add_comm]
set_option maxHeartbeats 1000000 in
theorem parts_inf (x : Nat) (n : Bool) (w : World) (hn : ((x : Int) / 9223372036854775808 == 1) = n) (h1 : (x : Int) / 4503599627370496 % 2048 = 2047) (h2 : ((x : Int) % 4503599627370496 == 0) = true) :
    Calls Tryz.prog 149 #[.float .f64 x] w fun e w' => e = .returned (.tuple #[.bool n, .int .u64 0, .int .i64 0, .int .i64 1]) ∧ w' = w := by
  go_enter Tryz.func149, Tryz.ntmps149
  go_wp2_with fail
  refine (rawBits_any x _).mono ?_
  rintro e w' ⟨rfl, rfl⟩
  go_wp2
  refine bodyPost_ret (v := .tuple #[.bool n, .int .u64 0, .int .i64 0, .int .i64 1]) (by simp [results, Tryz.results149, go_sem]) rfl ⟨rfl, rfl⟩

set_option maxHeartbeats 1000000 in
theorem parts_nan (x : Nat) (n : Bool) (w : World) (hn : ((x : Int) / 9223372036854775808 == 1) = n) (h1 : (x : Int) / 4503599627370496 % 2048 = 2047) (h2 : ((x : Int) % 4503599627370496 == 0) = false) :
    Calls Tryz.prog 149 #[.float .f64 x] w fun e w' => e = .returned (.tuple #[.bool n, .int .u64 0, .int .i64 0, .int .i64 2]) ∧ w' = w := by
  go_enter Tryz.func149, Tryz.ntmps149
  go_wp2_with fail
  refine (rawBits_any x _).mono ?_
  rintro e w' ⟨rfl, rfl⟩
  go_wp2
  refine bodyPost_ret (v := .tuple #[.bool n, .int .u64 0, .int .i64 0, .int .i64 2]) (by simp [results, Tryz.results149, go_sem]) rfl ⟨rfl, rfl⟩

set_option maxHeartbeats 1000000 in
theorem parts_sub (x : Nat) (n : Bool) (w : World) (hn : ((x : Int) / 9223372036854775808 == 1) = n) (h1 : (x : Int) / 4503599627370496 % 2048 = 0) (m : Nat) (h2 : (x : Int) % 4503599627370496 = m) :
    Calls Tryz.prog 149 #[.float .f64 x] w fun e w' => e = .returned (.tuple #[.bool n, .int .u64 (m : Nat), .int .i64 (-1074), .int .i64 0]) ∧ w' = w := by
  go_enter Tryz.func149, Tryz.ntmps149
  go_wp2_with fail
  refine (rawBits_any x _).mono ?_
  rintro e w' ⟨rfl, rfl⟩
  go_wp2
  refine bodyPost_ret (v := .tuple #[.bool n, .int .u64 (m : Nat), .int .i64 (-1074), .int .i64 0]) (by simp [results, Tryz.results149, go_sem, h2]) rfl ⟨rfl, rfl⟩

set_option maxHeartbeats 1000000 in
theorem parts_nor (x : Nat) (n : Bool) (w : World) (hn : ((x : Int) / 9223372036854775808 == 1) = n) (f : Int) (h1 : (x : Int) / 4503599627370496 % 2048 = f) (h3 : (f == 2047) = false) (h4 : (f == 0) = false) (m : Nat) (h2 : (x : Int) % 4503599627370496 = m) :
    Calls Tryz.prog 149 #[.float .f64 x] w fun e w' => e = .returned (.tuple #[.bool n, .int .u64 ((m : Nat) + 4503599627370496), .int .i64 (f - 1075), .int .i64 0]) ∧ w' = w := by
  go_enter Tryz.func149, Tryz.ntmps149
  go_wp2_with fail
  refine (rawBits_any x _).mono ?_
  rintro e w' ⟨rfl, rfl⟩
  go_wp2
  refine bodyPost_ret (v := .tuple #[.bool n, .int .u64 ((m : Nat) + 4503599627370496), .int .i64 (f - 1075), .int .i64 0]) (by simp [results, Tryz.results149, go_sem]) rfl ⟨rfl, rfl⟩


/-- what kind: 0 finite, 1 an infinity, 2 a NaN -/
theorem parts_fin (x : Nat) (w : World) (hx : x < 18446744073709551616) (fx : mg x < 9218868437227405312) :
    Calls Tryz.prog 149 #[.float .f64 x] w fun e w' => e = .returned (.tuple #[.bool (ng x), .int .u64 (pm x : Nat), .int .i64 (pe x), .int .i64 0]) ∧ w' = w := by
  have hn : ((x : Int) / 9223372036854775808 == 1) = ng x := by
    unfold ng
    by_cases c : 9223372036854775808 ≤ x
    · rw [decide_eq_true c]; simp; omega
    · rw [decide_eq_false c]; simp; omega
  have hf : (x : Int) / 4503599627370496 % 2048 = ((mg x / 4503599627370496 : Nat) : Int) := by unfold mg; omega
  have hm : (x : Int) % 4503599627370496 = ((mg x % 4503599627370496 : Nat) : Int) := by unfold mg; omega
  unfold pm pe
  by_cases c : mg x / 4503599627370496 = 0
  · rw [if_pos c, if_pos c]
    have e : mg x % 4503599627370496 = mg x := by omega
    rw [e] at hm
    exact parts_sub x _ w hn (by rw [hf, c]; rfl) _ hm
  · rw [if_neg c, if_neg c]
    have := parts_nor x _ w hn _ hf (by simp; omega) (by simp; omega) _ hm
    have e : ((mg x % 4503599627370496 + 4503599627370496 : Nat) : Int) = ((mg x % 4503599627370496 : Nat) : Int) + 4503599627370496 := by omega
    rw [e]; exact this
theorem parts_i (x : Nat) (w : World) (hx : x < 18446744073709551616) (fx : mg x = 9218868437227405312) :
    Calls Tryz.prog 149 #[.float .f64 x] w fun e w' => e = .returned (.tuple #[.bool (ng x), .int .u64 0, .int .i64 0, .int .i64 1]) ∧ w' = w := by
  have hn : ((x : Int) / 9223372036854775808 == 1) = ng x := by
    unfold ng
    by_cases c : 9223372036854775808 ≤ x
    · rw [decide_eq_true c]; simp; omega
    · rw [decide_eq_false c]; simp; omega
  unfold mg at fx
  exact parts_inf x _ w hn (by omega) (by simp; omega)
theorem parts_n (x : Nat) (w : World) (hx : x < 18446744073709551616) (n : isN x = true) :
    Calls Tryz.prog 149 #[.float .f64 x] w fun e w' => e = .returned (.tuple #[.bool (ng x), .int .u64 0, .int .i64 0, .int .i64 2]) ∧ w' = w := by
  have hn : ((x : Int) / 9223372036854775808 == 1) = ng x := by
    unfold ng
    by_cases c : 9223372036854775808 ≤ x
    · rw [decide_eq_true c]; simp; omega
    · rw [decide_eq_false c]; simp; omega
  have h := isN_true.1 n
  unfold mg at h
  exact parts_nan x _ w hn (by omega) (by simp; omega)

/-- what is left behind a shift: 0 nothing, 1 less than a half, 2 a half, 3 more -/
def rc (m k : Nat) : Int := if m % 2 ^ k = 0 then 0 else if 2 * (m % 2 ^ k) < 2 ^ k then 1 else if 2 * (m % 2 ^ k) = 2 ^ k then 2 else 3
set_option maxHeartbeats 1000000 in
theorem down_g0 (m k : Nat) (w : World) (h : (63 : Int) < k) (h0 : m = 0) :
    Calls Tryz.prog 165 #[.int .u64 (m : Nat), .int .i64 (k : Nat)] w fun e w' => e = .returned (.tuple #[.int .u64 0, .int .i64 0]) ∧ w' = w := by
  subst h0
  go_enter Tryz.func165, Tryz.ntmps165
  go_wp2
  go_ret2
  exact ⟨rfl, rfl⟩

set_option maxHeartbeats 1000000 in
theorem down_g1 (m k : Nat) (w : World) (h : (63 : Int) < k) (h0 : ((m : Int) == 0) = false) :
    Calls Tryz.prog 165 #[.int .u64 (m : Nat), .int .i64 (k : Nat)] w fun e w' => e = .returned (.tuple #[.int .u64 0, .int .i64 1]) ∧ w' = w := by
  go_enter Tryz.func165, Tryz.ntmps165
  go_wp2
  go_ret2
  exact ⟨rfl, rfl⟩

set_option maxHeartbeats 1000000 in
theorem down_0 (m k : Nat) (w : World) (h : ¬ (63 : Int) < k) (k1 : (1 : Int) ≤ k) (q p r g : Nat) (q1 : (m : Int) / 2 ^ k = (q : Int)) (q2 : IntKind.u64.wrap ((q : Int) * 2 ^ k) = (p : Int)) (q3 : IntKind.u64.wrap ((m : Int) - (p : Int)) = (r : Int)) (q4 : IntKind.u64.wrap (2 ^ (k - 1)) = (g : Int)) (c : ((r : Int) == 0) = true) :
    Calls Tryz.prog 165 #[.int .u64 (m : Nat), .int .i64 (k : Nat)] w fun e w' => e = .returned (.tuple #[.int .u64 (q : Nat), .int .i64 0]) ∧ w' = w := by
  go_enter Tryz.func165, Tryz.ntmps165
  go_wp2
  go_ret2
  exact ⟨rfl, rfl⟩

set_option maxHeartbeats 1000000 in
theorem down_1 (m k : Nat) (w : World) (h : ¬ (63 : Int) < k) (k1 : (1 : Int) ≤ k) (q p r g : Nat) (q1 : (m : Int) / 2 ^ k = (q : Int)) (q2 : IntKind.u64.wrap ((q : Int) * 2 ^ k) = (p : Int)) (q3 : IntKind.u64.wrap ((m : Int) - (p : Int)) = (r : Int)) (q4 : IntKind.u64.wrap (2 ^ (k - 1)) = (g : Int)) (c : ((r : Int) == 0) = false) (c1 : r < g) :
    Calls Tryz.prog 165 #[.int .u64 (m : Nat), .int .i64 (k : Nat)] w fun e w' => e = .returned (.tuple #[.int .u64 (q : Nat), .int .i64 1]) ∧ w' = w := by
  go_enter Tryz.func165, Tryz.ntmps165
  go_wp2
  go_ret2
  exact ⟨rfl, rfl⟩

set_option maxHeartbeats 1000000 in
theorem down_2 (m k : Nat) (w : World) (h : ¬ (63 : Int) < k) (k1 : (1 : Int) ≤ k) (q p r g : Nat) (q1 : (m : Int) / 2 ^ k = (q : Int)) (q2 : IntKind.u64.wrap ((q : Int) * 2 ^ k) = (p : Int)) (q3 : IntKind.u64.wrap ((m : Int) - (p : Int)) = (r : Int)) (q4 : IntKind.u64.wrap (2 ^ (k - 1)) = (g : Int)) (c : ((r : Int) == 0) = false) (c1 : ¬ r < g) (c2 : ((r : Int) == (g : Int)) = true) :
    Calls Tryz.prog 165 #[.int .u64 (m : Nat), .int .i64 (k : Nat)] w fun e w' => e = .returned (.tuple #[.int .u64 (q : Nat), .int .i64 2]) ∧ w' = w := by
  go_enter Tryz.func165, Tryz.ntmps165
  go_wp2
  go_ret2
  exact ⟨rfl, rfl⟩

set_option maxHeartbeats 1000000 in
theorem down_3 (m k : Nat) (w : World) (h : ¬ (63 : Int) < k) (k1 : (1 : Int) ≤ k) (q p r g : Nat) (q1 : (m : Int) / 2 ^ k = (q : Int)) (q2 : IntKind.u64.wrap ((q : Int) * 2 ^ k) = (p : Int)) (q3 : IntKind.u64.wrap ((m : Int) - (p : Int)) = (r : Int)) (q4 : IntKind.u64.wrap (2 ^ (k - 1)) = (g : Int)) (c : ((r : Int) == 0) = false) (c1 : ¬ r < g) (c2 : ((r : Int) == (g : Int)) = false) :
    Calls Tryz.prog 165 #[.int .u64 (m : Nat), .int .i64 (k : Nat)] w fun e w' => e = .returned (.tuple #[.int .u64 (q : Nat), .int .i64 3]) ∧ w' = w := by
  go_enter Tryz.func165, Tryz.ntmps165
  go_wp2
  go_ret2
  exact ⟨rfl, rfl⟩


theorem wrap_id (a : Int) (h0 : 0 ≤ a) (h1 : a < 18446744073709551616) : IntKind.u64.wrap a = a := by
  simp [IntKind.wrap, IntKind.bits, IntKind.signed]; omega
/-- what the shift serves -/
def okm (m k : Nat) : Prop := m ≤ 9223372036854775808 ∧ (63 < k → m < 9223372036854775808)
theorem okm_of (m k : Nat) (h : m < 9223372036854775808) : okm m k := ⟨by omega, fun _ => h⟩
theorem down_any (m k : Nat) (w : World) (hm' : okm m k) (hk : 1 ≤ k) :
    Calls Tryz.prog 165 #[.int .u64 (m : Nat), .int .i64 (k : Nat)] w fun e w' => e = .returned (.tuple #[.int .u64 ((m / 2 ^ k : Nat) : Int), .int .i64 (rc m k)]) ∧ w' = w := by
  have hm : m ≤ 9223372036854775808 := hm'.1
  by_cases c : 63 < k
  · have hm2 := hm'.2 c
    have hp : 2 ^ 64 ≤ 2 ^ k := Nat.pow_le_pow_right (by omega) (by omega)
    have e1 : m / 2 ^ k = 0 := Nat.div_eq_of_lt (by omega)
    have e2 : m % 2 ^ k = m := Nat.mod_eq_of_lt (by omega)
    unfold rc
    rw [e1, e2]
    by_cases z : m = 0
    · rw [if_pos z]; exact down_g0 m k w (by omega) z
    · rw [if_neg z, if_pos (by omega)]; exact down_g1 m k w (by omega) (by simp; omega)
  · have hp0 := pow_pos k
    have hp : 2 ^ k ≤ 2 ^ 63 := Nat.pow_le_pow_right (by omega) (by omega)
    have hd := Nat.div_add_mod m (2 ^ k)
    have hr := Nat.mod_lt m hp0
    obtain ⟨j, rfl⟩ : ∃ j, k = j + 1 := ⟨k - 1, by omega⟩
    have hj : 2 ^ (j + 1) = 2 * 2 ^ j := by rw [Nat.pow_succ]; omega
    have hj0 := pow_pos j
    have q1 : (m : Int) / 2 ^ (j + 1) = ((m / 2 ^ (j + 1) : Nat) : Int) := by
      rw [Int.natCast_ediv]; rfl
    have q2 : IntKind.u64.wrap (((m / 2 ^ (j + 1) : Nat) : Int) * 2 ^ (j + 1)) = ((m / 2 ^ (j + 1) * 2 ^ (j + 1) : Nat) : Int) := by
      have e : ((m / 2 ^ (j + 1) : Nat) : Int) * 2 ^ (j + 1) = ((m / 2 ^ (j + 1) * 2 ^ (j + 1) : Nat) : Int) := by
        rw [Int.natCast_mul]; rfl
      rw [e, wrap_id]
      · omega
      · rw [Nat.mul_comm]; omega
    have q3 : IntKind.u64.wrap ((m : Int) - ((m / 2 ^ (j + 1) * 2 ^ (j + 1) : Nat) : Int)) = ((m % 2 ^ (j + 1) : Nat) : Int) := by
      rw [Nat.mul_comm, wrap_id] <;> omega
    have q4 : IntKind.u64.wrap (2 ^ (j + 1 - 1)) = ((2 ^ j : Nat) : Int) := by
      rw [show j + 1 - 1 = j by omega]
      have e : (2 : Int) ^ j = ((2 ^ j : Nat) : Int) := by rw [Int.natCast_pow]; rfl
      rw [e, wrap_id] <;> omega
    unfold rc
    rw [hj] at *
    generalize m / (2 * 2 ^ j) = q at *
    generalize m % (2 * 2 ^ j) = r at *
    rw [hj] at *
    by_cases z : r = 0
    · rw [if_pos z]; exact down_0 m (j + 1) w (by omega) (by omega) q _ r _ q1 q2 q3 q4 (by simp; omega)
    · have z' : ((r : Int) == 0) = false := by simp; omega
      rw [if_neg z]
      by_cases c1 : r < 2 ^ j
      · rw [if_pos (by omega)]; exact down_1 m (j + 1) w (by omega) (by omega) q _ r _ q1 q2 q3 q4 z' c1
      · rw [if_neg (by omega)]
        by_cases c2 : r = 2 ^ j
        · rw [if_pos (by omega)]; exact down_2 m (j + 1) w (by omega) (by omega) q _ r _ q1 q2 q3 q4 z' c1 (by rw [c2]; simp)
        · rw [if_neg (by omega)]; exact down_3 m (j + 1) w (by omega) (by omega) q _ r _ q1 q2 q3 q4 z' c1 (by
            have : ¬ (r : Int) = ((2 ^ j : Nat) : Int) := by omega
            simp only [beq_eq_false_iff_ne, ne_eq, this, not_false_eq_true])
end Go.Proofs.YtbibhgikmnpbfaaGreatDoor.Ref2

namespace Go.Proofs.YtbibhgikmnpbfaaGreatDoor.Ref2
open Go.RowKit Tf
attribute [local go_sem] run_bits run_from raw_feq raw_fne raw_flt raw_fgt run_neg

theorem down_at (m k q : Nat) (c : Int) (w : World) (hm : okm m k) (hk : 1 ≤ k) (hq : m / 2 ^ k = q) (hc : rc m k = c) :
    Calls Tryz.prog 165 #[.int .u64 (m : Nat), .int .i64 (k : Nat)] w fun e w' => e = .returned (.tuple #[.int .u64 (q : Nat), .int .i64 c]) ∧ w' = w := by
  subst hq hc; exact down_any m k w hm hk
set_option maxHeartbeats 1000000 in
theorem near_01 (m k q : Nat) (w : World) (hm : Hid (okm m k)) (hk : 1 ≤ k) (hq : Hid (m / 2 ^ k = q)) (_q1 : (q : Int) + 1 < 18446744073709551616) (c : Int) (hc : Hid (rc m k = c)) (c3 : (c == 3) = false) (c2 : (c == 2) = false) :
    Calls Tryz.prog 142 #[.int .u64 (m : Nat), .int .i64 (k : Nat)] w fun e w' => e = .returned (.int .u64 ((q : Nat))) ∧ w' = w := by
  go_enter Tryz.func142, Tryz.ntmps142
  go_wp2_with fail
  refine (down_at m k q c _ hm.out hk hq.out hc.out).mono ?_
  rintro e w' ⟨rfl, rfl⟩
  go_wp2
  go_ret
  exact ⟨rfl, rfl⟩

set_option maxHeartbeats 1000000 in
theorem near_3 (m k q : Nat) (w : World) (hm : Hid (okm m k)) (hk : 1 ≤ k) (hq : Hid (m / 2 ^ k = q)) (q1 : (q : Int) + 1 < 18446744073709551616) (hc : Hid (rc m k = 3)) :
    Calls Tryz.prog 142 #[.int .u64 (m : Nat), .int .i64 (k : Nat)] w fun e w' => e = .returned (.int .u64 ((q : Int) + 1)) ∧ w' = w := by
  go_enter Tryz.func142, Tryz.ntmps142
  go_wp2_with fail
  refine (down_at m k q 3 _ hm.out hk hq.out hc.out).mono ?_
  rintro e w' ⟨rfl, rfl⟩
  go_wp2
  go_ret
  exact ⟨rfl, rfl⟩

set_option maxHeartbeats 1000000 in
theorem near_2o (m k q : Nat) (w : World) (hm : Hid (okm m k)) (hk : 1 ≤ k) (hq : Hid (m / 2 ^ k = q)) (q1 : (q : Int) + 1 < 18446744073709551616) (hc : Hid (rc m k = 2)) (o : ((q : Int) % 2 == 1) = true) :
    Calls Tryz.prog 142 #[.int .u64 (m : Nat), .int .i64 (k : Nat)] w fun e w' => e = .returned (.int .u64 ((q : Int) + 1)) ∧ w' = w := by
  go_enter Tryz.func142, Tryz.ntmps142
  go_wp2_with fail
  refine (down_at m k q 2 _ hm.out hk hq.out hc.out).mono ?_
  rintro e w' ⟨rfl, rfl⟩
  go_wp2
  go_ret
  exact ⟨rfl, rfl⟩

set_option maxHeartbeats 1000000 in
theorem near_2e (m k q : Nat) (w : World) (hm : Hid (okm m k)) (hk : 1 ≤ k) (hq : Hid (m / 2 ^ k = q)) (_q1 : (q : Int) + 1 < 18446744073709551616) (hc : Hid (rc m k = 2)) (o : ((q : Int) % 2 == 1) = false) :
    Calls Tryz.prog 142 #[.int .u64 (m : Nat), .int .i64 (k : Nat)] w fun e w' => e = .returned (.int .u64 ((q : Nat))) ∧ w' = w := by
  go_enter Tryz.func142, Tryz.ntmps142
  go_wp2_with fail
  refine (down_at m k q 2 _ hm.out hk hq.out hc.out).mono ?_
  rintro e w' ⟨rfl, rfl⟩
  go_wp2
  go_ret
  exact ⟨rfl, rfl⟩


theorem near_at (m k r : Nat) (w : World) (hm : okm m k) (hk : 1 ≤ k) (hr : rne m (2 ^ k) = r) :
    Calls Tryz.prog 142 #[.int .u64 (m : Nat), .int .i64 (k : Nat)] w fun e w' => e = .returned (.int .u64 (r : Nat)) ∧ w' = w := by
  subst hr
  have hq : m / 2 ^ k ≤ m := Nat.div_le_self ..
  have l : ((m / 2 ^ k : Nat) : Int) + 1 < 18446744073709551616 := by have := hm.1; omega
  unfold rne
  have hrc : rc m k = if m % 2 ^ k = 0 then 0 else if 2 * (m % 2 ^ k) < 2 ^ k then 1 else if 2 * (m % 2 ^ k) = 2 ^ k then 2 else 3 := rfl
  have hp := pow_pos k
  by_cases c0 : m % 2 ^ k = 0
  · rw [if_pos c0] at hrc
    rw [if_neg (by omega)]
    exact near_01 m k _ w hm hk rfl l 0 hrc (by decide) (by decide)
  · rw [if_neg c0] at hrc
    by_cases c1 : 2 * (m % 2 ^ k) < 2 ^ k
    · rw [if_pos c1] at hrc
      rw [if_neg (by omega)]
      exact near_01 m k _ w hm hk rfl l 1 hrc (by decide) (by decide)
    · rw [if_neg c1] at hrc
      by_cases c2 : 2 * (m % 2 ^ k) = 2 ^ k
      · rw [if_pos c2] at hrc
        by_cases c3 : m / 2 ^ k % 2 = 1
        · rw [if_pos (.inr ⟨c2.symm, c3⟩)]
          exact near_2o m k _ w hm hk rfl l hrc (by simp only [beq_iff_eq]; omega)
        · rw [if_neg (by omega)]
          exact near_2e m k _ w hm hk rfl l hrc (by simp only [beq_eq_false_iff_ne, ne_eq]; omega)
      · rw [if_neg c2] at hrc
        rw [if_pos (by omega)]
        exact near_3 m k _ w hm hk rfl l hrc

/-- a magnitude with its sign -/
def wk (neg : Bool) (m : Nat) : Bool := if neg then decide (m ≤ 9223372036854775808) else decide (m < 9223372036854775808)
def wi (neg : Bool) (m : Nat) : Int := if wk neg m then (if neg then -(m : Int) else (m : Int)) else 0
set_option maxHeartbeats 1000000 in
theorem whole_n (m : Nat) (w : World) (h : (m : Int) ≤ 9223372036854775808) (e1 : wrap64 (IntKind.u64.wrap (-(m : Int))) = -(m : Int)) :
    Calls Tryz.prog 151 #[.bool true, .int .u64 (m : Nat)] w fun e w' => e = .returned (.tuple #[.int .i64 (-(m : Int)), .bool true]) ∧ w' = w := by
  go_enter Tryz.func151, Tryz.ntmps151
  go_wp2
  go_ret2
  refine ⟨?_, rfl⟩
  show Ending.returned (.tuple #[.int .i64 (wrap64 (IntKind.u64.wrap (-(m : Int)))), .bool true]) = _
  rw [e1]

set_option maxHeartbeats 1000000 in
theorem whole_no (m : Nat) (w : World) (h : ¬ (m : Int) ≤ 9223372036854775808) :
    Calls Tryz.prog 151 #[.bool true, .int .u64 (m : Nat)] w fun e w' => e = .returned (.tuple #[.int .i64 0, .bool false]) ∧ w' = w := by
  go_enter Tryz.func151, Tryz.ntmps151
  go_wp2
  go_ret2
  exact ⟨rfl, rfl⟩

set_option maxHeartbeats 1000000 in
theorem whole_p (m : Nat) (w : World) (h : decide ((9223372036854775808 : Int) ≤ (m : Int)) = false) (e1 : wrap64 (m : Int) = (m : Int)) :
    Calls Tryz.prog 151 #[.bool false, .int .u64 (m : Nat)] w fun e w' => e = .returned (.tuple #[.int .i64 (m : Int), .bool true]) ∧ w' = w := by
  go_enter Tryz.func151, Tryz.ntmps151
  go_wp2
  go_ret2
  refine ⟨?_, rfl⟩
  show Ending.returned (.tuple #[.int .i64 (wrap64 (m : Int)), .bool true]) = _
  rw [e1]

set_option maxHeartbeats 1000000 in
theorem whole_po (m : Nat) (w : World) (h : decide ((9223372036854775808 : Int) ≤ (m : Int)) = true) :
    Calls Tryz.prog 151 #[.bool false, .int .u64 (m : Nat)] w fun e w' => e = .returned (.tuple #[.int .i64 0, .bool false]) ∧ w' = w := by
  go_enter Tryz.func151, Tryz.ntmps151
  go_wp2
  go_ret2
  exact ⟨rfl, rfl⟩

theorem whole_at (neg : Bool) (m : Nat) (i : Int) (ok : Bool) (w : World) (hm : m < 18446744073709551616) (hi : wi neg m = i) (hk : wk neg m = ok) :
    Calls Tryz.prog 151 #[.bool neg, .int .u64 (m : Nat)] w fun e w' => e = .returned (.tuple #[.int .i64 i, .bool ok]) ∧ w' = w := by
  subst hi hk
  unfold wi wk
  cases neg
  · simp only [Bool.false_eq_true, if_false]
    by_cases c : m < 9223372036854775808
    · rw [decide_eq_true c, if_pos rfl]; exact whole_p m w (decide_eq_false (by omega)) (by unfold wrap64; omega)
    · rw [decide_eq_false c, if_neg (by decide)]; exact whole_po m w (decide_eq_true (by omega))
  · simp only [if_true]
    by_cases c : m ≤ 9223372036854775808
    · rw [decide_eq_true c, if_pos rfl]
      refine whole_n m w (by omega) ?_
      unfold wrap64
      by_cases z : m = 0
      · subst z; decide
      · have : IntKind.u64.wrap (-(m : Int)) = 18446744073709551616 - (m : Int) := by
          simp [IntKind.wrap, IntKind.bits, IntKind.signed]; omega
        rw [this]; omega
    · rw [decide_eq_false c, if_neg (by decide)]; exact whole_no m w (by omega)

/-- too great for 64 bits -/
def gr (m e : Nat) : Bool := decide (m ≠ 0) && (decide (11 < e) || decide (9223372036854775808 / 2 ^ e < m))
set_option maxHeartbeats 1000000 in
theorem great_0 (e : Nat) (w : World) :
    Calls Tryz.prog 150 #[.int .u64 0, .int .i64 (e : Nat)] w fun e w' => e = .returned (.bool false) ∧ w' = w := by
  go_enter Tryz.func150, Tryz.ntmps150
  go_wp2
  go_ret
  exact ⟨rfl, rfl⟩

set_option maxHeartbeats 1000000 in
theorem great_e (m e : Nat) (w : World) (h : ((m : Int) != 0) = true) (h1 : (11 : Int) < e) :
    Calls Tryz.prog 150 #[.int .u64 (m : Nat), .int .i64 (e : Nat)] w fun e w' => e = .returned (.bool true) ∧ w' = w := by
  go_enter Tryz.func150, Tryz.ntmps150
  go_wp2
  go_ret
  exact ⟨rfl, rfl⟩

set_option maxHeartbeats 1000000 in
theorem great_m (m e : Nat) (b : Bool) (w : World) (h : ((m : Int) != 0) = true) (h1 : ¬ (11 : Int) < e) (h2 : decide ((9223372036854775808 : Int) / 2 ^ e < (m : Int)) = b) :
    Calls Tryz.prog 150 #[.int .u64 (m : Nat), .int .i64 (e : Nat)] w fun e w' => e = .returned (.bool b) ∧ w' = w := by
  go_enter Tryz.func150, Tryz.ntmps150
  go_wp2
  go_ret
  exact ⟨rfl, rfl⟩

theorem great_at (m e : Nat) (b : Bool) (w : World) (hb : gr m e = b) :
    Calls Tryz.prog 150 #[.int .u64 (m : Nat), .int .i64 (e : Nat)] w fun e w' => e = .returned (.bool b) ∧ w' = w := by
  subst hb
  unfold gr
  by_cases z : m = 0
  · subst z; exact great_0 e w
  · have h : ((m : Int) != 0) = true := by simp; omega
    rw [decide_eq_true z, Bool.true_and]
    by_cases c : 11 < e
    · rw [decide_eq_true c, Bool.true_or]; exact great_e m e w h (by omega)
    · rw [decide_eq_false c, Bool.false_or]
      refine great_m m e _ w h (by omega) (decide_eq_decide.2 ?_)
      have e1 : (9223372036854775808 : Int) / 2 ^ e = ((9223372036854775808 / 2 ^ e : Nat) : Int) := by
        rw [Int.natCast_ediv]; rfl
      rw [e1]; omega

theorem greatI (m : Nat) (e : Int) (b : Bool) (w : World) (he : 0 ≤ e) (hb : gr m e.toNat = b) :
    Calls Tryz.prog 150 #[.int .u64 (m : Nat), .int .i64 e] w fun e w' => e = .returned (.bool b) ∧ w' = w := by
  obtain ⟨k, rfl⟩ : ∃ k : Nat, e = k := ⟨e.toNat, by omega⟩
  rw [Int.toNat_natCast] at hb
  exact great_at m k b w hb
theorem parts_at (x m : Nat) (e : Int) (n : Bool) (w : World) (hx : x < 18446744073709551616) (fx : mg x < 9218868437227405312) (hm : pm x = m) (he : pe x = e) (hn : ng x = n) :
    Calls Tryz.prog 149 #[.float .f64 x] w fun e' w' => e' = .returned (.tuple #[.bool n, .int .u64 (m : Nat), .int .i64 e, .int .i64 0]) ∧ w' = w := by
  subst hm he hn; exact parts_fin x w hx fx
theorem parts_iat (x : Nat) (n : Bool) (w : World) (hx : x < 18446744073709551616) (fx : mg x = 9218868437227405312) (hn : ng x = n) :
    Calls Tryz.prog 149 #[.float .f64 x] w fun e w' => e = .returned (.tuple #[.bool n, .int .u64 0, .int .i64 0, .int .i64 1]) ∧ w' = w := by
  subst hn; exact parts_i x w hx fx
theorem parts_nat (x : Nat) (n : Bool) (w : World) (hx : x < 18446744073709551616) (fx : isN x = true) (hn : ng x = n) :
    Calls Tryz.prog 149 #[.float .f64 x] w fun e w' => e = .returned (.tuple #[.bool n, .int .u64 0, .int .i64 0, .int .i64 2]) ∧ w' = w := by
  subst hn; exact parts_n x w hx fx
set_option maxHeartbeats 1000000 in
theorem rr_inf (x : Nat) (n : Bool) (w : World) (hx : Hid (x < 18446744073709551616)) (hn : Hid (ng x = n)) (fx : Hid (mg x = 9218868437227405312)) :
    Calls Tryz.prog 108 #[.float .f64 x] w fun e w' => e = .returned (.tuple #[.int .i64 0, .bool false]) ∧ w' = w := by
  go_enter Tryz.func108, Tryz.ntmps108
  go_wp2_with fail
  refine (parts_iat x n _ hx.out fx.out hn.out).mono ?_
  rintro e w' ⟨rfl, rfl⟩
  go_wp2
  go_ret2
  exact ⟨rfl, rfl⟩

set_option maxHeartbeats 1000000 in
theorem rr_nan (x : Nat) (n : Bool) (w : World) (hx : Hid (x < 18446744073709551616)) (hn : Hid (ng x = n)) (fx : Hid (isN x = true)) :
    Calls Tryz.prog 108 #[.float .f64 x] w fun e w' => e = .returned (.tuple #[.int .i64 0, .bool false]) ∧ w' = w := by
  go_enter Tryz.func108, Tryz.ntmps108
  go_wp2_with fail
  refine (parts_nat x n _ hx.out fx.out hn.out).mono ?_
  rintro e w' ⟨rfl, rfl⟩
  go_wp2
  go_ret2
  exact ⟨rfl, rfl⟩

set_option maxHeartbeats 1000000 in
theorem rr_gr (x : Nat) (n : Bool) (w : World) (hx : Hid (x < 18446744073709551616)) (hn : Hid (ng x = n)) (fx : Hid (mg x < 9218868437227405312)) (m : Nat) (pm' : Hid (pm x = m)) (e : Int) (e0 : 0 ≤ e) (pe' : Hid (pe x = e)) (g : Hid (gr m e.toNat = true)) :
    Calls Tryz.prog 108 #[.float .f64 x] w fun e w' => e = .returned (.tuple #[.int .i64 0, .bool false]) ∧ w' = w := by
  go_enter Tryz.func108, Tryz.ntmps108
  go_wp2_with fail
  refine (parts_at x m e n _ hx.out fx.out pm'.out pe'.out hn.out).mono ?_
  rintro e w' ⟨rfl, rfl⟩
  go_wp2_with fail
  refine (greatI m e true _ e0 g.out).mono ?_
  rintro e w' ⟨rfl, rfl⟩
  go_wp2
  go_ret2
  exact ⟨rfl, rfl⟩

set_option maxHeartbeats 1000000 in
theorem rr_up (x : Nat) (n : Bool) (w : World) (hx : Hid (x < 18446744073709551616)) (hn : Hid (ng x = n)) (fx : Hid (mg x < 9218868437227405312)) (m : Nat) (pm' : Hid (pm x = m)) (e : Int) (e0 : 0 ≤ e) (e1 : e < 12) (pe' : Hid (pe x = e)) (g : Hid (gr m e.toNat = false)) (p : Nat) (hp : IntKind.u64.wrap ((m : Int) * 2 ^ e.toNat) = (p : Int)) (lp : Hid (p < 18446744073709551616)) (i : Int) (ok : Bool) (hi : Hid (wi n p = i)) (hk : Hid (wk n p = ok)) :
    Calls Tryz.prog 108 #[.float .f64 x] w fun e w' => e = .returned (.tuple #[.int .i64 i, .bool ok]) ∧ w' = w := by
  go_enter Tryz.func108, Tryz.ntmps108
  go_wp2_with fail
  refine (parts_at x m e n _ hx.out fx.out pm'.out pe'.out hn.out).mono ?_
  rintro e w' ⟨rfl, rfl⟩
  go_wp2_with fail
  refine (greatI m e false _ e0 g.out).mono ?_
  rintro e w' ⟨rfl, rfl⟩
  go_wp2_with fail
  refine (whole_at n p i ok _ lp.out hi.out hk.out).mono ?_
  rintro e w' ⟨rfl, rfl⟩
  go_wp2
  go_ret2
  exact ⟨rfl, rfl⟩

set_option maxHeartbeats 1000000 in
theorem rr_dn (x : Nat) (n : Bool) (w : World) (hx : Hid (x < 18446744073709551616)) (hn : Hid (ng x = n)) (fx : Hid (mg x < 9218868437227405312)) (m : Nat) (pm' : Hid (pm x = m)) (k : Nat) (lm : Hid (okm m k)) (k1 : 1 ≤ k) (e : Int) (e1 : -5000 < e) (ek : -e = (k : Int)) (pe' : Hid (pe x = e)) (r : Nat) (hr : Hid (rne m (2 ^ k) = r)) (lr : Hid (r < 18446744073709551616)) (i : Int) (ok : Bool) (hi : Hid (wi n r = i)) (hk : Hid (wk n r = ok)) :
    Calls Tryz.prog 108 #[.float .f64 x] w fun e w' => e = .returned (.tuple #[.int .i64 i, .bool ok]) ∧ w' = w := by
  go_enter Tryz.func108, Tryz.ntmps108
  go_wp2_with fail
  refine (parts_at x m e n _ hx.out fx.out pm'.out pe'.out hn.out).mono ?_
  rintro e w' ⟨rfl, rfl⟩
  go_wp2_with fail
  refine (near_at m k r _ lm.out k1 hr.out).mono ?_
  rintro e w' ⟨rfl, rfl⟩
  go_wp2_with fail
  refine (whole_at n r i ok _ lr.out hi.out hk.out).mono ?_
  rintro e w' ⟨rfl, rfl⟩
  go_wp2
  go_ret2
  exact ⟨rfl, rfl⟩

end Go.Proofs.YtbibhgikmnpbfaaGreatDoor.Ref2

namespace Go.Proofs.YtbibhgikmnpbfaaGreatDoor.Ref2
open Go.RowKit Tf
attribute [local go_sem] run_bits run_from raw_feq raw_fne raw_flt raw_fgt run_neg

theorem cut_up (way : Ieee.Toward) (x : Nat) (h : 0 ≤ pe x) : cutq way (ng x) (mv (mg x)) one = pm x * 2 ^ (pe x).toNat := by
  have hK := K_eq
  have e : (pe x + 1074).toNat = (pe x).toNat + K := by omega
  rw [mv_parts, e, Nat.pow_add, ← Nat.mul_assoc, ← one_pow, cutq_mul _ _ _ _ one_pos]
theorem cut_dn (way : Ieee.Toward) (x k : Nat) (h : pe x = -(k : Int)) : cutq way (ng x) (mv (mg x)) one = cutq way (ng x) (pm x) (2 ^ k) := by
  have hK := K_eq
  have hg := pe_ge x
  have e : (pe x + 1074).toNat = K - k := by omega
  have e2 : one = 2 ^ k * 2 ^ (K - k) := by rw [one_pow, ← Nat.pow_add]; congr 1; omega
  rw [mv_parts, e, e2, cutq_scale _ _ _ _ _ (pow_pos _)]
theorem cOk_wk (way : Ieee.Toward) (x : Nat) (fx : mg x < 9218868437227405312) : cOk way x = wk (ng x) (cutq way (ng x) (mv (mg x)) one) ∧ cI way x = wi (ng x) (cutq way (ng x) (mv (mg x)) one) := by
  have e : cOk way x = wk (ng x) (cutq way (ng x) (mv (mg x)) one) := by
    unfold cOk wk cq fin
    rw [decide_eq_true fx, Bool.true_and]
    generalize cutq way (ng x) (mv (mg x)) one = M
    cases ng x
    · simp only [Bool.false_eq_true, if_false]
      rw [decide_eq_true (by omega), Bool.true_and]
      exact decide_eq_decide.2 (by omega)
    · simp only [if_true]
      rw [show decide (-(M : Int) < 9223372036854775808) = true from decide_eq_true (by omega), Bool.and_true]
      exact decide_eq_decide.2 (by omega)
  refine ⟨e, ?_⟩
  unfold cI wi
  rw [e]
  rfl
theorem pm_great (x : Nat) (h : 0 ≤ pe x) : 4503599627370496 ≤ pm x := by
  unfold pm pe at *
  by_cases c : mg x / 4503599627370496 = 0
  · rw [if_pos c] at h; omega
  · rw [if_neg c]; omega
theorem gr_true (x : Nat) (h : 0 ≤ pe x) (g : gr (pm x) (pe x).toNat = true) : 9223372036854775808 < pm x * 2 ^ (pe x).toNat := by
  have h1 := pm_great x h
  unfold gr at g
  simp only [Bool.and_eq_true, Bool.or_eq_true, decide_eq_true_eq] at g
  generalize (pe x).toNat = k at *
  rcases g.2 with c | c
  · have : 2 ^ 12 ≤ 2 ^ k := Nat.pow_le_pow_right (by omega) (by omega)
    have := Nat.mul_le_mul h1 this
    omega
  · exact (Nat.div_lt_iff_lt_mul (pow_pos k)).1 c
theorem gr_false (x : Nat) (h : 0 ≤ pe x) (g : gr (pm x) (pe x).toNat = false) : pe x < 12 ∧ pm x * 2 ^ (pe x).toNat ≤ 9223372036854775808 := by
  have h1 := pm_great x h
  unfold gr at g
  rw [decide_eq_true (show pm x ≠ 0 by omega), Bool.true_and, Bool.or_eq_false_iff] at g
  have g1 := of_decide_eq_false g.1
  have g2 := of_decide_eq_false g.2
  refine ⟨by omega, ?_⟩
  rw [Nat.div_lt_iff_lt_mul (pow_pos _)] at g2
  omega
theorem wrap_pow (m k p : Nat) (hp : p = m * 2 ^ k) (h : p < 18446744073709551616) : IntKind.u64.wrap ((m : Int) * 2 ^ k) = (p : Int) := by
  have e : (m : Int) * 2 ^ k = (p : Int) := by rw [hp, Int.natCast_mul]; rfl
  rw [e, wrap_id] <;> omega
theorem wk_great (n : Bool) (M : Nat) (h : 9223372036854775808 < M) : wk n M = false ∧ wi n M = 0 := by
  have e : wk n M = false := by unfold wk; cases n <;> simp <;> omega
  exact ⟨e, by unfold wi; rw [e]; rfl⟩

theorem refRound_at (x : Nat) (i : Int) (ok : Bool) (w : World) (hx : x < 18446744073709551616) (hi : cI .even x = i) (ho : cOk .even x = ok) :
    Calls Tryz.prog 108 #[.float .f64 x] w fun e w' => e = .returned (.tuple #[.int .i64 i, .bool ok]) ∧ w' = w := by
  subst hi ho
  cases n : isN x
  · have hle := isN_false.1 n
    by_cases fx : mg x < 9218868437227405312
    · obtain ⟨k1, k2⟩ := cOk_wk .even x fx
      have lm := pm_lt x
      by_cases h : 0 ≤ pe x
      · rw [cut_up .even x h] at k1 k2
        cases g : gr (pm x) (pe x).toNat
        · obtain ⟨e1, l⟩ := gr_false x h g
          exact rr_up x _ w hx rfl fx _ rfl _ h e1 rfl g _ (wrap_pow _ _ _ rfl (by omega)) (show _ < _ by omega) _ _ k2.symm k1.symm
        · have l := gr_true x h g
          obtain ⟨z1, z2⟩ := wk_great (ng x) _ l
          rw [k1, k2, z1, z2]
          exact rr_gr x _ w hx rfl fx _ rfl _ h rfl g
      · have hg := pe_ge x
        obtain ⟨k, hk⟩ : ∃ k : Nat, pe x = -(k : Int) := ⟨(-pe x).toNat, by omega⟩
        rw [cut_dn .even x k hk] at k1 k2
        have lk : pm x / 2 ^ k ≤ pm x := Nat.div_le_self ..
        rw [cutq_even] at k1 k2
        have lr := rne_le (pm x) (2 ^ k)
        exact rr_dn x _ w hx rfl fx _ rfl k (okm_of _ _ (by omega)) (by omega) _ (by omega) (show -pe x = (k : Int) by omega) rfl _ rfl (show _ < _ by omega) _ _ k2.symm k1.symm
    · have o : cOk .even x = false ∧ cI .even x = 0 := by
        have e : cOk .even x = false := by unfold cOk fin; rw [decide_eq_false fx]; rfl
        exact ⟨e, by unfold cI; rw [e]; rfl⟩
      rw [o.1, o.2]
      exact rr_inf x _ w hx rfl (show _ = _ by omega)
  · obtain ⟨o1, o2⟩ := cOk_nan .even n
    rw [o1, o2]
    exact rr_nan x _ w hx rfl n

end Go.Proofs.YtbibhgikmnpbfaaGreatDoor.Ref2

namespace Go.Proofs.YtbibhgikmnpbfaaGreatDoor.Ref2
open Go.RowKit Tf
attribute [local go_sem] run_bits run_from raw_feq raw_fne raw_flt raw_fgt run_neg

set_option maxHeartbeats 1000000 in
theorem length_w (S : Nat → Nat) (L : Nat) (w : World) (hS : ∀ j, (S j : Int) / 2 = (S (j + 1) : Int)) (hL : ∀ j, j < L ↔ 0 < S j) (hW : ∀ j, IntKind.u64.wrap (S j : Int) = (S j : Int)) (l : (L : Int) ≤ 64) :
    Calls Tryz.prog 141 #[.int .u64 (S 0 : Nat)] w fun e w' => e = .returned (.int .i64 (L : Nat)) ∧ w' = w := by
  have HL := hid hL
  have HS := hid hS
  have HW := hid hW
  clear hL hS hW
  go_enter Tryz.func141, Tryz.ntmps141
  go_wp2
  go_loop [0, 3] (fun a b => ∃ j : Nat, j ≤ L ∧ a = .int .u64 (S j : Nat) ∧ b = .int .i64 (j : Nat)) (fun _ b => L - (intOf b).toNat)
  case atStart => exact ⟨0, Nat.zero_le _, rfl, rfl⟩
  case round =>
    obtain ⟨j, hj, rfl, rfl⟩ := hrel
    by_cases hlt : j < L
    · have h1 : 0 < S j := (HL.out j).1 hlt
      have h2 := HS.out j
      have h3 := HW.out (j + 1)
      go_wp2
      go_round
      case rel => exact ⟨j + 1, by omega, rfl, by go_num⟩
      case measure => simp [intOf]; omega
    · have e : j = L := by omega
      subst e
      have h1 : ¬ 0 < S j := fun h => hlt ((HL.out j).2 h)
      go_wp2
      go_ret
      exact ⟨rfl, rfl⟩
/-- how many bits -/
def bl (m : Nat) : Nat := if m = 0 then 0 else m.log2 + 1
theorem length_at (m L : Nat) (w : World) (hm : m < 18446744073709551616) (hL : bl m = L) :
    Calls Tryz.prog 141 #[.int .u64 (m : Nat)] w fun e w' => e = .returned (.int .i64 (L : Nat)) ∧ w' = w := by
  subst hL
  have h0 : m = m / 2 ^ 0 := by simp
  have := length_w (fun j => m / 2 ^ j) (bl m) w ?_ ?_ ?_ ?_
  · simpa using this
  · intro j
    show ((m / 2 ^ j : Nat) : Int) / 2 = ((m / 2 ^ (j + 1) : Nat) : Int)
    rw [Nat.pow_succ, ← Nat.div_div_eq_div_mul]; omega
  · intro j
    show j < bl m ↔ 0 < m / 2 ^ j
    unfold bl
    by_cases z : m = 0
    · subst z; simp
    · rw [if_neg z, Nat.div_pos_iff]
      constructor
      · intro h
        refine ⟨pow_pos j, Nat.le_trans (Nat.pow_le_pow_right (by omega) (by omega)) (Nat.log2_self_le z)⟩
      · intro h
        have h2 : m < 2 ^ (m.log2 + 1) := Nat.lt_log2_self
        by_cases c : j < m.log2 + 1
        · exact c
        · exfalso
          have : 2 ^ (m.log2 + 1) ≤ 2 ^ j := Nat.pow_le_pow_right (by omega) (by omega)
          omega
  · intro j
    have : m / 2 ^ j ≤ m := Nat.div_le_self ..
    show IntKind.u64.wrap ((m / 2 ^ j : Nat) : Int) = _
    generalize m / 2 ^ j = q at *
    rw [wrap_id] <;> omega
  · unfold bl
    by_cases z : m = 0
    · rw [if_pos z]; decide
    · rw [if_neg z]
      have := log2_small (k := 63) (show m < 2 ^ (63 + 1) by omega)
      omega
set_option maxHeartbeats 2000000 in
theorem smlogtg (m p I L : Nat) (e least un : Int) (w : World) (z : ((m : Int) == 0) = false) (lm : Hid (m < 18446744073709551616)) (hL : Hid (bl m = L)) (L1 : (L : Int) ≤ 64) (p1 : (p : Int) ≤ 60) (_e0 : -5000 < e) (_e1 : e < 5000) (l0 : -5000 < least) (l1 : least < 5000) (hun : (L : Int) + e - ((p : Int) + 1) = un) (c : un < least) (d : least < e) (d2 : e - least < 64) (k : Nat) (hk : IntKind.u64.wrap ((m : Int) * 2 ^ (e - least).toNat) = (k : Int)) (hw : IntKind.u64.wrap (k : Int) = (k : Int)) (f : I < k) :
    Calls Tryz.prog 103 #[.int .u64 (m : Nat), .int .i64 e, .int .i64 (p : Nat), .int .i64 least, .int .u64 (I : Nat)] w fun e w' => e = .returned (.int .u64 ((I : Nat))) ∧ w' = w := by
  go_enter Tryz.func103, Tryz.ntmps103
  go_wp2_with fail
  refine (length_at m L _ lm.out hL.out).mono ?_
  rintro e w' ⟨rfl, rfl⟩
  go_wp2
  go_ret
  exact ⟨rfl, rfl⟩

set_option maxHeartbeats 2000000 in
theorem smlogts (m p I L : Nat) (e least un : Int) (w : World) (z : ((m : Int) == 0) = false) (lm : Hid (m < 18446744073709551616)) (hL : Hid (bl m = L)) (L1 : (L : Int) ≤ 64) (p1 : (p : Int) ≤ 60) (_e0 : -5000 < e) (_e1 : e < 5000) (l0 : -5000 < least) (l1 : least < 5000) (hun : (L : Int) + e - ((p : Int) + 1) = un) (c : un < least) (d : least < e) (d2 : e - least < 64) (k : Nat) (hk : IntKind.u64.wrap ((m : Int) * 2 ^ (e - least).toNat) = (k : Int)) (hw : IntKind.u64.wrap (k : Int) = (k : Int)) (f : ¬ I < k) :
    Calls Tryz.prog 103 #[.int .u64 (m : Nat), .int .i64 e, .int .i64 (p : Nat), .int .i64 least, .int .u64 (I : Nat)] w fun e w' => e = .returned (.int .u64 ((k : Nat))) ∧ w' = w := by
  go_enter Tryz.func103, Tryz.ntmps103
  go_wp2_with fail
  refine (length_at m L _ lm.out hL.out).mono ?_
  rintro e w' ⟨rfl, rfl⟩
  go_wp2
  go_ret
  exact ⟨rfl, rfl⟩

set_option maxHeartbeats 2000000 in
theorem smloltg (m p I L : Nat) (e least un : Int) (w : World) (z : ((m : Int) == 0) = false) (lm : Hid (m < 18446744073709551616)) (hL : Hid (bl m = L)) (L1 : (L : Int) ≤ 64) (p1 : (p : Int) ≤ 60) (e0 : -5000 < e) (e1 : e < 5000) (l0 : -5000 < least) (l1 : least < 5000) (hun : (L : Int) + e - ((p : Int) + 1) = un) (c : un < least) (d : e < least) (j : Nat) (j1 : 1 ≤ j) (dj : least - e = (j : Int)) (lm2 : Hid (okm m j)) (k : Nat) (hk : Hid (rne m (2 ^ j) = k)) (hw : IntKind.u64.wrap (k : Int) = (k : Int)) (f : I < k) :
    Calls Tryz.prog 103 #[.int .u64 (m : Nat), .int .i64 e, .int .i64 (p : Nat), .int .i64 least, .int .u64 (I : Nat)] w fun e w' => e = .returned (.int .u64 ((I : Nat))) ∧ w' = w := by
  go_enter Tryz.func103, Tryz.ntmps103
  go_wp2_with fail
  refine (length_at m L _ lm.out hL.out).mono ?_
  rintro e w' ⟨rfl, rfl⟩
  go_wp2_with fail
  refine (near_at m j k _ lm2.out j1 hk.out).mono ?_
  rintro e w' ⟨rfl, rfl⟩
  go_wp2
  go_ret
  exact ⟨rfl, rfl⟩

set_option maxHeartbeats 2000000 in
theorem smlolts (m p I L : Nat) (e least un : Int) (w : World) (z : ((m : Int) == 0) = false) (lm : Hid (m < 18446744073709551616)) (hL : Hid (bl m = L)) (L1 : (L : Int) ≤ 64) (p1 : (p : Int) ≤ 60) (e0 : -5000 < e) (e1 : e < 5000) (l0 : -5000 < least) (l1 : least < 5000) (hun : (L : Int) + e - ((p : Int) + 1) = un) (c : un < least) (d : e < least) (j : Nat) (j1 : 1 ≤ j) (dj : least - e = (j : Int)) (lm2 : Hid (okm m j)) (k : Nat) (hk : Hid (rne m (2 ^ j) = k)) (hw : IntKind.u64.wrap (k : Int) = (k : Int)) (f : ¬ I < k) :
    Calls Tryz.prog 103 #[.int .u64 (m : Nat), .int .i64 e, .int .i64 (p : Nat), .int .i64 least, .int .u64 (I : Nat)] w fun e w' => e = .returned (.int .u64 ((k : Nat))) ∧ w' = w := by
  go_enter Tryz.func103, Tryz.ntmps103
  go_wp2_with fail
  refine (length_at m L _ lm.out hL.out).mono ?_
  rintro e w' ⟨rfl, rfl⟩
  go_wp2_with fail
  refine (near_at m j k _ lm2.out j1 hk.out).mono ?_
  rintro e w' ⟨rfl, rfl⟩
  go_wp2
  go_ret
  exact ⟨rfl, rfl⟩

set_option maxHeartbeats 2000000 in
theorem smloeqg (m p I L : Nat) (e least un : Int) (w : World) (z : ((m : Int) == 0) = false) (lm : Hid (m < 18446744073709551616)) (hL : Hid (bl m = L)) (L1 : (L : Int) ≤ 64) (p1 : (p : Int) ≤ 60) (e0 : -5000 < e) (e1 : e < 5000) (l0 : -5000 < least) (l1 : least < 5000) (hun : (L : Int) + e - ((p : Int) + 1) = un) (c : un < least) (d : e = least) (hw : IntKind.u64.wrap (m : Int) = (m : Int)) (f : I < m) :
    Calls Tryz.prog 103 #[.int .u64 (m : Nat), .int .i64 e, .int .i64 (p : Nat), .int .i64 least, .int .u64 (I : Nat)] w fun e w' => e = .returned (.int .u64 ((I : Nat))) ∧ w' = w := by
  subst d
  go_enter Tryz.func103, Tryz.ntmps103
  go_wp2_with fail
  refine (length_at m L _ lm.out hL.out).mono ?_
  rintro e w' ⟨rfl, rfl⟩
  go_wp2
  go_ret
  exact ⟨rfl, rfl⟩

set_option maxHeartbeats 2000000 in
theorem smloeqs (m p I L : Nat) (e least un : Int) (w : World) (z : ((m : Int) == 0) = false) (lm : Hid (m < 18446744073709551616)) (hL : Hid (bl m = L)) (L1 : (L : Int) ≤ 64) (p1 : (p : Int) ≤ 60) (e0 : -5000 < e) (e1 : e < 5000) (l0 : -5000 < least) (l1 : least < 5000) (hun : (L : Int) + e - ((p : Int) + 1) = un) (c : un < least) (d : e = least) (hw : IntKind.u64.wrap (m : Int) = (m : Int)) (f : ¬ I < m) :
    Calls Tryz.prog 103 #[.int .u64 (m : Nat), .int .i64 e, .int .i64 (p : Nat), .int .i64 least, .int .u64 (I : Nat)] w fun e w' => e = .returned (.int .u64 ((m : Nat))) ∧ w' = w := by
  subst d
  go_enter Tryz.func103, Tryz.ntmps103
  go_wp2_with fail
  refine (length_at m L _ lm.out hL.out).mono ?_
  rintro e w' ⟨rfl, rfl⟩
  go_wp2
  go_ret
  exact ⟨rfl, rfl⟩

set_option maxHeartbeats 2000000 in
theorem smhigtg (m p I L : Nat) (e least un : Int) (w : World) (z : ((m : Int) == 0) = false) (lm : Hid (m < 18446744073709551616)) (hL : Hid (bl m = L)) (L1 : (L : Int) ≤ 64) (p1 : (p : Int) ≤ 60) (e0 : -5000 < e) (e1 : e < 5000) (_l0 : -5000 < least) (_l1 : least < 5000) (hun : (L : Int) + e - ((p : Int) + 1) = un) (_c : ¬ un < least) (d : un < e) (d2 : e - un < 64) (k : Nat) (hk : IntKind.u64.wrap ((m : Int) * 2 ^ (e - un).toNat) = (k : Int)) (u : Int) (v b : Nat) (hu : un - least = u) (u0 : 0 ≤ u) (u1 : u < 5000) (hv : IntKind.u64.wrap (u * 2 ^ p) = (v : Int)) (hb : IntKind.u64.wrap ((v : Int) + (k : Int)) = (b : Int)) (f : I < b) :
    Calls Tryz.prog 103 #[.int .u64 (m : Nat), .int .i64 e, .int .i64 (p : Nat), .int .i64 least, .int .u64 (I : Nat)] w fun e w' => e = .returned (.int .u64 ((I : Nat))) ∧ w' = w := by
  go_enter Tryz.func103, Tryz.ntmps103
  go_wp2_with fail
  refine (length_at m L _ lm.out hL.out).mono ?_
  rintro e w' ⟨rfl, rfl⟩
  go_wp2
  go_ret
  exact ⟨rfl, rfl⟩

set_option maxHeartbeats 2000000 in
theorem smhigts (m p I L : Nat) (e least un : Int) (w : World) (z : ((m : Int) == 0) = false) (lm : Hid (m < 18446744073709551616)) (hL : Hid (bl m = L)) (L1 : (L : Int) ≤ 64) (p1 : (p : Int) ≤ 60) (e0 : -5000 < e) (e1 : e < 5000) (_l0 : -5000 < least) (_l1 : least < 5000) (hun : (L : Int) + e - ((p : Int) + 1) = un) (_c : ¬ un < least) (d : un < e) (d2 : e - un < 64) (k : Nat) (hk : IntKind.u64.wrap ((m : Int) * 2 ^ (e - un).toNat) = (k : Int)) (u : Int) (v b : Nat) (hu : un - least = u) (u0 : 0 ≤ u) (u1 : u < 5000) (hv : IntKind.u64.wrap (u * 2 ^ p) = (v : Int)) (hb : IntKind.u64.wrap ((v : Int) + (k : Int)) = (b : Int)) (f : ¬ I < b) :
    Calls Tryz.prog 103 #[.int .u64 (m : Nat), .int .i64 e, .int .i64 (p : Nat), .int .i64 least, .int .u64 (I : Nat)] w fun e w' => e = .returned (.int .u64 ((b : Nat))) ∧ w' = w := by
  go_enter Tryz.func103, Tryz.ntmps103
  go_wp2_with fail
  refine (length_at m L _ lm.out hL.out).mono ?_
  rintro e w' ⟨rfl, rfl⟩
  go_wp2
  go_ret
  exact ⟨rfl, rfl⟩

set_option maxHeartbeats 2000000 in
theorem smhiltg (m p I L : Nat) (e least un : Int) (w : World) (z : ((m : Int) == 0) = false) (lm : Hid (m < 18446744073709551616)) (hL : Hid (bl m = L)) (L1 : (L : Int) ≤ 64) (p1 : (p : Int) ≤ 60) (e0 : -5000 < e) (e1 : e < 5000) (l0 : -5000 < least) (l1 : least < 5000) (hun : (L : Int) + e - ((p : Int) + 1) = un) (_c : ¬ un < least) (d : e < un) (j : Nat) (j1 : 1 ≤ j) (dj : un - e = (j : Int)) (lm2 : Hid (okm m j)) (k : Nat) (hk : Hid (rne m (2 ^ j) = k)) (u : Int) (v b : Nat) (hu : un - least = u) (u0 : 0 ≤ u) (u1 : u < 5000) (hv : IntKind.u64.wrap (u * 2 ^ p) = (v : Int)) (hb : IntKind.u64.wrap ((v : Int) + (k : Int)) = (b : Int)) (f : I < b) :
    Calls Tryz.prog 103 #[.int .u64 (m : Nat), .int .i64 e, .int .i64 (p : Nat), .int .i64 least, .int .u64 (I : Nat)] w fun e w' => e = .returned (.int .u64 ((I : Nat))) ∧ w' = w := by
  go_enter Tryz.func103, Tryz.ntmps103
  go_wp2_with fail
  refine (length_at m L _ lm.out hL.out).mono ?_
  rintro e w' ⟨rfl, rfl⟩
  go_wp2_with fail
  refine (near_at m j k _ lm2.out j1 hk.out).mono ?_
  rintro e w' ⟨rfl, rfl⟩
  go_wp2
  go_ret
  exact ⟨rfl, rfl⟩

set_option maxHeartbeats 2000000 in
theorem smhilts (m p I L : Nat) (e least un : Int) (w : World) (z : ((m : Int) == 0) = false) (lm : Hid (m < 18446744073709551616)) (hL : Hid (bl m = L)) (L1 : (L : Int) ≤ 64) (p1 : (p : Int) ≤ 60) (e0 : -5000 < e) (e1 : e < 5000) (l0 : -5000 < least) (l1 : least < 5000) (hun : (L : Int) + e - ((p : Int) + 1) = un) (_c : ¬ un < least) (d : e < un) (j : Nat) (j1 : 1 ≤ j) (dj : un - e = (j : Int)) (lm2 : Hid (okm m j)) (k : Nat) (hk : Hid (rne m (2 ^ j) = k)) (u : Int) (v b : Nat) (hu : un - least = u) (u0 : 0 ≤ u) (u1 : u < 5000) (hv : IntKind.u64.wrap (u * 2 ^ p) = (v : Int)) (hb : IntKind.u64.wrap ((v : Int) + (k : Int)) = (b : Int)) (f : ¬ I < b) :
    Calls Tryz.prog 103 #[.int .u64 (m : Nat), .int .i64 e, .int .i64 (p : Nat), .int .i64 least, .int .u64 (I : Nat)] w fun e w' => e = .returned (.int .u64 ((b : Nat))) ∧ w' = w := by
  go_enter Tryz.func103, Tryz.ntmps103
  go_wp2_with fail
  refine (length_at m L _ lm.out hL.out).mono ?_
  rintro e w' ⟨rfl, rfl⟩
  go_wp2_with fail
  refine (near_at m j k _ lm2.out j1 hk.out).mono ?_
  rintro e w' ⟨rfl, rfl⟩
  go_wp2
  go_ret
  exact ⟨rfl, rfl⟩

set_option maxHeartbeats 2000000 in
theorem smhieqg (m p I L : Nat) (e least un : Int) (w : World) (z : ((m : Int) == 0) = false) (lm : Hid (m < 18446744073709551616)) (hL : Hid (bl m = L)) (_L1 : (L : Int) ≤ 64) (p1 : (p : Int) ≤ 60) (e0 : -5000 < e) (e1 : e < 5000) (_l0 : -5000 < least) (_l1 : least < 5000) (hun : (L : Int) + e - ((p : Int) + 1) = un) (c : ¬ un < least) (d : e = un) (u : Int) (v b : Nat) (hu : un - least = u) (u0 : 0 ≤ u) (u1 : u < 5000) (hv : IntKind.u64.wrap (u * 2 ^ p) = (v : Int)) (hb : IntKind.u64.wrap ((v : Int) + (m : Int)) = (b : Int)) (f : I < b) :
    Calls Tryz.prog 103 #[.int .u64 (m : Nat), .int .i64 e, .int .i64 (p : Nat), .int .i64 least, .int .u64 (I : Nat)] w fun e w' => e = .returned (.int .u64 ((I : Nat))) ∧ w' = w := by
  subst d
  go_enter Tryz.func103, Tryz.ntmps103
  go_wp2_with fail
  refine (length_at m L _ lm.out hL.out).mono ?_
  rintro e w' ⟨rfl, rfl⟩
  go_wp2
  go_ret
  exact ⟨rfl, rfl⟩

set_option maxHeartbeats 2000000 in
theorem smhieqs (m p I L : Nat) (e least un : Int) (w : World) (z : ((m : Int) == 0) = false) (lm : Hid (m < 18446744073709551616)) (hL : Hid (bl m = L)) (_L1 : (L : Int) ≤ 64) (p1 : (p : Int) ≤ 60) (e0 : -5000 < e) (e1 : e < 5000) (_l0 : -5000 < least) (_l1 : least < 5000) (hun : (L : Int) + e - ((p : Int) + 1) = un) (c : ¬ un < least) (d : e = un) (u : Int) (v b : Nat) (hu : un - least = u) (u0 : 0 ≤ u) (u1 : u < 5000) (hv : IntKind.u64.wrap (u * 2 ^ p) = (v : Int)) (hb : IntKind.u64.wrap ((v : Int) + (m : Int)) = (b : Int)) (f : ¬ I < b) :
    Calls Tryz.prog 103 #[.int .u64 (m : Nat), .int .i64 e, .int .i64 (p : Nat), .int .i64 least, .int .u64 (I : Nat)] w fun e w' => e = .returned (.int .u64 ((b : Nat))) ∧ w' = w := by
  subst d
  go_enter Tryz.func103, Tryz.ntmps103
  go_wp2_with fail
  refine (length_at m L _ lm.out hL.out).mono ?_
  rintro e w' ⟨rfl, rfl⟩
  go_wp2
  go_ret
  exact ⟨rfl, rfl⟩

end Go.Proofs.YtbibhgikmnpbfaaGreatDoor.Ref2

namespace Go.Proofs.YtbibhgikmnpbfaaGreatDoor.Ref2
open Go.RowKit Tf
attribute [local go_sem] run_bits run_from raw_feq raw_fne raw_flt raw_fgt run_neg

set_option maxHeartbeats 1000000 in
theorem small_0 (e p least : Int) (I : Nat) (w : World) :
    Calls Tryz.prog 103 #[.int .u64 0, .int .i64 e, .int .i64 p, .int .i64 least, .int .u64 (I : Nat)] w fun e w' => e = .returned (.int .u64 0) ∧ w' = w := by
  go_enter Tryz.func103, Tryz.ntmps103
  go_wp2
  go_ret
  exact ⟨rfl, rfl⟩
theorem rung_none (p d : Nat) : rung p d 0 = 0 := by unfold rung rne; simp
theorem rne_up (m t d : Nat) : rne (m * 2 ^ (d + t)) (2 ^ d) = m * 2 ^ t := by
  rw [Nat.add_comm, Nat.pow_add, ← Nat.mul_assoc, rne_mul _ _ (pow_pos d)]
theorem rne_dn (m j E : Nat) : rne (m * 2 ^ E) (2 ^ (j + E)) = rne m (2 ^ j) := by
  rw [Nat.pow_add, rne_scale _ _ _ (pow_pos E)]
theorem rne_top (m j p : Nat) (h : m < 2 ^ (p + 1 + j)) : rne m (2 ^ j) ≤ 2 ^ (p + 1) := by
  have h1 := rne_mono (2 ^ j) (show m ≤ 2 ^ (p + 1) * 2 ^ j by rw [← Nat.pow_add]; omega)
  rwa [rne_mul _ _ (pow_pos j)] at h1

theorem small_at (m p I : Nat) (e least : Int) (r : Nat) (w : World) (hm : m ≤ 9223372036854775808) (hm2 : m < 9223372036854775808 ∨ least ≤ e) (hp : p ≤ 52) (e0 : -1100 ≤ e) (e1 : e ≤ 1100) (l0 : -1100 ≤ least) (l1 : least ≤ 0)
    (HB : ∀ u : Nat, (u : Int) ≤ 64 + e - least → u * 2 ^ p < 9223372036854775808) (hr : min (rung p (least - e).toNat (m * 2 ^ (e - least).toNat)) I = r) :
    Calls Tryz.prog 103 #[.int .u64 (m : Nat), .int .i64 e, .int .i64 (p : Nat), .int .i64 least, .int .u64 (I : Nat)] w fun e w' => e = .returned (.int .u64 (r : Nat)) ∧ w' = w := by
  by_cases z : m = 0
  · subst z
    rw [Nat.zero_mul, rung_none, Nat.zero_min] at hr
    subst hr
    exact small_0 e p least I w
  · have zb : ((m : Int) == 0) = false := by simp; omega
    obtain ⟨g, hg⟩ : ∃ g, m.log2 = g := ⟨_, rfl⟩
    have hb : bl m = g + 1 := by unfold bl; rw [if_neg z, hg]
    have g63 : g ≤ 63 := by
      have := log2_small (k := 63) (show m < 2 ^ (63 + 1) by omega)
      omega
    have hlo : 2 ^ g ≤ m := by rw [← hg]; exact Nat.log2_self_le z
    have hhi : m < 2 ^ (g + 1) := by rw [← hg]; exact Nat.lt_log2_self
    obtain ⟨E, hE⟩ : ∃ E, (e - least).toNat = E := ⟨_, rfl⟩
    obtain ⟨Dd, hD⟩ : ∃ Dd, (least - e).toNat = Dd := ⟨_, rfl⟩
    have hlogN : (m * 2 ^ E).log2 = g + E := by rw [log2_mul_pow m E z, hg]
    rw [hE, hD] at hr
    have hrung : rung p Dd (m * 2 ^ E) = (g + E - (p + Dd)) * 2 ^ p + rne (m * 2 ^ E) (2 ^ (g + E - (p + Dd) + Dd)) := by unfold rung; rw [hlogN]
    rw [hrung] at hr
    have hp53 : 2 ^ (p + 1) ≤ 2 ^ 53 := Nat.pow_le_pow_right (by omega) (by omega)
    have hun : ((g + 1 : Nat) : Int) + e - ((p : Int) + 1) = (g : Int) + e - p := by omega
    have wid : ∀ a : Nat, a < 18446744073709551616 → IntKind.u64.wrap (a : Int) = (a : Int) := fun a h => by rw [wrap_id] <;> omega
    -- what is kept, in each of the three ways; 'u': the band; 't': how far up
    have kup : ∀ u t : Nat, g + E - (p + Dd) = u → E = u + Dd + t → g + t ≤ p → rne (m * 2 ^ E) (2 ^ (u + Dd)) = m * 2 ^ t ∧ m * 2 ^ t ≤ 2 ^ (p + 1) := by
      intro u t _ h2 h3
      refine ⟨by rw [h2]; exact rne_up m t (u + Dd), ?_⟩
      have h4 : m * 2 ^ t ≤ 2 ^ (g + 1) * 2 ^ t := Nat.mul_le_mul_right _ (by omega)
      rw [← Nat.pow_add] at h4
      exact Nat.le_trans h4 (Nat.pow_le_pow_right (by omega) (by omega))
    have kdn : ∀ u j : Nat, u + Dd = j + E → g ≤ p + j → rne (m * 2 ^ E) (2 ^ (u + Dd)) = rne m (2 ^ j) ∧ rne m (2 ^ j) ≤ 2 ^ (p + 1) := by
      intro u j h2 h3
      refine ⟨by rw [h2]; exact rne_dn m j E, rne_top m j p ?_⟩
      exact Nat.lt_of_lt_of_le hhi (Nat.pow_le_pow_right (by omega) (by omega))
    have fin : ∀ b : Nat, min b I = r → (I < b → r = I) ∧ (¬ I < b → r = b) := by intro b h; omega
    by_cases c : (g : Int) + e - p < least
    · have u0 : g + E - (p + Dd) = 0 := by omega
      rw [u0, Nat.zero_mul, Nat.zero_add, Nat.zero_add] at hr
      by_cases d : least < e
      · obtain ⟨k1, k2⟩ := kup 0 E u0 (by omega) (by omega)
        rw [Nat.zero_add] at k1
        rw [k1] at hr
        have hw : IntKind.u64.wrap ((m : Int) * 2 ^ (e - least).toNat) = ((m * 2 ^ E : Nat) : Int) := by rw [hE]; exact wrap_pow _ _ _ rfl (by omega)
        have hw2 := wid (m * 2 ^ E) (by omega)
        generalize m * 2 ^ E = k at *
        by_cases f : I < k
        · rw [(fin k hr).1 f]
          exact smlogtg m p I (g + 1) e least _ w zb (show _ < _ by omega) hb (by omega) (by omega) (by omega) (by omega) (by omega) (by omega) hun c d (by omega) k hw hw2 f
        · rw [(fin k hr).2 f]
          exact smlogts m p I (g + 1) e least _ w zb (show _ < _ by omega) hb (by omega) (by omega) (by omega) (by omega) (by omega) (by omega) hun c d (by omega) k hw hw2 f
      · by_cases d2 : e < least
        · obtain ⟨k1, k2⟩ := kdn 0 Dd (by omega) (by omega)
          rw [Nat.zero_add] at k1
          rw [k1] at hr
          obtain ⟨k, hk⟩ : ∃ k, rne m (2 ^ Dd) = k := ⟨_, rfl⟩
          rw [hk] at hr k2
          have hw2 := wid k (by omega)
          have ok : okm m Dd := okm_of _ _ (by omega)
          by_cases f : I < k
          · rw [(fin k hr).1 f]
            exact smloltg m p I (g + 1) e least _ w zb (show _ < _ by omega) hb (by omega) (by omega) (by omega) (by omega) (by omega) (by omega) hun c d2 Dd (by omega) (by omega) ok k hk hw2 f
          · rw [(fin k hr).2 f]
            exact smlolts m p I (g + 1) e least _ w zb (show _ < _ by omega) hb (by omega) (by omega) (by omega) (by omega) (by omega) (by omega) hun c d2 Dd (by omega) (by omega) ok k hk hw2 f
        · have de : e = least := by omega
          obtain ⟨k1, k2⟩ := kup 0 0 u0 (by omega) (by omega)
          rw [Nat.zero_add, Nat.pow_zero, Nat.mul_one] at k1
          rw [k1] at hr
          have hw2 := wid m (by omega)
          by_cases f : I < m
          · rw [(fin m hr).1 f]
            exact smloeqg m p I (g + 1) e least _ w zb (show _ < _ by omega) hb (by omega) (by omega) (by omega) (by omega) (by omega) (by omega) hun c de hw2 f
          · rw [(fin m hr).2 f]
            exact smloeqs m p I (g + 1) e least _ w zb (show _ < _ by omega) hb (by omega) (by omega) (by omega) (by omega) (by omega) (by omega) hun c de hw2 f
    · obtain ⟨u, hu⟩ : ∃ u, g + E - (p + Dd) = u := ⟨_, rfl⟩
      have hui : (g : Int) + e - p - least = (u : Int) := by omega
      rw [hu] at hr
      have hv := HB u (by omega)
      have hv2 : IntKind.u64.wrap ((u : Int) * 2 ^ p) = ((u * 2 ^ p : Nat) : Int) := wrap_pow _ _ _ rfl (by omega)
      generalize u * 2 ^ p = v at *
      by_cases d : (g : Int) + e - p < e
      · obtain ⟨t, ht⟩ : ∃ t : Nat, (e - ((g : Int) + e - p)).toNat = t := ⟨_, rfl⟩
        obtain ⟨k1, k2⟩ := kup u t hu (by omega) (by omega)
        rw [k1] at hr
        have hw : IntKind.u64.wrap ((m : Int) * 2 ^ (e - ((g : Int) + e - p)).toNat) = ((m * 2 ^ t : Nat) : Int) := by rw [ht]; exact wrap_pow _ _ _ rfl (by omega)
        generalize m * 2 ^ t = k at *
        have hs := wid (v + k) (by omega)
        rw [Int.natCast_add] at hs
        by_cases f : I < v + k
        · rw [(fin _ hr).1 f]
          exact smhigtg m p I (g + 1) e least _ w zb (show _ < _ by omega) hb (by omega) (by omega) (by omega) (by omega) (by omega) (by omega) hun c d (by omega) k hw u v (v + k) hui (by omega) (by omega) hv2 hs f
        · rw [(fin _ hr).2 f]
          exact smhigts m p I (g + 1) e least _ w zb (show _ < _ by omega) hb (by omega) (by omega) (by omega) (by omega) (by omega) (by omega) hun c d (by omega) k hw u v (v + k) hui (by omega) (by omega) hv2 hs f
      · by_cases d2 : e < (g : Int) + e - p
        · obtain ⟨j, hj⟩ : ∃ j : Nat, (g : Int) + e - p - e = (j : Int) := ⟨g - p, by omega⟩
          obtain ⟨k1, k2⟩ := kdn u j (by omega) (by omega)
          rw [k1] at hr
          obtain ⟨k, hk⟩ : ∃ k, rne m (2 ^ j) = k := ⟨_, rfl⟩
          rw [hk] at hr k2
          have ok : okm m j := ⟨hm, fun h => by omega⟩
          have hs := wid (v + k) (by omega)
          rw [Int.natCast_add] at hs
          by_cases f : I < v + k
          · rw [(fin _ hr).1 f]
            exact smhiltg m p I (g + 1) e least _ w zb (show _ < _ by omega) hb (by omega) (by omega) (by omega) (by omega) (by omega) (by omega) hun c d2 j (by omega) hj ok k hk u v (v + k) hui (by omega) (by omega) hv2 hs f
          · rw [(fin _ hr).2 f]
            exact smhilts m p I (g + 1) e least _ w zb (show _ < _ by omega) hb (by omega) (by omega) (by omega) (by omega) (by omega) (by omega) hun c d2 j (by omega) hj ok k hk u v (v + k) hui (by omega) (by omega) hv2 hs f
        · have de : e = (g : Int) + e - p := by omega
          obtain ⟨k1, k2⟩ := kup u 0 hu (by omega) (by omega)
          rw [Nat.pow_zero, Nat.mul_one] at k1 k2
          rw [k1] at hr
          have hs := wid (v + m) (by omega)
          rw [Int.natCast_add] at hs
          by_cases f : I < v + m
          · rw [(fin _ hr).1 f]
            exact smhieqg m p I (g + 1) e least _ w zb (show _ < _ by omega) hb (by omega) (by omega) (by omega) (by omega) (by omega) (by omega) hun c de u v (v + m) hui (by omega) (by omega) hv2 hs f
          · rw [(fin _ hr).2 f]
            exact smhieqs m p I (g + 1) e least _ w zb (show _ < _ by omega) hb (by omega) (by omega) (by omega) (by omega) (by omega) (by omega) hun c de u v (v + m) hui (by omega) (by omega) hv2 hs f
end Go.Proofs.YtbibhgikmnpbfaaGreatDoor.Ref2
