/-
  The parts of a float, a long product, signs, infinities, lengths: walks over the program.
-/
import Derived.Test.YtgbnabpbheebjaaGc
namespace Go.Proofs.Ytgbnabpbheebjaa
open Go.RowKit Tf
attribute [local go_sem] run_bits run_from raw_feq raw_fne raw_flt raw_fgt run_neg

/-- a magnitude's whole number and exponent -/
def wm (m : Nat) : Nat := if m < 4503599627370496 then m else m % 4503599627370496 + 4503599627370496
def wk (m : Nat) : Nat := m / 4503599627370496 - 1
theorem wm_lt (m : Nat) : wm m < 9007199254740992 := by unfold wm; split <;> omega
theorem wm_wk (m : Nat) : mv m = wm m * 2 ^ wk m := by
  have e : (2 : Nat) ^ 52 = 4503599627370496 := by decide
  unfold mv mag wm wk
  rw [e]
  by_cases c : m < 4503599627370496
  · rw [if_pos c, if_pos c, show m / 4503599627370496 - 1 = 0 by omega]; omega
  · rw [if_neg c, if_neg c, Nat.add_comm]
theorem wk_top (m : Nat) (h : m < 9218868437227405312) : wk m ≤ 2045 := by unfold wk; omega

theorem and52 (z : Int) (h0 : 0 ≤ z) (h1 : z < 18446744073709551616) : bits .and .u64 z 4503599627370495 = z % 4503599627370496 := by go_bits2
theorem and11 (z : Int) (h0 : 0 ≤ z) (h1 : z < 18446744073709551616) : bits .and .u64 z 2047 = z % 2048 := by go_bits2
theorem or52 (z : Int) (h0 : 0 ≤ z) (h1 : z < 4503599627370496) : bits .or .u64 z 4503599627370496 = z + 4503599627370496 := by go_bits2
theorem and32 (z : Int) (h0 : 0 ≤ z) (h1 : z < 18446744073709551616) : bits .and .u64 z 4294967295 = z % 4294967296 := by go_bits2
theorem and1 (z : Int) (h0 : 0 ≤ z) (h1 : z < 18446744073709551616) : bits .and .u64 z 1 = z % 2 := by go_bits2

set_option maxHeartbeats 1000000 in
theorem parts_go (x : Nat) (m : Int) (w : World) (_h1 : x < 18446744073709551616) (ha : bits .and .u64 (x : Int) 4503599627370495 = m) (hc : bits .and .u64 ((x : Int) / 4503599627370496) 2047 = 0) :
    Calls Try.prog 44 #[.float .f64 x] w fun r w' => r = .returned (.tuple #[.int .u64 m, .int .i64 0]) ∧ w' = w := by
  go_enter Try.func44, Try.ntmps44
  go_wp2
  go_ret2
  exact ⟨rfl, rfl⟩
set_option maxHeartbeats 1000000 in
theorem parts_go2 (x : Nat) (m m2 e : Int) (w : World) (_h1 : x < 18446744073709551616) (ha : bits .and .u64 (x : Int) 4503599627370495 = m) (hm : bits .or .u64 m 4503599627370496 = m2) (hc : bits .and .u64 ((x : Int) / 4503599627370496) 2047 = e) (e0 : 0 < e) (e1 : e < 2048) :
    Calls Try.prog 44 #[.float .f64 x] w fun r w' => r = .returned (.tuple #[.int .u64 m2, .int .i64 (e - 1)]) ∧ w' = w := by
  go_enter Try.func44, Try.ntmps44
  go_wp2
  go_ret2
  exact ⟨rfl, rfl⟩
theorem parts_at (x : Nat) (w : World) (hx : x < 18446744073709551616) (fx : mg x < 9218868437227405312) :
    Calls Try.prog 44 #[.float .f64 x] w fun r w' => r = .returned (.tuple #[.int .u64 ((wm (mg x) : Nat) : Int), .int .i64 ((wk (mg x) : Nat) : Int)]) ∧ w' = w := by
  have hm : mg x = x % 9223372036854775808 := rfl
  have a1 := and52 (x : Int) (by omega) (by omega)
  have a2 := and11 ((x : Int) / 4503599627370496) (by omega) (by omega)
  unfold wm wk
  by_cases c : mg x < 4503599627370496
  · rw [if_pos c]
    have h := parts_go x _ w hx a1 (by rw [a2]; omega)
    have e1 : (x : Int) % 4503599627370496 = ((mg x : Nat) : Int) := by omega
    have e2 : ((mg x / 4503599627370496 - 1 : Nat) : Int) = 0 := by omega
    rw [e1] at h
    rw [e2]; exact h
  · rw [if_neg c]
    have a3 := or52 ((x : Int) % 4503599627370496) (by omega) (by omega)
    have h := parts_go2 x _ _ _ w hx a1 a3 a2 (by omega) (by omega)
    have e1 : (x : Int) % 4503599627370496 + 4503599627370496 = ((mg x % 4503599627370496 + 4503599627370496 : Nat) : Int) := by omega
    have e2 : (x : Int) / 4503599627370496 % 2048 - 1 = ((mg x / 4503599627370496 - 1 : Nat) : Int) := by omega
    rw [e1, e2] at h
    exact h

set_option maxHeartbeats 1000000 in
theorem signbit_go (x : Nat) (z : Bool) (v : Int) (w : World) (hw : wrap64 (x : Int) = v) (hz : decide (v < 0) = z) : Calls Try.prog 31 #[.float .f64 x] w fun e w' => e = .returned (.bool z) ∧ w' = w := by
  go_enter Try.func31, Try.ntmps31
  go_wp2
  go_ret
  exact ⟨rfl, rfl⟩
theorem signbit_any (x : Nat) (w : World) (hx : x < 18446744073709551616) : Calls Try.prog 31 #[.float .f64 x] w fun e w' => e = .returned (.bool (ng x)) ∧ w' = w := by
  refine signbit_go x _ _ w rfl ?_
  unfold ng wrap64
  rw [Bool.eq_iff_iff]
  simp
  omega
set_option maxHeartbeats 1000000 in
theorem mInf_any (w : World) : Calls Try.prog 36 #[.int .i64 1] w fun e w' => e = .returned (.float .f64 9218868437227405312) ∧ w' = w := by
  go_enter Try.func36, Try.ntmps36
  go_wp2
  go_ret
  exact ⟨rfl, rfl⟩
set_option maxHeartbeats 1000000 in
theorem mInf_neg (w : World) : Calls Try.prog 36 #[.int .i64 (-1)] w fun e w' => e = .returned (.float .f64 18442240474082181120) ∧ w' = w := by
  go_enter Try.func36, Try.ntmps36
  go_wp2
  go_ret
  exact ⟨rfl, rfl⟩
set_option maxHeartbeats 1000000 in
theorem copysign_any (w : World) : Calls Try.prog 37 #[.float .f64 0, .float .f64 13830554455654793216] w fun e w' => e = .returned (.float .f64 9223372036854775808) ∧ w' = w := by
  have h1 : bits .andNot .u64 ((0 : Nat) : Int) 9223372036854775808 = 0 := by decide
  have h2 : bits .and .u64 ((13830554455654793216 : Nat) : Int) 9223372036854775808 = 9223372036854775808 := by decide
  have h3 : bits .or .u64 0 9223372036854775808 = 9223372036854775808 := by decide
  go_enter Try.func37, Try.ntmps37
  go_wp2
  go_ret
  exact ⟨rfl, rfl⟩

set_option maxHeartbeats 2000000 in
theorem mul64_go (x y x0 x1 y0 y1 a b c d t w1 l : Int) (w : World) (_hx : 0 ≤ x) (_hx1 : x < 18446744073709551616) (_hy : 0 ≤ y) (_hy1 : y < 18446744073709551616)
    (e1 : bits .and .u64 x 4294967295 = x0) (e2 : x / 4294967296 = x1) (e3 : bits .and .u64 y 4294967295 = y0) (e4 : y / 4294967296 = y1)
    (ma : IntKind.u64.wrap (x0 * y0) = a) (mb : IntKind.u64.wrap (x1 * y0) = b) (mc : IntKind.u64.wrap (x0 * y1) = c) (md : IntKind.u64.wrap (x1 * y1) = d) (ml : IntKind.u64.wrap (x * y) = l)
    (a0 : 0 ≤ a) (a1 : a ≤ 18446744065119617025) (b0 : 0 ≤ b) (b1 : b ≤ 18446744065119617025) (c0 : 0 ≤ c) (c1 : c ≤ 18446744065119617025) (d0 : 0 ≤ d) (d1 : d ≤ 18446744065119617025)
    (ht : b + a / 4294967296 = t) (t0 : 0 ≤ t) (t1 : t < 18446744073709551616) (hw : bits .and .u64 t 4294967295 = w1) (w0 : 0 ≤ w1) (w2 : w1 < 4294967296) (hr : d + t / 4294967296 + (w1 + c) / 4294967296 < 18446744073709551616) :
    Calls Try.prog 45 #[.int .u64 x, .int .u64 y] w fun r w' => r = .returned (.tuple #[.int .u64 (d + t / 4294967296 + (w1 + c) / 4294967296), .int .u64 l]) ∧ w' = w := by
  go_enter Try.func45, Try.ntmps45
  go_wp2
  go_ret2
  exact ⟨rfl, rfl⟩
theorem u64wr (v : Int) : IntKind.u64.wrap v = v % 18446744073709551616 := by
  simp [IntKind.wrap, IntKind.bits, IntKind.signed]
theorem prod_le (a b : Int) (ha : 0 ≤ a) (ha1 : a ≤ 4294967295) (hb : 0 ≤ b) (hb1 : b ≤ 4294967295) : 0 ≤ a * b ∧ a * b ≤ 18446744065119617025 := by
  refine ⟨Int.mul_nonneg ha hb, ?_⟩
  exact Int.le_trans (Int.mul_le_mul ha1 hb1 hb (by decide)) (by decide)
/-- THE LONG PRODUCT -/
theorem mul64_at (x y : Int) (w : World) (hx : 0 ≤ x) (hx1 : x < 18446744073709551616) (hy : 0 ≤ y) (hy1 : y < 18446744073709551616) :
    Calls Try.prog 45 #[.int .u64 x, .int .u64 y] w fun r w' => r = .returned (.tuple #[.int .u64 (x * y / 18446744073709551616), .int .u64 (x * y % 18446744073709551616)]) ∧ w' = w := by
  obtain ⟨a0, a1⟩ := prod_le (x % 4294967296) (y % 4294967296) (by omega) (by omega) (by omega) (by omega)
  obtain ⟨b0, b1⟩ := prod_le (x / 4294967296) (y % 4294967296) (by omega) (by omega) (by omega) (by omega)
  obtain ⟨c0, c1⟩ := prod_le (x % 4294967296) (y / 4294967296) (by omega) (by omega) (by omega) (by omega)
  obtain ⟨d0, d1⟩ := prod_le (x / 4294967296) (y / 4294967296) (by omega) (by omega) (by omega) (by omega)
  have hxy : x * y = x % 4294967296 * (y % 4294967296) + (x / 4294967296 * (y % 4294967296) + x % 4294967296 * (y / 4294967296)) * 4294967296 + x / 4294967296 * (y / 4294967296) * 18446744073709551616 := by
    have ex : x = x % 4294967296 + x / 4294967296 * 4294967296 := by omega
    have ey : y = y % 4294967296 + y / 4294967296 * 4294967296 := by omega
    generalize x % 4294967296 = p at *
    generalize x / 4294967296 = q at *
    generalize y % 4294967296 = r at *
    generalize y / 4294967296 = s at *
    subst ex ey
    rw [Int.add_mul, Int.mul_add, Int.mul_add]
    have z1 : p * (s * 4294967296) = p * s * 4294967296 := by rw [Int.mul_assoc]
    have z2 : q * 4294967296 * r = q * r * 4294967296 := by rw [Int.mul_assoc, Int.mul_comm 4294967296, ← Int.mul_assoc]
    have z3 : q * 4294967296 * (s * 4294967296) = q * s * 18446744073709551616 := by
      rw [Int.mul_assoc, Int.mul_left_comm 4294967296, ← Int.mul_assoc]; rfl
    rw [z1, z2, z3]
    generalize p * r = A
    generalize p * s = B
    generalize q * r = C
    generalize q * s = D
    omega
  have w1 := and32 (x / 4294967296 * (y % 4294967296) + x % 4294967296 * (y % 4294967296) / 4294967296)
  have ma := u64wr (x % 4294967296 * (y % 4294967296))
  have mb := u64wr (x / 4294967296 * (y % 4294967296))
  have mc := u64wr (x % 4294967296 * (y / 4294967296))
  have md := u64wr (x / 4294967296 * (y / 4294967296))
  have e1 := and32 x hx hx1
  have e3 := and32 y hy hy1
  have h := mul64_go x y (x % 4294967296) (x / 4294967296) (y % 4294967296) (y / 4294967296)
  generalize x % 4294967296 * (y % 4294967296) = a at *
  generalize x / 4294967296 * (y % 4294967296) = b at *
  generalize x % 4294967296 * (y / 4294967296) = c at *
  generalize x / 4294967296 * (y / 4294967296) = d at *
  have w1' := w1 (by omega) (by omega)
  have h2 := h a b c d _ _ _ w hx hx1 hy hy1 e1 rfl e3 rfl (by rw [ma]; omega) (by rw [mb]; omega) (by rw [mc]; omega) (by rw [md]; omega) (u64wr _) a0 a1 b0 b1 c0 c1 d0 d1 rfl (by omega) (by omega) w1' (by omega) (by omega) (by omega)
  have e : d + (b + a / 4294967296) / 4294967296 + ((b + a / 4294967296) % 4294967296 + c) / 4294967296 = x * y / 18446744073709551616 := by
    rw [hxy]; omega
  rw [e] at h2
  exact h2
end Go.Proofs.Ytgbnabpbheebjaa
