/-
  The long product and the length of a word: walks over the program (layer 14).
-/
import Derived.Test.YtehadalddjbclaaUb
import Derived.BigRegion
namespace Go.Proofs.Ytehadalddjbclaa
open Go.RowKit
namespace Sh
theorem ret_int {k : IntKind} {a b : Int} (h : a = b) : Ending.returned (.int k a) = .returned (.int k b) := by rw [h]
theorem pow_pos (k : Nat) : 0 < 2 ^ k := Nat.two_pow_pos k
theorem and32 (z : Int) (h0 : 0 ≤ z) (h1 : z < 18446744073709551616) : bits .and .u64 z 4294967295 = z % 4294967296 := by go_bits2
set_option maxHeartbeats 2000000 in
theorem mul64_go (x y x0 x1 y0 y1 a b c d t w1 l : Int) (w : World) (_hx : 0 ≤ x) (_hx1 : x < 18446744073709551616) (_hy : 0 ≤ y) (_hy1 : y < 18446744073709551616)
    (e1 : bits .and .u64 x 4294967295 = x0) (e2 : x / 4294967296 = x1) (e3 : bits .and .u64 y 4294967295 = y0) (e4 : y / 4294967296 = y1)
    (ma : IntKind.u64.wrap (x0 * y0) = a) (mb : IntKind.u64.wrap (x1 * y0) = b) (mc : IntKind.u64.wrap (x0 * y1) = c) (md : IntKind.u64.wrap (x1 * y1) = d) (ml : IntKind.u64.wrap (x * y) = l)
    (a0 : 0 ≤ a) (a1 : a ≤ 18446744065119617025) (b0 : 0 ≤ b) (b1 : b ≤ 18446744065119617025) (c0 : 0 ≤ c) (c1 : c ≤ 18446744065119617025) (d0 : 0 ≤ d) (d1 : d ≤ 18446744065119617025)
    (ht : b + a / 4294967296 = t) (t0 : 0 ≤ t) (t1 : t < 18446744073709551616) (hw : bits .and .u64 t 4294967295 = w1) (w0 : 0 ≤ w1) (w2 : w1 < 4294967296) (hr : d + t / 4294967296 + (w1 + c) / 4294967296 < 18446744073709551616) :
    Calls Try.prog 11 #[.int .u64 x, .int .u64 y] w fun r w' => r = .returned (.tuple #[.int .u64 (d + t / 4294967296 + (w1 + c) / 4294967296), .int .u64 l]) ∧ w' = w := by
  go_enter Try.func11, Try.ntmps11
  go_wp2
  go_ret2
  exact ⟨rfl, rfl⟩
theorem u64wr (v : Int) : IntKind.u64.wrap v = v % 18446744073709551616 := by
  simp [IntKind.wrap, IntKind.bits, IntKind.signed]
theorem prod_le (a b : Int) (ha : 0 ≤ a) (ha1 : a ≤ 4294967295) (hb : 0 ≤ b) (hb1 : b ≤ 4294967295) : 0 ≤ a * b ∧ a * b ≤ 18446744065119617025 := by
  refine ⟨Int.mul_nonneg ha hb, ?_⟩
  exact Int.le_trans (Int.mul_le_mul ha1 hb1 hb (by decide)) (by decide)
/-- THE LONG PRODUCT -/
theorem mul64_at (x y : Int) (w : World) (hx : 0 ≤ x) (hx1 : x < 18446744073709551616) (hy : 0 ≤ y) (hy1 : y < 18446744073709551616) :
    Calls Try.prog 11 #[.int .u64 x, .int .u64 y] w fun r w' => r = .returned (.tuple #[.int .u64 (x * y / 18446744073709551616), .int .u64 (x * y % 18446744073709551616)]) ∧ w' = w := by
  obtain ⟨a0, a1⟩ := prod_le (x % 4294967296) (y % 4294967296) (by omega) (by omega) (by omega) (by omega)
  obtain ⟨b0, b1⟩ := prod_le (x / 4294967296) (y % 4294967296) (by omega) (by omega) (by omega) (by omega)
  obtain ⟨c0, c1⟩ := prod_le (x % 4294967296) (y / 4294967296) (by omega) (by omega) (by omega) (by omega)
  obtain ⟨d0, d1⟩ := prod_le (x / 4294967296) (y / 4294967296) (by omega) (by omega) (by omega) (by omega)
  have hxy : x * y = x % 4294967296 * (y % 4294967296) + (x / 4294967296 * (y % 4294967296) + x % 4294967296 * (y / 4294967296)) * 4294967296 + x / 4294967296 * (y / 4294967296) * 18446744073709551616 := by
    have ex : x = x % 4294967296 + x / 4294967296 * 4294967296 := by omega
    have ey : y = y % 4294967296 + y / 4294967296 * 4294967296 := by omega
    generalize x % 4294967296 = p at *
    generalize x / 4294967296 = q at *
    generalize y % 4294967296 = r at *
    generalize y / 4294967296 = s at *
    subst ex ey
    rw [Int.add_mul, Int.mul_add, Int.mul_add]
    have z1 : p * (s * 4294967296) = p * s * 4294967296 := by rw [Int.mul_assoc]
    have z2 : q * 4294967296 * r = q * r * 4294967296 := by rw [Int.mul_assoc, Int.mul_comm 4294967296, ← Int.mul_assoc]
    have z3 : q * 4294967296 * (s * 4294967296) = q * s * 18446744073709551616 := by
      rw [Int.mul_assoc, Int.mul_left_comm 4294967296, ← Int.mul_assoc]; rfl
    rw [z1, z2, z3]
    generalize p * r = A
    generalize p * s = B
    generalize q * r = C
    generalize q * s = D
    omega
  have w1 := and32 (x / 4294967296 * (y % 4294967296) + x % 4294967296 * (y % 4294967296) / 4294967296)
  have ma := u64wr (x % 4294967296 * (y % 4294967296))
  have mb := u64wr (x / 4294967296 * (y % 4294967296))
  have mc := u64wr (x % 4294967296 * (y / 4294967296))
  have md := u64wr (x / 4294967296 * (y / 4294967296))
  have e1 := and32 x hx hx1
  have e3 := and32 y hy hy1
  have h := mul64_go x y (x % 4294967296) (x / 4294967296) (y % 4294967296) (y / 4294967296)
  generalize x % 4294967296 * (y % 4294967296) = a at *
  generalize x / 4294967296 * (y % 4294967296) = b at *
  generalize x % 4294967296 * (y / 4294967296) = c at *
  generalize x / 4294967296 * (y / 4294967296) = d at *
  have w1' := w1 (by omega) (by omega)
  have h2 := h a b c d _ _ _ w hx hx1 hy hy1 e1 rfl e3 rfl (by rw [ma]; omega) (by rw [mb]; omega) (by rw [mc]; omega) (by rw [md]; omega) (u64wr _) a0 a1 b0 b1 c0 c1 d0 d1 rfl (by omega) (by omega) w1' (by omega) (by omega) (by omega)
  have e : d + (b + a / 4294967296) / 4294967296 + ((b + a / 4294967296) % 4294967296 + c) / 4294967296 = x * y / 18446744073709551616 := by
    rw [hxy]; omega
  rw [e] at h2
  exact h2
theorem log2_of {n k : Nat} (h : 2 ^ k ≤ n) (h' : n < 2 ^ (k + 1)) : n.log2 = k := by
  have : n ≠ 0 := by have := pow_pos k; omega
  exact (Nat.log2_eq_iff this).2 ⟨h, h'⟩

theorem ba_get (b : ByteArray) (i : Nat) (h : i < b.size) : b[i]'h = (b[i]?).getD 0 := by simp [h]
/-- how many bits a number below 256 has -/
def len8 (n : Nat) : Int := if n = 0 then 0 else ((n.log2 + 1 : Nat) : Int)
set_option maxHeartbeats 2000000 in
set_option maxRecDepth 100000 in
theorem len_0 (x : Int) (w : World) (h0 : 0 ≤ x) (h1 : x < 18446744073709551616) (t32 : x < 4294967296) (t16 : x < 65536) (t8 : x < 256) : Calls Try.prog 15 #[.int .u64 x] w fun e w' => e = .returned (.int .i64 (0 + len8 x.toNat)) ∧ w' = w := by
  go_enter Try.func15, Try.ntmps15
  go_wp2
  go_ret
  refine ⟨ret_int ?_, rfl⟩
  have hl : x.toNat < 256 := by omega
  rw [ba_get]
  generalize hn : x.toNat = n at hl ⊢
  clear hn
  revert n
  decide +kernel
set_option maxHeartbeats 2000000 in
set_option maxRecDepth 100000 in
theorem len_8 (x y0 : Int) (w : World) (h0 : 0 ≤ x) (h1 : x < 18446744073709551616) (t32 : x < 4294967296) (t16 : x < 65536) (t8 : 256 ≤ x) (e8 : x / 256 = y0) (p8 : 0 ≤ y0) (fl : y0 < 256) : Calls Try.prog 15 #[.int .u64 x] w fun e w' => e = .returned (.int .i64 (8 + len8 y0.toNat)) ∧ w' = w := by
  go_enter Try.func15, Try.ntmps15
  go_wp2
  go_ret
  refine ⟨ret_int ?_, rfl⟩
  have hl : y0.toNat < 256 := by omega
  rw [ba_get]
  generalize hn : y0.toNat = n at hl ⊢
  clear hn
  revert n
  decide +kernel
set_option maxHeartbeats 2000000 in
set_option maxRecDepth 100000 in
theorem len_16 (x y0 : Int) (w : World) (h0 : 0 ≤ x) (h1 : x < 18446744073709551616) (t32 : x < 4294967296) (t16 : 65536 ≤ x) (e16 : x / 65536 = y0) (p16 : 0 ≤ y0) (t8 : y0 < 256) (_fl : y0 < 256) : Calls Try.prog 15 #[.int .u64 x] w fun e w' => e = .returned (.int .i64 (16 + len8 y0.toNat)) ∧ w' = w := by
  go_enter Try.func15, Try.ntmps15
  go_wp2
  go_ret
  refine ⟨ret_int ?_, rfl⟩
  have hl : y0.toNat < 256 := by omega
  rw [ba_get]
  generalize hn : y0.toNat = n at hl ⊢
  clear hn
  revert n
  decide +kernel
set_option maxHeartbeats 2000000 in
set_option maxRecDepth 100000 in
theorem len_24 (x y0 y1 : Int) (w : World) (h0 : 0 ≤ x) (h1 : x < 18446744073709551616) (t32 : x < 4294967296) (t16 : 65536 ≤ x) (e16 : x / 65536 = y0) (_p16 : 0 ≤ y0) (t8 : 256 ≤ y0) (e8 : y0 / 256 = y1) (p8 : 0 ≤ y1) (fl : y1 < 256) : Calls Try.prog 15 #[.int .u64 x] w fun e w' => e = .returned (.int .i64 (24 + len8 y1.toNat)) ∧ w' = w := by
  go_enter Try.func15, Try.ntmps15
  go_wp2
  go_ret
  refine ⟨ret_int ?_, rfl⟩
  have hl : y1.toNat < 256 := by omega
  rw [ba_get]
  generalize hn : y1.toNat = n at hl ⊢
  clear hn
  revert n
  decide +kernel
set_option maxHeartbeats 2000000 in
set_option maxRecDepth 100000 in
theorem len_32 (x y0 : Int) (w : World) (_h0 : 0 ≤ x) (_h1 : x < 18446744073709551616) (t32 : 4294967296 ≤ x) (e32 : x / 4294967296 = y0) (p32 : 0 ≤ y0) (t16 : y0 < 65536) (t8 : y0 < 256) (_fl : y0 < 256) : Calls Try.prog 15 #[.int .u64 x] w fun e w' => e = .returned (.int .i64 (32 + len8 y0.toNat)) ∧ w' = w := by
  go_enter Try.func15, Try.ntmps15
  go_wp2
  go_ret
  refine ⟨ret_int ?_, rfl⟩
  have hl : y0.toNat < 256 := by omega
  rw [ba_get]
  generalize hn : y0.toNat = n at hl ⊢
  clear hn
  revert n
  decide +kernel
set_option maxHeartbeats 2000000 in
set_option maxRecDepth 100000 in
theorem len_40 (x y0 y1 : Int) (w : World) (_h0 : 0 ≤ x) (_h1 : x < 18446744073709551616) (t32 : 4294967296 ≤ x) (e32 : x / 4294967296 = y0) (p32 : 0 ≤ y0) (t16 : y0 < 65536) (t8 : 256 ≤ y0) (e8 : y0 / 256 = y1) (p8 : 0 ≤ y1) (fl : y1 < 256) : Calls Try.prog 15 #[.int .u64 x] w fun e w' => e = .returned (.int .i64 (40 + len8 y1.toNat)) ∧ w' = w := by
  go_enter Try.func15, Try.ntmps15
  go_wp2
  go_ret
  refine ⟨ret_int ?_, rfl⟩
  have hl : y1.toNat < 256 := by omega
  rw [ba_get]
  generalize hn : y1.toNat = n at hl ⊢
  clear hn
  revert n
  decide +kernel
set_option maxHeartbeats 2000000 in
set_option maxRecDepth 100000 in
theorem len_48 (x y0 y1 : Int) (w : World) (_h0 : 0 ≤ x) (_h1 : x < 18446744073709551616) (t32 : 4294967296 ≤ x) (e32 : x / 4294967296 = y0) (_p32 : 0 ≤ y0) (t16 : 65536 ≤ y0) (e16 : y0 / 65536 = y1) (p16 : 0 ≤ y1) (t8 : y1 < 256) (_fl : y1 < 256) : Calls Try.prog 15 #[.int .u64 x] w fun e w' => e = .returned (.int .i64 (48 + len8 y1.toNat)) ∧ w' = w := by
  go_enter Try.func15, Try.ntmps15
  go_wp2
  go_ret
  refine ⟨ret_int ?_, rfl⟩
  have hl : y1.toNat < 256 := by omega
  rw [ba_get]
  generalize hn : y1.toNat = n at hl ⊢
  clear hn
  revert n
  decide +kernel
set_option maxHeartbeats 2000000 in
set_option maxRecDepth 100000 in
theorem len_56 (x y0 y1 y2 : Int) (w : World) (_h0 : 0 ≤ x) (_h1 : x < 18446744073709551616) (t32 : 4294967296 ≤ x) (e32 : x / 4294967296 = y0) (_p32 : 0 ≤ y0) (t16 : 65536 ≤ y0) (e16 : y0 / 65536 = y1) (_p16 : 0 ≤ y1) (t8 : 256 ≤ y1) (e8 : y1 / 256 = y2) (p8 : 0 ≤ y2) (fl : y2 < 256) : Calls Try.prog 15 #[.int .u64 x] w fun e w' => e = .returned (.int .i64 (56 + len8 y2.toNat)) ∧ w' = w := by
  go_enter Try.func15, Try.ntmps15
  go_wp2
  go_ret
  refine ⟨ret_int ?_, rfl⟩
  have hl : y2.toNat < 256 := by omega
  rw [ba_get]
  generalize hn : y2.toNat = n at hl ⊢
  clear hn
  revert n
  decide +kernel
theorem log2_shift (n s : Nat) (h : 0 < n / 2 ^ s) : n.log2 = (n / 2 ^ s).log2 + s := by
  have hy : n / 2 ^ s ≠ 0 := by omega
  have h1 := Nat.log2_self_le hy
  have h2 := Nat.lt_log2_self (n := n / 2 ^ s)
  apply log2_of
  · rw [Nat.pow_add]
    exact Nat.le_trans (Nat.mul_le_mul_right _ h1) (Nat.div_mul_le_self n (2 ^ s))
  · have : n < (n / 2 ^ s + 1) * 2 ^ s := by
      have := Nat.lt_mul_div_succ n (pow_pos s)
      rw [Nat.mul_comm] at this; exact this
    refine Nat.lt_of_lt_of_le this ?_
    have e : (n / 2 ^ s).log2 + s + 1 = ((n / 2 ^ s).log2 + 1) + s := by omega
    rw [e, Nat.pow_add]
    exact Nat.mul_le_mul_right _ h2
theorem len8_log (n s : Nat) (h : 0 < n / 2 ^ s) : (s : Int) + len8 (n / 2 ^ s) = ((n.log2 + 1 : Nat) : Int) := by
  have := log2_shift n s h
  unfold len8
  rw [if_neg (by omega)]; omega
theorem len64_at (x : Nat) (w : World) (h0 : 0 < x) (h1 : x < 18446744073709551616) :
    Calls Try.prog 15 #[.int .u64 (x : Int)] w fun e w' => e = .returned (.int .i64 ((x.log2 + 1 : Nat) : Int)) ∧ w' = w := by
  by_cases a : x < 4294967296
  · by_cases b : x < 65536
    · by_cases c : x < 256
      · have h := len_0 (x : Int) w (by omega) (by omega) (by omega) (by omega) (by omega)
        have e := len8_log x 0 (by rw [Nat.pow_zero, Nat.div_one]; exact h0)
        rw [Nat.pow_zero, Nat.div_one] at e
        rw [Int.toNat_natCast] at h
        rw [← e]; exact h
      · have h := len_8 (x : Int) _ w (by omega) (by omega) (by omega) (by omega) (by omega) rfl (by omega) (by omega)
        have e := len8_log x 8 (by omega)
        rw [show ((x : Int) / 256).toNat = x / 2 ^ 8 by omega] at h
        rw [← e]; exact h
    · by_cases c : x / 65536 < 256
      · have h := len_16 (x : Int) _ w (by omega) (by omega) (by omega) (by omega) rfl (by omega) (by omega) (by omega)
        have e := len8_log x 16 (by omega)
        rw [show ((x : Int) / 65536).toNat = x / 2 ^ 16 by omega] at h
        rw [← e]; exact h
      · have h := len_24 (x : Int) _ _ w (by omega) (by omega) (by omega) (by omega) rfl (by omega) (by omega) rfl (by omega) (by omega)
        have e := len8_log x 24 (by omega)
        rw [show ((x : Int) / 65536 / 256).toNat = x / 2 ^ 24 by omega] at h
        rw [← e]; exact h
  · by_cases b : x / 4294967296 < 65536
    · by_cases c : x / 4294967296 < 256
      · have h := len_32 (x : Int) _ w (by omega) (by omega) (by omega) rfl (by omega) (by omega) (by omega) (by omega)
        have e := len8_log x 32 (by omega)
        rw [show ((x : Int) / 4294967296).toNat = x / 2 ^ 32 by omega] at h
        rw [← e]; exact h
      · have h := len_40 (x : Int) _ _ w (by omega) (by omega) (by omega) rfl (by omega) (by omega) (by omega) rfl (by omega) (by omega)
        have e := len8_log x 40 (by omega)
        rw [show ((x : Int) / 4294967296 / 256).toNat = x / 2 ^ 40 by omega] at h
        rw [← e]; exact h
    · by_cases c : x / 4294967296 / 65536 < 256
      · have h := len_48 (x : Int) _ _ w (by omega) (by omega) (by omega) rfl (by omega) (by omega) rfl (by omega) (by omega) (by omega)
        have e := len8_log x 48 (by omega)
        rw [show ((x : Int) / 4294967296 / 65536).toNat = x / 2 ^ 48 by omega] at h
        rw [← e]; exact h
      · have h := len_56 (x : Int) _ _ _ w (by omega) (by omega) (by omega) rfl (by omega) (by omega) rfl (by omega) (by omega) rfl (by omega) (by omega)
        have e := len8_log x 56 (by omega)
        rw [show ((x : Int) / 4294967296 / 65536 / 256).toNat = x / 2 ^ 56 by omega] at h
        rw [← e]; exact h

theorem two_pow_cast (k : Nat) : ((2 : Int) ^ k) = ((2 ^ k : Nat) : Int) := by rw [Int.natCast_pow]; rfl
theorem or_add (a b s : Nat) (hb : b < 2 ^ s) (h : a * 2 ^ s + b < 18446744073709551616) : bits .or .u64 ((a * 2 ^ s : Nat) : Int) (b : Int) = ((a * 2 ^ s + b : Nat) : Int) := by
  show IntKind.u64.wrap ((BitVec.ofInt 64 ((a * 2 ^ s : Nat) : Int) ||| BitVec.ofInt 64 (b : Int)).toNat : Int) = _
  rw [BitVec.toNat_or, ofInt_u64 _ (by omega), ofInt_u64 _ (by omega)]
  have := Nat.shiftLeft_add_eq_or_of_lt hb a
  rw [Nat.shiftLeft_eq] at this
  rw [← this, u64wr]
  omega

set_option maxRecDepth 100000 in
theorem lead_go (x n : Int) (w : World) (L : Hid (Calls Try.prog 15 #[.int .u64 x] w fun e w' => e = .returned (.int .i64 n) ∧ w' = w)) (h0 : 0 ≤ n) (h1 : n ≤ 64) : Calls Try.prog 14 #[.int .u64 x] w fun e w' => e = .returned (.int .i64 (64 - n)) ∧ w' = w := by
  go_enter Try.func14, Try.ntmps14
  go_wp2_with fail
  refine L.out.mono ?_
  rintro e9 v ⟨rfl, hv⟩
  have hv2 := hv.symm
  subst hv2
  go_wp2
  go_ret
  exact ⟨rfl, rfl⟩
/-- HOW MANY ZEROS LEAD -/
theorem lead_at (x : Nat) (w : World) (h0 : 0 < x) (h1 : x < 18446744073709551616) : Calls Try.prog 14 #[.int .u64 (x : Int)] w fun e w' => e = .returned (.int .i64 (64 - ((x.log2 + 1 : Nat) : Int))) ∧ w' = w := by
  have l : x.log2 < 64 := (Nat.log2_lt (by omega)).2 h1
  exact lead_go _ _ w (len64_at x w h0 h1) (by omega) (by omega)
end Sh
end Go.Proofs.Ytehadalddjbclaa
