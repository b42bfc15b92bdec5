/-
  The reference: parts, half, put, odd: walks over the program.
-/
import Derived.Test.YtgbnabpbheebjaaRa
namespace Go.Proofs.Ytgbnabpbheebjaa
open Go.RowKit Tf
attribute [local go_sem] run_bits run_from raw_feq raw_fne raw_flt raw_fgt run_neg

set_option maxHeartbeats 2000000 in
theorem rparts_go1 (x : Nat) (b : Int) (z : Bool) (w : World) (R : Hid (∀ w, Calls Try.prog 25 #[.float .f64 x] w fun e w' => e = .returned (.int .u64 b) ∧ w' = w)) (h0 : 0 ≤ b) (h1 : b < 18446744073709551616)
    (hz : (b / 9223372036854775808 == 1) = z) (he : b / 4503599627370496 % 2048 = 2047) (hm : b % 4503599627370496 = 0) :
    Calls Try.prog 27 #[.float .f64 x] w fun r w' => r = .returned (.tuple #[.bool z, .int .u64 0, .int .i64 0, .int .i64 1]) ∧ w' = w := by
  go_enter Try.func27, Try.ntmps27
  go_wp2_with fail
  refine (R.out _).mono ?_
  rintro e w' ⟨rfl, rfl⟩
  go_wp2
  refine bodyPost_ret (v := .tuple #[.bool z, .int .u64 0, .int .i64 0, .int .i64 1]) (by simp [results, Try.results27, go_sem]) rfl ⟨rfl, rfl⟩
set_option maxHeartbeats 2000000 in
theorem rparts_go2 (x : Nat) (b : Int) (z : Bool) (w : World) (R : Hid (∀ w, Calls Try.prog 25 #[.float .f64 x] w fun e w' => e = .returned (.int .u64 b) ∧ w' = w)) (h0 : 0 ≤ b) (h1 : b < 18446744073709551616)
    (hz : (b / 9223372036854775808 == 1) = z) (he : b / 4503599627370496 % 2048 = 2047) (hm : (b % 4503599627370496 == 0) = false) :
    Calls Try.prog 27 #[.float .f64 x] w fun r w' => r = .returned (.tuple #[.bool z, .int .u64 0, .int .i64 0, .int .i64 2]) ∧ w' = w := by
  go_enter Try.func27, Try.ntmps27
  go_wp2_with fail
  refine (R.out _).mono ?_
  rintro e w' ⟨rfl, rfl⟩
  go_wp2
  refine bodyPost_ret (v := .tuple #[.bool z, .int .u64 0, .int .i64 0, .int .i64 2]) (by simp [results, Try.results27, go_sem]) rfl ⟨rfl, rfl⟩
set_option maxHeartbeats 2000000 in
theorem rparts_go3 (x : Nat) (b : Int) (z : Bool) (w : World) (R : Hid (∀ w, Calls Try.prog 25 #[.float .f64 x] w fun e w' => e = .returned (.int .u64 b) ∧ w' = w)) (h0 : 0 ≤ b) (h1 : b < 18446744073709551616)
    (hz : (b / 9223372036854775808 == 1) = z) (he : b / 4503599627370496 % 2048 = 0) :
    Calls Try.prog 27 #[.float .f64 x] w fun r w' => r = .returned (.tuple #[.bool z, .int .u64 (b % 4503599627370496), .int .i64 (-1074), .int .i64 0]) ∧ w' = w := by
  go_enter Try.func27, Try.ntmps27
  go_wp2_with fail
  refine (R.out _).mono ?_
  rintro e w' ⟨rfl, rfl⟩
  go_wp2
  refine bodyPost_ret (v := .tuple #[.bool z, .int .u64 (b % 4503599627370496), .int .i64 (-1074), .int .i64 0]) (by simp [results, Try.results27, go_sem]) rfl ⟨rfl, rfl⟩
set_option maxHeartbeats 2000000 in
theorem rparts_go4 (x : Nat) (b ex : Int) (z : Bool) (w : World) (R : Hid (∀ w, Calls Try.prog 25 #[.float .f64 x] w fun e w' => e = .returned (.int .u64 b) ∧ w' = w)) (h0 : 0 ≤ b) (h1 : b < 18446744073709551616)
    (hz : (b / 9223372036854775808 == 1) = z) (he : b / 4503599627370496 % 2048 = ex) (e0 : 0 < ex) (e1 : ex < 2047) :
    Calls Try.prog 27 #[.float .f64 x] w fun r w' => r = .returned (.tuple #[.bool z, .int .u64 (b % 4503599627370496 + 4503599627370496), .int .i64 (ex - 1075), .int .i64 0]) ∧ w' = w := by
  go_enter Try.func27, Try.ntmps27
  go_wp2_with fail
  refine (R.out _).mono ?_
  rintro e w' ⟨rfl, rfl⟩
  go_wp2
  refine bodyPost_ret (v := .tuple #[.bool z, .int .u64 (b % 4503599627370496 + 4503599627370496), .int .i64 (ex - 1075), .int .i64 0]) (by simp [results, Try.results27, go_sem]) rfl ⟨rfl, rfl⟩
/-- THE PARTS OF A FLOAT -/
theorem rparts_fin (x : Nat) (w : World) (hx : x < 18446744073709551616) (fx : mg x < 9218868437227405312) :
    Calls Try.prog 27 #[.float .f64 x] w fun e w' => e = .returned (.tuple #[.bool (ng x), .int .u64 ((wm (mg x) : Nat) : Int), .int .i64 (((wk (mg x) : Nat) : Int) - 1074), .int .i64 0]) ∧ w' = w := by
  have R := hid (fun w => rawBits_any x w)
  have hm : mg x = x % 9223372036854775808 := rfl
  have hz : (((x : Nat) : Int) / 9223372036854775808 == 1) = ng x := by
    unfold ng; rw [Bool.eq_iff_iff]; simp; omega
  by_cases c : mg x < 4503599627370496
  · have h := rparts_go3 x _ (ng x) w R (by omega) (by omega) hz (by omega)
    have e1 : ((x : Nat) : Int) % 4503599627370496 = ((wm (mg x) : Nat) : Int) := by unfold wm; rw [if_pos c]; omega
    have e2 : ((wk (mg x) : Nat) : Int) - 1074 = -1074 := by unfold wk; omega
    rw [e1] at h; rw [e2]; exact h
  · have h := rparts_go4 x _ _ (ng x) w R (by omega) (by omega) hz rfl (by omega) (by omega)
    have e1 : ((x : Nat) : Int) % 4503599627370496 + 4503599627370496 = ((wm (mg x) : Nat) : Int) := by unfold wm; rw [if_neg c]; omega
    have e2 : ((x : Nat) : Int) / 4503599627370496 % 2048 - 1075 = ((wk (mg x) : Nat) : Int) - 1074 := by unfold wk; omega
    rw [e1, e2] at h; exact h
theorem rparts_inf (x : Nat) (w : World) (hx : x < 18446744073709551616) (fx : mg x = 9218868437227405312) :
    Calls Try.prog 27 #[.float .f64 x] w fun e w' => e = .returned (.tuple #[.bool (ng x), .int .u64 0, .int .i64 0, .int .i64 1]) ∧ w' = w := by
  have R := hid (fun w => rawBits_any x w)
  have hm : mg x = x % 9223372036854775808 := rfl
  have hz : (((x : Nat) : Int) / 9223372036854775808 == 1) = ng x := by
    unfold ng; rw [Bool.eq_iff_iff]; simp; omega
  exact rparts_go1 x _ (ng x) w R (by omega) (by omega) hz (by omega) (by omega)
theorem rparts_nan (x : Nat) (w : World) (hx : x < 18446744073709551616) (fx : isN x = true) :
    Calls Try.prog 27 #[.float .f64 x] w fun e w' => e = .returned (.tuple #[.bool (ng x), .int .u64 0, .int .i64 0, .int .i64 2]) ∧ w' = w := by
  have R := hid (fun w => rawBits_any x w)
  have hm : mg x = x % 9223372036854775808 := rfl
  rw [isN_true] at fx
  have hz : (((x : Nat) : Int) / 9223372036854775808 == 1) = ng x := by
    unfold ng; rw [Bool.eq_iff_iff]; simp; omega
  exact rparts_go2 x _ (ng x) w R (by omega) (by omega) hz (by omega) (by rw [beq_eq_false_iff_ne]; omega)
set_option maxHeartbeats 2000000 in
theorem half_go (g k : Nat) (n e q x0 x1 : Int) (h lo hi W : Int) (w : World)
    (h0 : w.cell? ⟨g, k, none⟩ = some (.int .i64 x0)) (h1 : w.cell? ⟨g, k + 1, none⟩ = some (.int .i64 x1)) (f0 : w.frozen? ⟨g, k, none⟩ = false) (f1 : w.frozen? ⟨g, k + 1, none⟩ = false)
    (hk : (k : Int) < 135) (hq : e + 2176 = q) (e1 : q / 32 = k) (e2 : q % 32 = n) (q0 : 0 ≤ q) (q1 : q < 4320) (_n0 : 0 ≤ n) (_n1 : n < 32) (hW : IntKind.u64.wrap (h * 2 ^ n.toNat) = W) (W0 : 0 ≤ W) (W1 : W < 18446744073709551616) (hlo : W % 4294967296 = lo) (hhi : W / 4294967296 = hi) (_lo0 : 0 ≤ lo) (_lo1 : lo < 4294967296) (hi0 : 0 ≤ hi) (hi1 : hi < 4294967296)
    (b0 : -72057594037927936 ≤ x0) (c0 : x0 ≤ 72057594037927936) (b1 : -72057594037927936 ≤ x1) (c1 : x1 ≤ 72057594037927936) :
    Calls Try.prog 42 #[.pointer (some ⟨g, 0, none⟩), .bool false, .int .u64 h, .int .i64 e] w fun r w' => r = .returned (.tuple #[]) ∧
      w' = ((w.setCell ⟨g, k, none⟩ (.int .i64 (x0 + lo))).setCell ⟨g, k + 1, none⟩ (.int .i64 (x1 + hi))).drew.drew := by
  go_enter Try.func42, Try.ntmps42
  go_wp2
  go_region
  go_wp2
  go_region
  go_wp2
  go_end0
  exact ⟨rfl, rfl⟩
set_option maxHeartbeats 2000000 in
theorem half_go2 (g k : Nat) (n e q x0 x1 : Int) (h lo hi W : Int) (w : World)
    (h0 : w.cell? ⟨g, k, none⟩ = some (.int .i64 x0)) (h1 : w.cell? ⟨g, k + 1, none⟩ = some (.int .i64 x1)) (f0 : w.frozen? ⟨g, k, none⟩ = false) (f1 : w.frozen? ⟨g, k + 1, none⟩ = false)
    (hk : (k : Int) < 135) (hq : e + 2176 = q) (e1 : q / 32 = k) (e2 : q % 32 = n) (q0 : 0 ≤ q) (q1 : q < 4320) (_n0 : 0 ≤ n) (_n1 : n < 32) (hW : IntKind.u64.wrap (h * 2 ^ n.toNat) = W) (W0 : 0 ≤ W) (W1 : W < 18446744073709551616) (hlo : W % 4294967296 = lo) (hhi : W / 4294967296 = hi) (_lo0 : 0 ≤ lo) (_lo1 : lo < 4294967296) (hi0 : 0 ≤ hi) (hi1 : hi < 4294967296)
    (b0 : -72057594037927936 ≤ x0) (c0 : x0 ≤ 72057594037927936) (b1 : -72057594037927936 ≤ x1) (c1 : x1 ≤ 72057594037927936) :
    Calls Try.prog 42 #[.pointer (some ⟨g, 0, none⟩), .bool true, .int .u64 h, .int .i64 e] w fun r w' => r = .returned (.tuple #[]) ∧
      w' = ((w.setCell ⟨g, k, none⟩ (.int .i64 (x0 + -lo))).setCell ⟨g, k + 1, none⟩ (.int .i64 (x1 + -hi))).drew.drew := by
  go_enter Try.func42, Try.ntmps42
  go_wp2
  go_region
  go_wp2
  go_region
  go_wp2
  go_end0
  exact ⟨rfl, rfl⟩

/-- HALF OF A NUMBER MORE, or less -/
theorem half_at (g : Nat) (f : Nat → Int) (c : Int) (p q r o neg : Bool) (h : Nat) (e : Int) (B : Int) (w : World) (hg : IsR g f c p q r o w) (hf : Lim f B) (hB : B ≤ 72057594037927936) (hh : h < 4294967296) (e0 : -2176 ≤ e) (e1 : e < 2112) :
    Calls Try.prog 42 #[.pointer (some ⟨g, 0, none⟩), .bool neg, .int .u64 (h : Int), .int .i64 e] w fun x w' => x = .returned (.tuple #[]) ∧
      ∃ f', Hid (IsR g f' c p q r o w') ∧ Hid (Only g w w') ∧ Hid (valN f' 136 = valN f 136 + (if neg then -1 else 1) * ((h * 2 ^ (e + 2176).toNat : Nat) : Int)) ∧ Hid (Lim f' (B + 4294967296)) := by
  obtain ⟨k, hk⟩ : ∃ k : Nat, (e + 2176) / 32 = k := ⟨((e + 2176) / 32).toNat, by omega⟩
  obtain ⟨n, hn⟩ : ∃ n : Nat, (e + 2176) % 32 = n := ⟨((e + 2176) % 32).toNat, by omega⟩
  have hk1 : k + 1 < 136 := by omega
  have hn1 : n < 32 := by omega
  have ek : (e + 2176).toNat = 32 * k + n := by omega
  have hb0 := hf k
  have hb1 := hf (k + 1)
  obtain ⟨v1, v2, v3⟩ := half_val f k n h (if neg then -1 else 1) hk1 B hf hh hn1 (by cases neg <;> simp)
  have hW : IntKind.u64.wrap ((h : Int) * 2 ^ ((n : Nat) : Int).toNat) = ((h * 2 ^ n : Nat) : Int) := by
    rw [u64wr, Int.toNat_natCast, two_pow_cast, ← Int.natCast_mul]
    generalize h * 2 ^ n = z at *
    omega
  rw [ek]
  have hl := hg.limb k (by omega)
  have hl2 := hg.limb (k + 1) hk1
  obtain ⟨W, hWe⟩ : ∃ W, h * 2 ^ n = W := ⟨_, rfl⟩
  rw [hWe] at v1 v2 v3 hW
  cases neg
  · rw [if_neg (by decide)] at v1 v2
    rw [if_neg (by decide)]
    refine (half_go g k n e _ _ _ h _ _ _ w hl hl2 (hg.fr _) (hg.fr _) (by omega) rfl hk hn (by omega) (by omega) (by omega) (by omega) hW (by omega) (by omega) rfl rfl (by omega) (by omega) (by omega) (by omega) (by omega) (by omega) (by omega) (by omega)).mono ?_
    rintro x w' ⟨he, hw⟩
    refine ⟨he, _, ?_, ?_, v1, v2⟩
    · show IsR _ _ _ _ _ _ _ _
      rw [hw, Int.one_mul, Int.one_mul]
      have e2 : upd f k (f k + ((W % 4294967296 : Nat) : Int)) (k + 1) = f (k + 1) := by unfold upd; rw [if_neg (by omega)]
      have := (hg.sl k (f k + ((W % 4294967296 : Nat) : Int)) (by omega)).sl (k + 1) (f (k + 1) + ((W / 4294967296 : Nat) : Int)) hk1
      exact this
    · show Only _ _ _
      rw [hw]
      exact ((only_set g k _ w).trans (only_set g (k + 1) _ _)).drew.drew
  · rw [if_pos rfl] at v1 v2
    rw [if_pos rfl]
    refine (half_go2 g k n e _ _ _ h _ _ _ w hl hl2 (hg.fr _) (hg.fr _) (by omega) rfl hk hn (by omega) (by omega) (by omega) (by omega) hW (by omega) (by omega) rfl rfl (by omega) (by omega) (by omega) (by omega) (by omega) (by omega) (by omega) (by omega)).mono ?_
    rintro x w' ⟨he, hw⟩
    refine ⟨he, _, ?_, ?_, v1, v2⟩
    · show IsR _ _ _ _ _ _ _ _
      rw [hw, Int.neg_mul, Int.one_mul, Int.neg_mul, Int.one_mul]
      have := (hg.sl k (f k + -((W % 4294967296 : Nat) : Int)) (by omega)).sl (k + 1) (f (k + 1) + -((W / 4294967296 : Nat) : Int)) hk1
      exact this
    · show Only _ _ _
      rw [hw]
      exact ((only_set g k _ w).trans (only_set g (k + 1) _ _)).drew.drew

set_option maxHeartbeats 2000000 in
theorem put_go (g : Nat) (neg : Bool) (m e a b : Int) (w : World) (Q : World → Prop) (R : World → Prop) (ha : m % 4294967296 = a) (hb : m / 4294967296 = b) (m0 : 0 ≤ m) (m1 : m < 18446744073709551616) (e0 : -2176 ≤ e) (e1 : e < 2080)
    (H1 : Hid (Calls Try.prog 42 #[.pointer (some ⟨g, 0, none⟩), .bool neg, .int .u64 a, .int .i64 e] w fun x w' => x = .returned (.tuple #[]) ∧ R w'))
    (H2 : Hid (∀ w, R w → Calls Try.prog 42 #[.pointer (some ⟨g, 0, none⟩), .bool neg, .int .u64 b, .int .i64 (e + 32)] w fun x w' => x = .returned (.tuple #[]) ∧ Q w')) :
    Calls Try.prog 29 #[.pointer (some ⟨g, 0, none⟩), .bool neg, .int .u64 m, .int .i64 e] w fun x w' => x = .returned (.tuple #[]) ∧ Q w' := by
  go_enter Try.func29, Try.ntmps29
  go_wp2_with fail
  refine H1.out.mono ?_
  rintro x w1 ⟨rfl, hR⟩
  go_wp2_with fail
  refine (H2.out _ hR).mono ?_
  rintro x w2 ⟨rfl, hQ⟩
  go_wp2
  go_end0
  exact ⟨rfl, hQ⟩
/-- A WHOLE NUMBER OF 64 BITS MORE, or less -/
theorem put_at (g : Nat) (f : Nat → Int) (c : Int) (p q r o neg : Bool) (m : Nat) (e : Int) (B : Int) (w : World) (hg : IsR g f c p q r o w) (hf : Lim f B) (hB : B + 4294967296 ≤ 72057594037927936) (hm : m < 18446744073709551616) (e0 : -2176 ≤ e) (e1 : e < 2080) :
    Calls Try.prog 29 #[.pointer (some ⟨g, 0, none⟩), .bool neg, .int .u64 (m : Int), .int .i64 e] w fun x w' => x = .returned (.tuple #[]) ∧
      ∃ f', Hid (IsR g f' c p q r o w') ∧ Hid (Only g w w') ∧ Hid (valN f' 136 = valN f 136 + (if neg then -1 else 1) * ((m * 2 ^ (e + 2176).toNat : Nat) : Int)) ∧ Hid (Lim f' (B + 8589934592)) := by
  refine put_go g neg m e ((m % 4294967296 : Nat) : Int) ((m / 4294967296 : Nat) : Int) w _
    (fun w' => ∃ f', Hid (IsR g f' c p q r o w') ∧ Hid (Only g w w') ∧ Hid (valN f' 136 = valN f 136 + (if neg then -1 else 1) * ((m % 4294967296 * 2 ^ (e + 2176).toNat : Nat) : Int)) ∧ Hid (Lim f' (B + 4294967296)))
    (by omega) (by omega) (by omega) (by omega) e0 e1 (half_at g f c p q r o neg _ e B w hg hf (by omega) (by omega) e0 (by omega)) ?_
  rintro w1 ⟨f1, k1, k2, k3, k4⟩
  refine (half_at g f1 c p q r o neg (m / 4294967296) (e + 32) (B + 4294967296) w1 k1.out k4.out hB (by omega) (by omega) (by omega)).mono ?_
  rintro x w2 ⟨hx, f2, l1, l2, l3, l4⟩
  refine ⟨hx, f2, l1, k2.out.trans l2.out, ?_, ?_⟩
  · show _ = _
    rw [l3.out, k3.out]
    have e2 : (e + 32 + 2176).toNat = (e + 2176).toNat + 32 := by omega
    have e3 : m * 2 ^ (e + 2176).toNat = m % 4294967296 * 2 ^ (e + 2176).toNat + m / 4294967296 * 2 ^ ((e + 2176).toNat + 32) := by
      rw [Nat.pow_add, show (2 : Nat) ^ 32 = 4294967296 by decide, Nat.mul_comm (2 ^ (e + 2176).toNat) 4294967296, ← Nat.mul_assoc, ← Nat.add_mul, show m % 4294967296 + m / 4294967296 * 4294967296 = m by omega]
    rw [e2, e3, Int.natCast_add, Int.mul_add, Int.add_assoc]
  · show Lim _ _
    have : B + 8589934592 = B + 4294967296 + 4294967296 := by omega
    rw [this]; exact l4.out

set_option maxHeartbeats 2000000 in
theorem odd_nan (g : Nat) (neg b1 b2 : Bool) (w : World) (h1 : w.cell? ⟨g, 140, none⟩ = some (.bool b1)) (f1 : w.frozen? ⟨g, 140, none⟩ = false) (h2 : w.cell? ⟨g, 139, none⟩ = some (.bool b2)) (f2 : w.frozen? ⟨g, 139, none⟩ = false) :
    Calls Try.prog 28 #[.pointer (some ⟨g, 0, none⟩), .bool neg, .bool true] w fun x w' => x = .returned (.tuple #[]) ∧ w' = (w.setCell ⟨g, 140, none⟩ (.bool true)).setCell ⟨g, 139, none⟩ (.bool true) := by
  go_enter Try.func28, Try.ntmps28
  go_wp2
  go_end0
  exact ⟨rfl, rfl⟩
set_option maxHeartbeats 2000000 in
theorem odd_neg (g : Nat) (b1 b2 : Bool) (w : World) (h1 : w.cell? ⟨g, 140, none⟩ = some (.bool b1)) (f1 : w.frozen? ⟨g, 140, none⟩ = false) (h2 : w.cell? ⟨g, 138, none⟩ = some (.bool b2)) (f2 : w.frozen? ⟨g, 138, none⟩ = false) :
    Calls Try.prog 28 #[.pointer (some ⟨g, 0, none⟩), .bool true, .bool false] w fun x w' => x = .returned (.tuple #[]) ∧ w' = (w.setCell ⟨g, 140, none⟩ (.bool true)).setCell ⟨g, 138, none⟩ (.bool true) := by
  go_enter Try.func28, Try.ntmps28
  go_wp2
  go_end0
  exact ⟨rfl, rfl⟩
set_option maxHeartbeats 2000000 in
theorem odd_pos (g : Nat) (b1 b2 : Bool) (w : World) (h1 : w.cell? ⟨g, 140, none⟩ = some (.bool b1)) (f1 : w.frozen? ⟨g, 140, none⟩ = false) (h2 : w.cell? ⟨g, 137, none⟩ = some (.bool b2)) (f2 : w.frozen? ⟨g, 137, none⟩ = false) :
    Calls Try.prog 28 #[.pointer (some ⟨g, 0, none⟩), .bool false, .bool false] w fun x w' => x = .returned (.tuple #[]) ∧ w' = (w.setCell ⟨g, 140, none⟩ (.bool true)).setCell ⟨g, 137, none⟩ (.bool true) := by
  go_enter Try.func28, Try.ntmps28
  go_wp2
  go_end0
  exact ⟨rfl, rfl⟩
/-- AN INFINITY OR A NaN MORE -/
theorem odd_at (g : Nat) (f : Nat → Int) (c : Int) (p q r o neg none : Bool) (w : World) (hg : IsR g f c p q r o w) :
    Calls Try.prog 28 #[.pointer (some ⟨g, 0, .none⟩), .bool neg, .bool none] w fun x w' => x = .returned (.tuple #[]) ∧ (Hid (IsR g f c (p || (!none && !neg)) (q || (!none && neg)) (r || none) true w') ∧ Hid (Only g w w')) := by
  cases none
  · cases neg
    · refine (odd_pos g o p w hg.co (hg.fr _) hg.cp (hg.fr _)).mono ?_
      rintro x w' ⟨hx, rfl⟩
      refine ⟨hx, ?_, (only_set _ _ _ _).trans (only_set _ _ _ _)⟩
      simp only [Bool.not_false, Bool.and_self, Bool.or_true, Bool.and_false, Bool.or_false]
      exact (hg.so true).sp true
    · refine (odd_neg g o q w hg.co (hg.fr _) hg.cq (hg.fr _)).mono ?_
      rintro x w' ⟨hx, rfl⟩
      refine ⟨hx, ?_, (only_set _ _ _ _).trans (only_set _ _ _ _)⟩
      simp only [Bool.not_false, Bool.not_true, Bool.and_self, Bool.or_true, Bool.and_false, Bool.or_false]
      exact (hg.so true).sq true
  · refine (odd_nan g neg o r w hg.co (hg.fr _) hg.cr (hg.fr _)).mono ?_
    rintro x w' ⟨hx, rfl⟩
    refine ⟨hx, ?_, (only_set _ _ _ _).trans (only_set _ _ _ _)⟩
    simp only [Bool.not_true, Bool.false_and, Bool.or_true, Bool.or_false]
    exact (hg.so true).sr true
end Go.Proofs.Ytgbnabpbheebjaa
