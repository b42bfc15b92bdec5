/-
  For every float, of any bits, and every whole number of 64 bits, the call of the statement on opposites returns true and leaves its arguments as they were.
-/
import Derived.Test.YtpncpbpdbdlamaaRows
import Derived.Test.YtpncpbpdbdlamaaWt
import Derived.Test.YtpncpbpdbdlamaaPo
import Derived.ProofKit
import Derived.OpenShut
import Derived.WalkLawsBesides
namespace Go.Proofs.Ytpncpbpdbdlamaa.convOppositeDone
open Go.ChangeShapes Go.WideShapes Go.ChangeAt Go.RowKit

theorem own : ownKnob Try.prog.godebug = none := by kernel_rfl

open Tf
attribute [local go_sem] run_bits run_from raw_feq raw_fne raw_flt raw_fgt run_neg
theorem xor_pow (k x : Nat) (h : x < 2 ^ k) : x ^^^ 2 ^ k = x + 2 ^ k := by
  apply Nat.eq_of_testBit_eq
  intro i
  rw [Nat.testBit_xor, Nat.testBit_two_pow, Nat.add_comm x]
  by_cases c : i = k
  · subst c
    rw [Nat.testBit_two_pow_add_eq]
    have : x.testBit i = false := Nat.testBit_lt_two_pow h
    simp [this]
  · by_cases c2 : i < k
    · rw [Nat.testBit_two_pow_add_gt c2]
      have : ¬ k = i := by omega
      simp [this]
    · have hk : 2 ^ (k + 1) = 2 * 2 ^ k := by rw [Nat.pow_succ]; omega
      have h1 : x.testBit i = false := Nat.testBit_lt_two_pow (Nat.lt_of_lt_of_le h (Nat.pow_le_pow_right (by omega) (by omega)))
      have h2 : (2 ^ k + x).testBit i = false := Nat.testBit_lt_two_pow (Nat.lt_of_lt_of_le (show 2 ^ k + x < 2 ^ (k + 1) by omega) (Nat.pow_le_pow_right (by omega) (by omega)))
      have : ¬ k = i := by omega
      rw [h1, h2]; simp [this]
theorem xor_both (k x : Nat) (h : x < 2 ^ k) : x ^^^ (2 ^ k + x) = 2 ^ k ∧ (2 ^ k + x) ^^^ x = 2 ^ k := by
  have e := xor_pow k x h
  rw [Nat.add_comm] at e
  rw [← e]
  constructor
  · rw [← Nat.xor_assoc, Nat.xor_self, Nat.zero_xor]
  · rw [Nat.xor_comm, ← Nat.xor_assoc, Nat.xor_self, Nat.zero_xor]
theorem xor16 (r : Nat) (h1 : r < 32768) : bits .xor .u16 (r : Int) ((32768 + r : Nat) : Int) = 32768 ∧ bits .xor .u16 ((32768 + r : Nat) : Int) (r : Int) = 32768 := by
  have h := xor_both 15 r (by omega)
  have e : (2 : Nat) ^ 15 = 32768 := by decide
  rw [e] at h
  constructor
  · go_bits2
  · go_bits2
theorem xor32 (r : Nat) (h1 : r < 2147483648) : bits .xor .u32 (r : Int) ((2147483648 + r : Nat) : Int) = 2147483648 ∧ bits .xor .u32 ((2147483648 + r : Nat) : Int) (r : Int) = 2147483648 := by
  have h := xor_both 31 r (by omega)
  have e : (2 : Nat) ^ 31 = 2147483648 := by decide
  rw [e] at h
  constructor
  · go_bits2
  · go_bits2
set_option maxHeartbeats 2000000 in
theorem nan (x : Nat) (most : Int) (w : World) (c : feq x x = false) :
    Calls Try.prog 8 #[.float .f64 x, .int .i64 most] w fun e w' => e = .returned (.bool true) ∧ ∃ n, w' = w.drewN n := by
  go_enter Try.func8, Try.ntmps8
  go_wp2_with fail
  refine (awake_any _).mono ?_
  rintro e w' ⟨rfl, k, rfl⟩
  go_wp2
  go_ret
  exact ⟨rfl, _, rfl⟩

set_option maxHeartbeats 2000000 in
theorem cFq (x : Nat) (most : Int) (w : World) (hx : x < 18446744073709551616) (hm : most ≤ 9223372036854775807) (c : feq x x = true) (y : Nat) (en : Op.negFloat .f64 x = y) (hy : y < 18446744073709551616) (n m j : Int) (hi : Hid (clampB x most = -j)) (hj : Hid (clampB y most = j)) (j0 : -9223372036854775807 ≤ j) (j1 : j ≤ 9223372036854775807) (s t z u v : Nat) (hs : Hid (to32B x = s)) (ls : s < 4294967296) (hz : Hid (from32B s = z)) (lz : z < 18446744073709551616) (ht : Hid (to32B y = t)) (hu : Hid (to16B x = u)) (_lu : u < 65535) (hv : Hid (to16B y = v)) (hg : Hid (to16B z = u)) (x1 : bits .xor .u32 (s : Int) (t : Int) = 2147483648) (x2 : bits .xor .u16 (u : Int) (v : Int) = 32768) (q : Bool) (a1 : Hid (cI .even x = n)) (a2 : Hid (cOk .even x = false)) (b1 : Hid (cI .even y = m)) (b2 : Hid (cOk .even y = q))  :
    Calls Try.prog 8 #[.float .f64 x, .int .i64 most] w fun e w' => e = .returned (.bool true) ∧ ∃ n, w' = w.drewN n := by
  go_enter Try.func8, Try.ntmps8
  go_wp2_with fail
  refine (awake_any _).mono ?_
  rintro e w' ⟨rfl, k, rfl⟩
  go_wp2_with fail
  refine (round_at x n false _ hx a1.out a2.out).mono ?_
  rintro e w' ⟨rfl, k, rfl⟩
  go_wp2_with fail
  refine (round_at y m q _ hy b1.out b2.out).mono ?_
  rintro e w' ⟨rfl, k, rfl⟩
  go_wp2_with fail
  refine (clamp_at x most (-j) _ hx hm hi.out).mono ?_
  rintro e w' ⟨rfl, k, rfl⟩
  go_wp2_with fail
  refine (clamp_at y most j _ hy hm hj.out).mono ?_
  rintro e w' ⟨rfl, k, rfl⟩
  go_wp2_with fail
  refine (to16_at x u _ hx hu.out).mono ?_
  rintro e w' ⟨rfl, rfl⟩
  go_wp2_with fail
  refine (to32_all x s _ hx hs.out).mono ?_
  rintro e w' ⟨rfl, rfl⟩
  go_wp2_with fail
  refine (from32_at (s : Int) z _ (by omega) (by omega) (by rw [Int.toNat_natCast]; exact hz.out)).mono ?_
  rintro e w' ⟨rfl, k, rfl⟩
  go_wp2_with fail
  refine (to16_at z u _ lz hg.out).mono ?_
  rintro e w' ⟨rfl, rfl⟩
  go_wp2_with fail
  refine (to32_all x s _ hx hs.out).mono ?_
  rintro e w' ⟨rfl, rfl⟩
  go_wp2_with fail
  refine (to32_all y t _ hy ht.out).mono ?_
  rintro e w' ⟨rfl, rfl⟩
  go_wp2_with fail
  refine (to16_at y v _ hy hv.out).mono ?_
  rintro e w' ⟨rfl, rfl⟩
  go_wp2
  go_ret
  exact ⟨rfl, _, rfl⟩

set_option maxHeartbeats 2000000 in
theorem cTFq (x : Nat) (most : Int) (w : World) (hx : x < 18446744073709551616) (hm : most ≤ 9223372036854775807) (c : feq x x = true) (y : Nat) (en : Op.negFloat .f64 x = y) (hy : y < 18446744073709551616) (n m j : Int) (hi : Hid (clampB x most = -j)) (hj : Hid (clampB y most = j)) (j0 : -9223372036854775807 ≤ j) (j1 : j ≤ 9223372036854775807) (s t z u v : Nat) (hs : Hid (to32B x = s)) (ls : s < 4294967296) (hz : Hid (from32B s = z)) (lz : z < 18446744073709551616) (ht : Hid (to32B y = t)) (hu : Hid (to16B x = u)) (_lu : u < 65535) (hv : Hid (to16B y = v)) (hg : Hid (to16B z = u)) (x1 : bits .xor .u32 (s : Int) (t : Int) = 2147483648) (x2 : bits .xor .u16 (u : Int) (v : Int) = 32768) (a1 : Hid (cI .even x = n)) (a2 : Hid (cOk .even x = true)) (b1 : Hid (cI .even y = m)) (b2 : Hid (cOk .even y = false))  :
    Calls Try.prog 8 #[.float .f64 x, .int .i64 most] w fun e w' => e = .returned (.bool true) ∧ ∃ n, w' = w.drewN n := by
  go_enter Try.func8, Try.ntmps8
  go_wp2_with fail
  refine (awake_any _).mono ?_
  rintro e w' ⟨rfl, k, rfl⟩
  go_wp2_with fail
  refine (round_at x n true _ hx a1.out a2.out).mono ?_
  rintro e w' ⟨rfl, k, rfl⟩
  go_wp2_with fail
  refine (round_at y m false _ hy b1.out b2.out).mono ?_
  rintro e w' ⟨rfl, k, rfl⟩
  go_wp2_with fail
  refine (clamp_at x most (-j) _ hx hm hi.out).mono ?_
  rintro e w' ⟨rfl, k, rfl⟩
  go_wp2_with fail
  refine (clamp_at y most j _ hy hm hj.out).mono ?_
  rintro e w' ⟨rfl, k, rfl⟩
  go_wp2_with fail
  refine (to16_at x u _ hx hu.out).mono ?_
  rintro e w' ⟨rfl, rfl⟩
  go_wp2_with fail
  refine (to32_all x s _ hx hs.out).mono ?_
  rintro e w' ⟨rfl, rfl⟩
  go_wp2_with fail
  refine (from32_at (s : Int) z _ (by omega) (by omega) (by rw [Int.toNat_natCast]; exact hz.out)).mono ?_
  rintro e w' ⟨rfl, k, rfl⟩
  go_wp2_with fail
  refine (to16_at z u _ lz hg.out).mono ?_
  rintro e w' ⟨rfl, rfl⟩
  go_wp2_with fail
  refine (to32_all x s _ hx hs.out).mono ?_
  rintro e w' ⟨rfl, rfl⟩
  go_wp2_with fail
  refine (to32_all y t _ hy ht.out).mono ?_
  rintro e w' ⟨rfl, rfl⟩
  go_wp2_with fail
  refine (to16_at y v _ hy hv.out).mono ?_
  rintro e w' ⟨rfl, rfl⟩
  go_wp2
  go_ret
  exact ⟨rfl, _, rfl⟩

set_option maxHeartbeats 2000000 in
theorem cTTq (x : Nat) (most : Int) (w : World) (hx : x < 18446744073709551616) (hm : most ≤ 9223372036854775807) (c : feq x x = true) (y : Nat) (en : Op.negFloat .f64 x = y) (hy : y < 18446744073709551616) (n m j : Int) (hi : Hid (clampB x most = -j)) (hj : Hid (clampB y most = j)) (j0 : -9223372036854775807 ≤ j) (j1 : j ≤ 9223372036854775807) (s t z u v : Nat) (hs : Hid (to32B x = s)) (ls : s < 4294967296) (hz : Hid (from32B s = z)) (lz : z < 18446744073709551616) (ht : Hid (to32B y = t)) (hu : Hid (to16B x = u)) (_lu : u < 65535) (hv : Hid (to16B y = v)) (hg : Hid (to16B z = u)) (x1 : bits .xor .u32 (s : Int) (t : Int) = 2147483648) (x2 : bits .xor .u16 (u : Int) (v : Int) = 32768) (a1 : Hid (cI .even x = n)) (a2 : Hid (cOk .even x = true)) (b1 : Hid (cI .even y = m)) (b2 : Hid (cOk .even y = true)) (m0 : -9223372036854775807 ≤ m) (m1 : m ≤ 9223372036854775807) (k1 : n = -m)  :
    Calls Try.prog 8 #[.float .f64 x, .int .i64 most] w fun e w' => e = .returned (.bool true) ∧ ∃ n, w' = w.drewN n := by
  go_enter Try.func8, Try.ntmps8
  go_wp2_with fail
  refine (awake_any _).mono ?_
  rintro e w' ⟨rfl, k, rfl⟩
  go_wp2_with fail
  refine (round_at x n true _ hx a1.out a2.out).mono ?_
  rintro e w' ⟨rfl, k, rfl⟩
  go_wp2_with fail
  refine (round_at y m true _ hy b1.out b2.out).mono ?_
  rintro e w' ⟨rfl, k, rfl⟩
  go_wp2_with fail
  refine (clamp_at x most (-j) _ hx hm hi.out).mono ?_
  rintro e w' ⟨rfl, k, rfl⟩
  go_wp2_with fail
  refine (clamp_at y most j _ hy hm hj.out).mono ?_
  rintro e w' ⟨rfl, k, rfl⟩
  go_wp2_with fail
  refine (to16_at x u _ hx hu.out).mono ?_
  rintro e w' ⟨rfl, rfl⟩
  go_wp2_with fail
  refine (to32_all x s _ hx hs.out).mono ?_
  rintro e w' ⟨rfl, rfl⟩
  go_wp2_with fail
  refine (from32_at (s : Int) z _ (by omega) (by omega) (by rw [Int.toNat_natCast]; exact hz.out)).mono ?_
  rintro e w' ⟨rfl, k, rfl⟩
  go_wp2_with fail
  refine (to16_at z u _ lz hg.out).mono ?_
  rintro e w' ⟨rfl, rfl⟩
  go_wp2_with fail
  refine (to32_all x s _ hx hs.out).mono ?_
  rintro e w' ⟨rfl, rfl⟩
  go_wp2_with fail
  refine (to32_all y t _ hy ht.out).mono ?_
  rintro e w' ⟨rfl, rfl⟩
  go_wp2_with fail
  refine (to16_at y v _ hy hv.out).mono ?_
  rintro e w' ⟨rfl, rfl⟩
  go_wp2
  go_ret
  exact ⟨rfl, _, rfl⟩

set_option maxHeartbeats 2000000 in
theorem cFu (x : Nat) (most : Int) (w : World) (hx : x < 18446744073709551616) (hm : most ≤ 9223372036854775807) (c : feq x x = true) (y : Nat) (en : Op.negFloat .f64 x = y) (hy : y < 18446744073709551616) (n m j : Int) (hi : Hid (clampB x most = -j)) (hj : Hid (clampB y most = j)) (j0 : -9223372036854775807 ≤ j) (j1 : j ≤ 9223372036854775807) (s t z u v g : Nat) (hs : Hid (to32B x = s)) (ls : s < 4294967296) (hz : Hid (from32B s = z)) (lz : z < 18446744073709551616) (ht : Hid (to32B y = t)) (hu : Hid (to16B x = u)) (lu : u < 65535) (hv : Hid (to16B y = v)) (hg : Hid (to16B z = g)) (lg : g < 65535) (x1 : bits .xor .u32 (s : Int) (t : Int) = 2147483648) (x2 : bits .xor .u16 (u : Int) (v : Int) = 32768) (q : Bool) (a1 : Hid (cI .even x = n)) (a2 : Hid (cOk .even x = false)) (b1 : Hid (cI .even y = m)) (b2 : Hid (cOk .even y = q)) (k0 : ¬ (u : Int) = g) (k : (u : Int) + 1 = g) :
    Calls Try.prog 8 #[.float .f64 x, .int .i64 most] w fun e w' => e = .returned (.bool true) ∧ ∃ n, w' = w.drewN n := by
  go_enter Try.func8, Try.ntmps8
  go_wp2_with fail
  refine (awake_any _).mono ?_
  rintro e w' ⟨rfl, k, rfl⟩
  go_wp2_with fail
  refine (round_at x n false _ hx a1.out a2.out).mono ?_
  rintro e w' ⟨rfl, k, rfl⟩
  go_wp2_with fail
  refine (round_at y m q _ hy b1.out b2.out).mono ?_
  rintro e w' ⟨rfl, k, rfl⟩
  go_wp2_with fail
  refine (clamp_at x most (-j) _ hx hm hi.out).mono ?_
  rintro e w' ⟨rfl, k, rfl⟩
  go_wp2_with fail
  refine (clamp_at y most j _ hy hm hj.out).mono ?_
  rintro e w' ⟨rfl, k, rfl⟩
  go_wp2_with fail
  refine (to16_at x u _ hx hu.out).mono ?_
  rintro e w' ⟨rfl, rfl⟩
  go_wp2_with fail
  refine (to32_all x s _ hx hs.out).mono ?_
  rintro e w' ⟨rfl, rfl⟩
  go_wp2_with fail
  refine (from32_at (s : Int) z _ (by omega) (by omega) (by rw [Int.toNat_natCast]; exact hz.out)).mono ?_
  rintro e w' ⟨rfl, k, rfl⟩
  go_wp2_with fail
  refine (to16_at z g _ lz hg.out).mono ?_
  rintro e w' ⟨rfl, rfl⟩
  go_wp2_with fail
  refine (to32_all x s _ hx hs.out).mono ?_
  rintro e w' ⟨rfl, rfl⟩
  go_wp2_with fail
  refine (to32_all y t _ hy ht.out).mono ?_
  rintro e w' ⟨rfl, rfl⟩
  go_wp2_with fail
  refine (to16_at y v _ hy hv.out).mono ?_
  rintro e w' ⟨rfl, rfl⟩
  go_wp2
  go_ret
  exact ⟨rfl, _, rfl⟩

set_option maxHeartbeats 2000000 in
theorem cTFu (x : Nat) (most : Int) (w : World) (hx : x < 18446744073709551616) (hm : most ≤ 9223372036854775807) (c : feq x x = true) (y : Nat) (en : Op.negFloat .f64 x = y) (hy : y < 18446744073709551616) (n m j : Int) (hi : Hid (clampB x most = -j)) (hj : Hid (clampB y most = j)) (j0 : -9223372036854775807 ≤ j) (j1 : j ≤ 9223372036854775807) (s t z u v g : Nat) (hs : Hid (to32B x = s)) (ls : s < 4294967296) (hz : Hid (from32B s = z)) (lz : z < 18446744073709551616) (ht : Hid (to32B y = t)) (hu : Hid (to16B x = u)) (lu : u < 65535) (hv : Hid (to16B y = v)) (hg : Hid (to16B z = g)) (lg : g < 65535) (x1 : bits .xor .u32 (s : Int) (t : Int) = 2147483648) (x2 : bits .xor .u16 (u : Int) (v : Int) = 32768) (a1 : Hid (cI .even x = n)) (a2 : Hid (cOk .even x = true)) (b1 : Hid (cI .even y = m)) (b2 : Hid (cOk .even y = false)) (k0 : ¬ (u : Int) = g) (k : (u : Int) + 1 = g) :
    Calls Try.prog 8 #[.float .f64 x, .int .i64 most] w fun e w' => e = .returned (.bool true) ∧ ∃ n, w' = w.drewN n := by
  go_enter Try.func8, Try.ntmps8
  go_wp2_with fail
  refine (awake_any _).mono ?_
  rintro e w' ⟨rfl, k, rfl⟩
  go_wp2_with fail
  refine (round_at x n true _ hx a1.out a2.out).mono ?_
  rintro e w' ⟨rfl, k, rfl⟩
  go_wp2_with fail
  refine (round_at y m false _ hy b1.out b2.out).mono ?_
  rintro e w' ⟨rfl, k, rfl⟩
  go_wp2_with fail
  refine (clamp_at x most (-j) _ hx hm hi.out).mono ?_
  rintro e w' ⟨rfl, k, rfl⟩
  go_wp2_with fail
  refine (clamp_at y most j _ hy hm hj.out).mono ?_
  rintro e w' ⟨rfl, k, rfl⟩
  go_wp2_with fail
  refine (to16_at x u _ hx hu.out).mono ?_
  rintro e w' ⟨rfl, rfl⟩
  go_wp2_with fail
  refine (to32_all x s _ hx hs.out).mono ?_
  rintro e w' ⟨rfl, rfl⟩
  go_wp2_with fail
  refine (from32_at (s : Int) z _ (by omega) (by omega) (by rw [Int.toNat_natCast]; exact hz.out)).mono ?_
  rintro e w' ⟨rfl, k, rfl⟩
  go_wp2_with fail
  refine (to16_at z g _ lz hg.out).mono ?_
  rintro e w' ⟨rfl, rfl⟩
  go_wp2_with fail
  refine (to32_all x s _ hx hs.out).mono ?_
  rintro e w' ⟨rfl, rfl⟩
  go_wp2_with fail
  refine (to32_all y t _ hy ht.out).mono ?_
  rintro e w' ⟨rfl, rfl⟩
  go_wp2_with fail
  refine (to16_at y v _ hy hv.out).mono ?_
  rintro e w' ⟨rfl, rfl⟩
  go_wp2
  go_ret
  exact ⟨rfl, _, rfl⟩

set_option maxHeartbeats 2000000 in
theorem cTTu (x : Nat) (most : Int) (w : World) (hx : x < 18446744073709551616) (hm : most ≤ 9223372036854775807) (c : feq x x = true) (y : Nat) (en : Op.negFloat .f64 x = y) (hy : y < 18446744073709551616) (n m j : Int) (hi : Hid (clampB x most = -j)) (hj : Hid (clampB y most = j)) (j0 : -9223372036854775807 ≤ j) (j1 : j ≤ 9223372036854775807) (s t z u v g : Nat) (hs : Hid (to32B x = s)) (ls : s < 4294967296) (hz : Hid (from32B s = z)) (lz : z < 18446744073709551616) (ht : Hid (to32B y = t)) (hu : Hid (to16B x = u)) (lu : u < 65535) (hv : Hid (to16B y = v)) (hg : Hid (to16B z = g)) (lg : g < 65535) (x1 : bits .xor .u32 (s : Int) (t : Int) = 2147483648) (x2 : bits .xor .u16 (u : Int) (v : Int) = 32768) (a1 : Hid (cI .even x = n)) (a2 : Hid (cOk .even x = true)) (b1 : Hid (cI .even y = m)) (b2 : Hid (cOk .even y = true)) (m0 : -9223372036854775807 ≤ m) (m1 : m ≤ 9223372036854775807) (k1 : n = -m) (k0 : ¬ (u : Int) = g) (k : (u : Int) + 1 = g) :
    Calls Try.prog 8 #[.float .f64 x, .int .i64 most] w fun e w' => e = .returned (.bool true) ∧ ∃ n, w' = w.drewN n := by
  go_enter Try.func8, Try.ntmps8
  go_wp2_with fail
  refine (awake_any _).mono ?_
  rintro e w' ⟨rfl, k, rfl⟩
  go_wp2_with fail
  refine (round_at x n true _ hx a1.out a2.out).mono ?_
  rintro e w' ⟨rfl, k, rfl⟩
  go_wp2_with fail
  refine (round_at y m true _ hy b1.out b2.out).mono ?_
  rintro e w' ⟨rfl, k, rfl⟩
  go_wp2_with fail
  refine (clamp_at x most (-j) _ hx hm hi.out).mono ?_
  rintro e w' ⟨rfl, k, rfl⟩
  go_wp2_with fail
  refine (clamp_at y most j _ hy hm hj.out).mono ?_
  rintro e w' ⟨rfl, k, rfl⟩
  go_wp2_with fail
  refine (to16_at x u _ hx hu.out).mono ?_
  rintro e w' ⟨rfl, rfl⟩
  go_wp2_with fail
  refine (to32_all x s _ hx hs.out).mono ?_
  rintro e w' ⟨rfl, rfl⟩
  go_wp2_with fail
  refine (from32_at (s : Int) z _ (by omega) (by omega) (by rw [Int.toNat_natCast]; exact hz.out)).mono ?_
  rintro e w' ⟨rfl, k, rfl⟩
  go_wp2_with fail
  refine (to16_at z g _ lz hg.out).mono ?_
  rintro e w' ⟨rfl, rfl⟩
  go_wp2_with fail
  refine (to32_all x s _ hx hs.out).mono ?_
  rintro e w' ⟨rfl, rfl⟩
  go_wp2_with fail
  refine (to32_all y t _ hy ht.out).mono ?_
  rintro e w' ⟨rfl, rfl⟩
  go_wp2_with fail
  refine (to16_at y v _ hy hv.out).mono ?_
  rintro e w' ⟨rfl, rfl⟩
  go_wp2
  go_ret
  exact ⟨rfl, _, rfl⟩

set_option maxHeartbeats 2000000 in
theorem cFd (x : Nat) (most : Int) (w : World) (hx : x < 18446744073709551616) (hm : most ≤ 9223372036854775807) (c : feq x x = true) (y : Nat) (en : Op.negFloat .f64 x = y) (hy : y < 18446744073709551616) (n m j : Int) (hi : Hid (clampB x most = -j)) (hj : Hid (clampB y most = j)) (j0 : -9223372036854775807 ≤ j) (j1 : j ≤ 9223372036854775807) (s t z u v g : Nat) (hs : Hid (to32B x = s)) (ls : s < 4294967296) (hz : Hid (from32B s = z)) (lz : z < 18446744073709551616) (ht : Hid (to32B y = t)) (hu : Hid (to16B x = u)) (lu : u < 65535) (hv : Hid (to16B y = v)) (hg : Hid (to16B z = g)) (lg : g < 65535) (x1 : bits .xor .u32 (s : Int) (t : Int) = 2147483648) (x2 : bits .xor .u16 (u : Int) (v : Int) = 32768) (q : Bool) (a1 : Hid (cI .even x = n)) (a2 : Hid (cOk .even x = false)) (b1 : Hid (cI .even y = m)) (b2 : Hid (cOk .even y = q)) (k0 : ¬ (u : Int) = g) (k2 : ¬ (u : Int) + 1 = g) (k : (g : Int) + 1 = u) :
    Calls Try.prog 8 #[.float .f64 x, .int .i64 most] w fun e w' => e = .returned (.bool true) ∧ ∃ n, w' = w.drewN n := by
  go_enter Try.func8, Try.ntmps8
  go_wp2_with fail
  refine (awake_any _).mono ?_
  rintro e w' ⟨rfl, k, rfl⟩
  go_wp2_with fail
  refine (round_at x n false _ hx a1.out a2.out).mono ?_
  rintro e w' ⟨rfl, k, rfl⟩
  go_wp2_with fail
  refine (round_at y m q _ hy b1.out b2.out).mono ?_
  rintro e w' ⟨rfl, k, rfl⟩
  go_wp2_with fail
  refine (clamp_at x most (-j) _ hx hm hi.out).mono ?_
  rintro e w' ⟨rfl, k, rfl⟩
  go_wp2_with fail
  refine (clamp_at y most j _ hy hm hj.out).mono ?_
  rintro e w' ⟨rfl, k, rfl⟩
  go_wp2_with fail
  refine (to16_at x u _ hx hu.out).mono ?_
  rintro e w' ⟨rfl, rfl⟩
  go_wp2_with fail
  refine (to32_all x s _ hx hs.out).mono ?_
  rintro e w' ⟨rfl, rfl⟩
  go_wp2_with fail
  refine (from32_at (s : Int) z _ (by omega) (by omega) (by rw [Int.toNat_natCast]; exact hz.out)).mono ?_
  rintro e w' ⟨rfl, k, rfl⟩
  go_wp2_with fail
  refine (to16_at z g _ lz hg.out).mono ?_
  rintro e w' ⟨rfl, rfl⟩
  go_wp2_with fail
  refine (to32_all x s _ hx hs.out).mono ?_
  rintro e w' ⟨rfl, rfl⟩
  go_wp2_with fail
  refine (to32_all y t _ hy ht.out).mono ?_
  rintro e w' ⟨rfl, rfl⟩
  go_wp2_with fail
  refine (to16_at y v _ hy hv.out).mono ?_
  rintro e w' ⟨rfl, rfl⟩
  go_wp2
  go_ret
  exact ⟨rfl, _, rfl⟩

set_option maxHeartbeats 2000000 in
theorem cTFd (x : Nat) (most : Int) (w : World) (hx : x < 18446744073709551616) (hm : most ≤ 9223372036854775807) (c : feq x x = true) (y : Nat) (en : Op.negFloat .f64 x = y) (hy : y < 18446744073709551616) (n m j : Int) (hi : Hid (clampB x most = -j)) (hj : Hid (clampB y most = j)) (j0 : -9223372036854775807 ≤ j) (j1 : j ≤ 9223372036854775807) (s t z u v g : Nat) (hs : Hid (to32B x = s)) (ls : s < 4294967296) (hz : Hid (from32B s = z)) (lz : z < 18446744073709551616) (ht : Hid (to32B y = t)) (hu : Hid (to16B x = u)) (lu : u < 65535) (hv : Hid (to16B y = v)) (hg : Hid (to16B z = g)) (lg : g < 65535) (x1 : bits .xor .u32 (s : Int) (t : Int) = 2147483648) (x2 : bits .xor .u16 (u : Int) (v : Int) = 32768) (a1 : Hid (cI .even x = n)) (a2 : Hid (cOk .even x = true)) (b1 : Hid (cI .even y = m)) (b2 : Hid (cOk .even y = false)) (k0 : ¬ (u : Int) = g) (k2 : ¬ (u : Int) + 1 = g) (k : (g : Int) + 1 = u) :
    Calls Try.prog 8 #[.float .f64 x, .int .i64 most] w fun e w' => e = .returned (.bool true) ∧ ∃ n, w' = w.drewN n := by
  go_enter Try.func8, Try.ntmps8
  go_wp2_with fail
  refine (awake_any _).mono ?_
  rintro e w' ⟨rfl, k, rfl⟩
  go_wp2_with fail
  refine (round_at x n true _ hx a1.out a2.out).mono ?_
  rintro e w' ⟨rfl, k, rfl⟩
  go_wp2_with fail
  refine (round_at y m false _ hy b1.out b2.out).mono ?_
  rintro e w' ⟨rfl, k, rfl⟩
  go_wp2_with fail
  refine (clamp_at x most (-j) _ hx hm hi.out).mono ?_
  rintro e w' ⟨rfl, k, rfl⟩
  go_wp2_with fail
  refine (clamp_at y most j _ hy hm hj.out).mono ?_
  rintro e w' ⟨rfl, k, rfl⟩
  go_wp2_with fail
  refine (to16_at x u _ hx hu.out).mono ?_
  rintro e w' ⟨rfl, rfl⟩
  go_wp2_with fail
  refine (to32_all x s _ hx hs.out).mono ?_
  rintro e w' ⟨rfl, rfl⟩
  go_wp2_with fail
  refine (from32_at (s : Int) z _ (by omega) (by omega) (by rw [Int.toNat_natCast]; exact hz.out)).mono ?_
  rintro e w' ⟨rfl, k, rfl⟩
  go_wp2_with fail
  refine (to16_at z g _ lz hg.out).mono ?_
  rintro e w' ⟨rfl, rfl⟩
  go_wp2_with fail
  refine (to32_all x s _ hx hs.out).mono ?_
  rintro e w' ⟨rfl, rfl⟩
  go_wp2_with fail
  refine (to32_all y t _ hy ht.out).mono ?_
  rintro e w' ⟨rfl, rfl⟩
  go_wp2_with fail
  refine (to16_at y v _ hy hv.out).mono ?_
  rintro e w' ⟨rfl, rfl⟩
  go_wp2
  go_ret
  exact ⟨rfl, _, rfl⟩

set_option maxHeartbeats 2000000 in
theorem cTTd (x : Nat) (most : Int) (w : World) (hx : x < 18446744073709551616) (hm : most ≤ 9223372036854775807) (c : feq x x = true) (y : Nat) (en : Op.negFloat .f64 x = y) (hy : y < 18446744073709551616) (n m j : Int) (hi : Hid (clampB x most = -j)) (hj : Hid (clampB y most = j)) (j0 : -9223372036854775807 ≤ j) (j1 : j ≤ 9223372036854775807) (s t z u v g : Nat) (hs : Hid (to32B x = s)) (ls : s < 4294967296) (hz : Hid (from32B s = z)) (lz : z < 18446744073709551616) (ht : Hid (to32B y = t)) (hu : Hid (to16B x = u)) (lu : u < 65535) (hv : Hid (to16B y = v)) (hg : Hid (to16B z = g)) (lg : g < 65535) (x1 : bits .xor .u32 (s : Int) (t : Int) = 2147483648) (x2 : bits .xor .u16 (u : Int) (v : Int) = 32768) (a1 : Hid (cI .even x = n)) (a2 : Hid (cOk .even x = true)) (b1 : Hid (cI .even y = m)) (b2 : Hid (cOk .even y = true)) (m0 : -9223372036854775807 ≤ m) (m1 : m ≤ 9223372036854775807) (k1 : n = -m) (k0 : ¬ (u : Int) = g) (k2 : ¬ (u : Int) + 1 = g) (k : (g : Int) + 1 = u) :
    Calls Try.prog 8 #[.float .f64 x, .int .i64 most] w fun e w' => e = .returned (.bool true) ∧ ∃ n, w' = w.drewN n := by
  go_enter Try.func8, Try.ntmps8
  go_wp2_with fail
  refine (awake_any _).mono ?_
  rintro e w' ⟨rfl, k, rfl⟩
  go_wp2_with fail
  refine (round_at x n true _ hx a1.out a2.out).mono ?_
  rintro e w' ⟨rfl, k, rfl⟩
  go_wp2_with fail
  refine (round_at y m true _ hy b1.out b2.out).mono ?_
  rintro e w' ⟨rfl, k, rfl⟩
  go_wp2_with fail
  refine (clamp_at x most (-j) _ hx hm hi.out).mono ?_
  rintro e w' ⟨rfl, k, rfl⟩
  go_wp2_with fail
  refine (clamp_at y most j _ hy hm hj.out).mono ?_
  rintro e w' ⟨rfl, k, rfl⟩
  go_wp2_with fail
  refine (to16_at x u _ hx hu.out).mono ?_
  rintro e w' ⟨rfl, rfl⟩
  go_wp2_with fail
  refine (to32_all x s _ hx hs.out).mono ?_
  rintro e w' ⟨rfl, rfl⟩
  go_wp2_with fail
  refine (from32_at (s : Int) z _ (by omega) (by omega) (by rw [Int.toNat_natCast]; exact hz.out)).mono ?_
  rintro e w' ⟨rfl, k, rfl⟩
  go_wp2_with fail
  refine (to16_at z g _ lz hg.out).mono ?_
  rintro e w' ⟨rfl, rfl⟩
  go_wp2_with fail
  refine (to32_all x s _ hx hs.out).mono ?_
  rintro e w' ⟨rfl, rfl⟩
  go_wp2_with fail
  refine (to32_all y t _ hy ht.out).mono ?_
  rintro e w' ⟨rfl, rfl⟩
  go_wp2_with fail
  refine (to16_at y v _ hy hv.out).mono ?_
  rintro e w' ⟨rfl, rfl⟩
  go_wp2
  go_ret
  exact ⟨rfl, _, rfl⟩

theorem walk (a0 : Nat) (a1 : Int) (w0 : (Lit.float .f64 a0).wf = true) (w1 : (Lit.int .i64 a1).wf = true) (w : World) :
    Calls Try.prog 8 #[.float .f64 a0, .int .i64 a1] w fun e w' => e = .returned (.bool true) ∧ Grown w w' := by
  have hx := lit_lt w0
  have hm := w1
  simp only [Lit.wf, Bool.and_eq_true, decide_eq_true_eq] at hm
  have q2 : IntKind.i64.max = 9223372036854775807 := by decide
  rw [q2] at hm
  have key : Calls Try.prog 8 #[.float .f64 a0, .int .i64 a1] w fun e w' => e = .returned (.bool true) ∧ ∃ n, w' = w.drewN n := by
    have f := feq_self a0 hx
    cases n : isN a0
    · rw [n] at f
      have hy := negB_lt hx
      have en := negFloat_eq a0 hx
      have ny : isN (negB a0) = false := by rw [isN_neg]; exact n
      have hcl := clampB_neg a0 a1 hx n hm.2
      have hb : -9223372036854775807 ≤ clampB (negB a0) a1 ∧ clampB (negB a0) a1 ≤ 9223372036854775807 := by
        have h0 := clampM_nonneg a1
        have h1 : clampM a1 ≤ 9223372036854775807 := by unfold clampM; split <;> omega
        rw [clampB_num _ a1 hy ny]
        repeat' split
        all_goals omega
      have l1 := t32_le a0
      have l2 := t16_le a0
      have l3 := t16_le (from32B (to32B a0))
      have e32 : t32 (negB a0) = t32 a0 := t32_mg _ _ (mg_negB a0)
      have e16 : t16 (negB a0) = t16 a0 := t16_mg _ _ (mg_negB a0)
      have ow := word_parts (ng a0) _ (E32_le _ (t32_le a0))
      rw [← over32 a0 n] at ow
      have x1 : bits .xor .u32 ((to32B a0 : Nat) : Int) ((to32B (negB a0) : Nat) : Int) = 2147483648 := by
        unfold to32B
        rw [n, ny, ng_negB a0 hx, e32]
        have := xor32 (t32 a0) (by omega)
        cases ng a0 <;> simp only [Bool.false_eq_true, if_false, if_true, Bool.not_false, Bool.not_true]
        · exact this.1
        · exact this.2
      have x2 : bits .xor .u16 ((to16B a0 : Nat) : Int) ((to16B (negB a0) : Nat) : Int) = 32768 := by
        unfold to16B
        rw [n, ny, ng_negB a0 hx, e16]
        have := xor16 (t16 a0) (by omega)
        cases ng a0 <;> simp only [Bool.false_eq_true, if_false, if_true, Bool.not_false, Bool.not_true]
        · exact this.1
        · exact this.2
      have lu : to16B a0 < 65535 := by
        unfold to16B; rw [n, if_neg (by decide)]; cases ng a0 <;> simp <;> omega
      have hg : to16B (from32B (to32B a0)) = if ng a0 then 32768 + t16 (from32B (to32B a0)) else t16 (from32B (to32B a0)) := by
        unfold to16B; rw [ow.2.2.1, ow.2.1, if_neg (by decide)]
      have hu : to16B a0 = if ng a0 then 32768 + t16 a0 else t16 a0 := by unfold to16B; rw [n, if_neg (by decide)]
      have tw := twice a0 n
      have lg : to16B (from32B (to32B a0)) < 65535 := by
        rw [hg]; cases ng a0 <;> simp <;> omega
      have k3 : to16B (from32B (to32B a0)) = to16B a0 ∨ to16B (from32B (to32B a0)) = to16B a0 + 1 ∨ to16B a0 = to16B (from32B (to32B a0)) + 1 := by
        rw [hg, hu]
        generalize t16 (from32B (to32B a0)) = p at *
        generalize t16 a0 = r at *
        cases ng a0 <;> simp <;> omega
      cases p : cOk .even a0
      · rcases k3 with k | k | k
        · exact cFq a0 a1 w hx hm.2 f _ en hy _ _ _ hcl rfl hb.1 hb.2 _ _ _ _ _ rfl (to32B_lt _) rfl (from32B_lt _) rfl rfl lu rfl k x1 x2 _ rfl p rfl rfl 
        · exact cFu a0 a1 w hx hm.2 f _ en hy _ _ _ hcl rfl hb.1 hb.2 _ _ _ _ _ _ rfl (to32B_lt _) rfl (from32B_lt _) rfl rfl lu rfl rfl lg x1 x2 _ rfl p rfl rfl (by omega) (by omega)
        · exact cFd a0 a1 w hx hm.2 f _ en hy _ _ _ hcl rfl hb.1 hb.2 _ _ _ _ _ _ rfl (to32B_lt _) rfl (from32B_lt _) rfl rfl lu rfl rfl lg x1 x2 _ rfl p rfl rfl (by omega) (by omega) (by omega)
      · cases q : cOk .even (negB a0)
        · rcases k3 with k | k | k
          · exact cTFq a0 a1 w hx hm.2 f _ en hy _ _ _ hcl rfl hb.1 hb.2 _ _ _ _ _ rfl (to32B_lt _) rfl (from32B_lt _) rfl rfl lu rfl k x1 x2 rfl p rfl q 
          · exact cTFu a0 a1 w hx hm.2 f _ en hy _ _ _ hcl rfl hb.1 hb.2 _ _ _ _ _ _ rfl (to32B_lt _) rfl (from32B_lt _) rfl rfl lu rfl rfl lg x1 x2 rfl p rfl q (by omega) (by omega)
          · exact cTFd a0 a1 w hx hm.2 f _ en hy _ _ _ hcl rfl hb.1 hb.2 _ _ _ _ _ _ rfl (to32B_lt _) rfl (from32B_lt _) rfl rfl lu rfl rfl lg x1 x2 rfl p rfl q (by omega) (by omega) (by omega)
        · have hc := cq_even_neg a0 hx
          have i1 := cI_eq .even a0 p
          have i2 := cI_eq .even (negB a0) q
          have p' := p
          have q' := q
          unfold cOk at p' q'
          simp only [Bool.and_eq_true, decide_eq_true_eq] at p' q'
          have k1 : cq .even a0 = -cq .even (negB a0) := by omega
          rcases k3 with k | k | k
          · exact cTTq a0 a1 w hx hm.2 f _ en hy _ _ _ hcl rfl hb.1 hb.2 _ _ _ _ _ rfl (to32B_lt _) rfl (from32B_lt _) rfl rfl lu rfl k x1 x2 i1 p i2 q (by omega) (by omega) k1 
          · exact cTTu a0 a1 w hx hm.2 f _ en hy _ _ _ hcl rfl hb.1 hb.2 _ _ _ _ _ _ rfl (to32B_lt _) rfl (from32B_lt _) rfl rfl lu rfl rfl lg x1 x2 i1 p i2 q (by omega) (by omega) k1 (by omega) (by omega)
          · exact cTTd a0 a1 w hx hm.2 f _ en hy _ _ _ hcl rfl hb.1 hb.2 _ _ _ _ _ _ rfl (to32B_lt _) rfl (from32B_lt _) rfl rfl lu rfl rfl lg x1 x2 i1 p i2 q (by omega) (by omega) k1 (by omega) (by omega) (by omega)
    · rw [n] at f
      exact nan a0 a1 w f
  exact key.mono fun e w' ⟨h1, n, h2⟩ => ⟨h1, by rw [h2]; exact Grown.refl _⟩

set_option maxRecDepth 100000 in
theorem lifted (os : Os) (started : os.Started) (H : Type) (enc : TypeId × Value → H) :
    ReturnsInHanded {} Try.checked os 8 .any (Rows.convOppositeSpec.pre6 enc Try.prog Try.f8 Rows.convOppositeRow.domain false) (Rows.convOppositeSpec.post enc Try.prog Try.f8 false true false false) := by
  refine returnsInHanded_of_change (C := Try.checked) own started (by kernel_rfl) Try.func8
    (ChangeSpec.witness6 (enc := enc) (C := Try.checked) false ⟨#[], #[.float .f64 0, .int .i64 0], []⟩ 8 (by kernel_rfl) (by kernel_rfl) (by kernel_rfl) (by kernel_rfl)) ?_
  intro W base args ds gs before hval0 hW hcnd _
  have hval : ∀ (j : Nat) t v, Try.f8.params[j]? = some t → args[j]? = some v → Value.okWide Try.prog W .any base t v := hval0
  have hW' := hW
  obtain ⟨p, q, hA0, hV, rfl, hfz, hnd⟩ := hW
  have hA : DataW.TrodAll enc Try.prog W 0 (fun _ => true) true Try.f8.params.toList args.toList ds p := hA0
  rw [Try.params8] at hA hval
  obtain ⟨v0, vs0, d0, ds0, p0, q0, hargs, rfl, rfl, h0, r0⟩ := trodAll_cons hA
  obtain ⟨v1, vs1, d1, ds1, p1, q1, rfl, rfl, rfl, h1, r1⟩ := trodAll_cons r0
  obtain ⟨rfl, rfl, rfl⟩ := trodAll_nil r1
  obtain rfl : args = #[v0, v1] := by cases args; simp_all
  obtain ⟨rfl, rfl⟩ := trodVars_none hV
  obtain ⟨a0, rfl, rfl, rfl, w0⟩ := open_float Try.underlying24 (hval 0 24 v0 rfl rfl) h0
  obtain ⟨a1, rfl, rfl, rfl, w1⟩ := open_int Try.underlying2 (hval 1 2 v1 rfl rfl) h1
  clear hA0 hval0
  simp only [List.append_nil] at hW'
  refine (walk a0 a1 w0 w1 W).mono fun e W' ⟨he, hg⟩ => ?_
  subst he
  exact ⟨_, rfl, post_of_same (pa := []) (pv := []) hW' (fun _ _ _ => (trodAll_cons_mk (shut_bool Try.underlying4 _) trodAll_mk0)) (fun sp _ => (trodAll_cons_mk (shut_float Try.underlying24 w0) (trodAll_cons_mk (shut_int Try.underlying2 w1) trodAll_mk0))) (fun _ _ => rfl) rfl
    (hg.frame _) hg.2.1 (ok_one (by kernel_rfl) rfl (okWide_bool_mk Try.underlying4 _))⟩

theorem over : Rows.convOppositeRow.holds Try.pinned (OpenSpec.ofChange Rows.convOppositeSpec) :=
  OpenClaim.holds_of_wide 8 Try.f8 rfl rfl rfl rfl rfl rfl rfl ⟨rfl, rfl, rfl, rfl, rfl⟩ rfl rfl rfl rfl rfl (by kernel_rfl) Try.func8 (by kernel_rfl)
    (of_decide_eq_true (by kernel_rfl)) (by unfold Func.isWrapper; first | (rw [if_pos (by decide +kernel)]; kernel_rfl) | (rw [if_neg (by decide +kernel)]; exact ⟨rfl, rfl⟩))
    (fun os started H enc _ => lifted os started H enc)

end Go.Proofs.Ytpncpbpdbdlamaa.convOppositeDone
namespace Go.Proofs.Ytpncpbpdbdlamaa
theorem convOpposite_holds : Rows.ConvOppositeSaid := convOppositeDone.over
#print axioms convOpposite_holds
end Go.Proofs.Ytpncpbpdbdlamaa
