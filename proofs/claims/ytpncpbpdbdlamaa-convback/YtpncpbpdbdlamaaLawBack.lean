/-
  For all bits of 32 and of 16 and every whole number of 64 bits, the call of the statement on there and back returns true and leaves its arguments as they were.
-/
import Derived.Test.YtpncpbpdbdlamaaRows
import Derived.Test.YtpncpbpdbdlamaaWk
import Derived.ProofKit
import Derived.OpenShut
import Derived.WalkLawsBesides
namespace Go.Proofs.Ytpncpbpdbdlamaa.convBackDone
open Go.ChangeShapes Go.WideShapes Go.ChangeAt Go.RowKit

theorem own : ownKnob Try.prog.godebug = none := by kernel_rfl

open Tf
attribute [local go_sem] run_bits run_from raw_feq raw_fne raw_flt raw_fgt run_neg
set_option maxHeartbeats 400000 in
theorem rawBits_any (x : Nat) (w : World) :
    Calls Try.prog 27 #[.float .f64 x] w fun e w' => e = .returned (.int .u64 (x : Nat)) ∧ w' = w := by
  go_enter Try.func27, Try.ntmps27
  go_wp2
  go_ret
  exact ⟨rfl, rfl⟩

/-- whole numbers of up to 2 ^ 53 come back -/
theorem whole_back (way : Ieee.Toward) (i : Int) (h0 : -9007199254740992 ≤ i) (h1 : i ≤ 9007199254740992) : rn false (i * one) < 18446744073709551616 ∧ cI way (rn false (i * one)) = i ∧ cOk way (rn false (i * one)) = true := by
  have hl := rn_lt false (i * one)
  obtain ⟨r, er, lr⟩ := rep_one i.natAbs (by omega)
  have hs : mg (rn false (i * one)) = r ∧ (i < 0 → ng (rn false (i * one)) = true) ∧ (0 ≤ i → ng (rn false (i * one)) = false) := by
    rcases Int.lt_trichotomy i 0 with c | c | c
    · have e : i * (one : Int) = -(mv r : Int) := by
        rw [er]
        have : (i.natAbs : Int) = -i := by omega
        rw [Int.natCast_mul, this, Int.neg_mul, Int.neg_neg]
      have r0 : 0 < r := by
        have h2 : mv 0 < mv r := by
          rw [mv_zero, er]; exact Nat.mul_pos (by omega) one_pos
        exact mv_lt.1 h2
      rw [e, rn_neg false r r0 (by omega)]
      refine ⟨?_, fun _ => ng_of_ge (by omega), fun h => by omega⟩
      rw [mg_of_ge (by omega) (by omega)]; omega
    · subst c
      have e : (0 : Int) * (one : Int) = 0 := by simp
      have r0 : r = 0 := by
        have : mv r = mv 0 := by rw [er, mv_zero]; simp
        exact mv_inj.1 this
      rw [e, rn_zero, r0]
      exact ⟨by decide, fun h => by omega, fun _ => by decide⟩
    · have e : i * (one : Int) = (mv r : Int) := by
        rw [er]
        have : (i.natAbs : Int) = i := by omega
        rw [Int.natCast_mul, this]
      have r0 : 0 < r := by
        have h2 : mv 0 < mv r := by
          rw [mv_zero, er]; exact Nat.mul_pos (by omega) one_pos
        exact mv_lt.1 h2
      rw [e, rn_pos false r r0 (by omega)]
      refine ⟨mg_of_lt (by omega), fun h => by omega, fun _ => ng_of_lt (by omega)⟩
  generalize rn false (i * one) = y at *
  obtain ⟨h2, h3, h4⟩ := hs
  have hcq : cq way y = i := by
    unfold cq
    rw [h2, er, cutq_mul _ _ _ _ one_pos]
    by_cases c : i < 0
    · rw [h3 c, if_pos rfl]; omega
    · rw [h4 (by omega), if_neg (by decide)]; omega
  have hok : cOk way y = true := by
    unfold cOk fin
    rw [hcq, h2, decide_eq_true (show r < 9218868437227405312 by omega), decide_eq_true (show -9223372036854775808 ≤ i by omega), decide_eq_true (show i < 9223372036854775808 by omega)]; rfl
  exact ⟨hl, by unfold cI; rw [hok, if_pos rfl, hcq], hok⟩

set_option maxHeartbeats 2000000 in
theorem cnnlo (b h : Nat) (i : Int) (w : World) (lb : b < 4294967296) (lh : h < 65536) (x : Nat) (lx : x < 18446744073709551616) (bm : (b : Int) % 2147483648 ≤ 2139095040) (bx : Hid (from32B b = x)) (bk : Hid (ok32 x)) (bt : Hid (to32B x = b)) (y : Nat) (ly : y < 18446744073709551616) (hm : (h : Int) % 32768 ≤ 31744) (hx : Hid (from16B h = y)) (ht : Hid (to16B y = h)) (ci : i < -9007199254740992) :
    Calls Try.prog 4 #[.int .u32 (b : Nat), .int .u16 (h : Nat), .int .i64 i] w fun e w' => e = .returned (.bool true) ∧ ∃ n, w' = w.drewN n := by
  go_enter Try.func4, Try.ntmps4
  go_wp2_with fail
  refine (awake_any _).mono ?_
  rintro e w' ⟨rfl, k, rfl⟩
  go_wp2_with fail
  refine (from32_at (b : Int) x _ (by omega) (by omega) (by rw [Int.toNat_natCast]; exact bx.out)).mono ?_
  rintro e w' ⟨rfl, k, rfl⟩
  go_wp2_with fail
  refine (from16_at (h : Int) y _ (by omega) (by omega) (by rw [Int.toNat_natCast]; exact hx.out)).mono ?_
  rintro e w' ⟨rfl, rfl⟩
  go_wp2_with fail
  refine (to32_at x b _ lx bk.out bt.out).mono ?_
  rintro e w' ⟨rfl, rfl⟩
  go_wp2_with fail
  refine (to16_at y h _ ly ht.out).mono ?_
  rintro e w' ⟨rfl, rfl⟩
  go_wp2
  go_ret
  exact ⟨rfl, _, rfl⟩

set_option maxHeartbeats 2000000 in
theorem cnnhi (b h : Nat) (i : Int) (w : World) (lb : b < 4294967296) (lh : h < 65536) (x : Nat) (lx : x < 18446744073709551616) (bm : (b : Int) % 2147483648 ≤ 2139095040) (bx : Hid (from32B b = x)) (bk : Hid (ok32 x)) (bt : Hid (to32B x = b)) (y : Nat) (ly : y < 18446744073709551616) (hm : (h : Int) % 32768 ≤ 31744) (hx : Hid (from16B h = y)) (ht : Hid (to16B y = h)) (ci : 9007199254740992 < i) :
    Calls Try.prog 4 #[.int .u32 (b : Nat), .int .u16 (h : Nat), .int .i64 i] w fun e w' => e = .returned (.bool true) ∧ ∃ n, w' = w.drewN n := by
  go_enter Try.func4, Try.ntmps4
  go_wp2_with fail
  refine (awake_any _).mono ?_
  rintro e w' ⟨rfl, k, rfl⟩
  go_wp2_with fail
  refine (from32_at (b : Int) x _ (by omega) (by omega) (by rw [Int.toNat_natCast]; exact bx.out)).mono ?_
  rintro e w' ⟨rfl, k, rfl⟩
  go_wp2_with fail
  refine (from16_at (h : Int) y _ (by omega) (by omega) (by rw [Int.toNat_natCast]; exact hx.out)).mono ?_
  rintro e w' ⟨rfl, rfl⟩
  go_wp2_with fail
  refine (to32_at x b _ lx bk.out bt.out).mono ?_
  rintro e w' ⟨rfl, rfl⟩
  go_wp2_with fail
  refine (to16_at y h _ ly ht.out).mono ?_
  rintro e w' ⟨rfl, rfl⟩
  go_wp2
  go_ret
  exact ⟨rfl, _, rfl⟩

set_option maxHeartbeats 2000000 in
theorem cnnin (b h : Nat) (i : Int) (w : World) (lb : b < 4294967296) (lh : h < 65536) (x : Nat) (lx : x < 18446744073709551616) (bm : (b : Int) % 2147483648 ≤ 2139095040) (bx : Hid (from32B b = x)) (bk : Hid (ok32 x)) (bt : Hid (to32B x = b)) (y : Nat) (ly : y < 18446744073709551616) (hm : (h : Int) % 32768 ≤ 31744) (hx : Hid (from16B h = y)) (ht : Hid (to16B y = h)) (ci : ¬ i < -9007199254740992) (ci2 : ¬ 9007199254740992 < i) (z : Nat) (hz : z < 18446744073709551616) (z1 : Hid (rn false (i * one) = z)) (z2 : Hid (cI .even z = i)) (z3 : Hid (cOk .even z = true)) (z4 : Hid (cI .down z = i)) (z5 : Hid (cOk .down z = true)) :
    Calls Try.prog 4 #[.int .u32 (b : Nat), .int .u16 (h : Nat), .int .i64 i] w fun e w' => e = .returned (.bool true) ∧ ∃ n, w' = w.drewN n := by
  go_enter Try.func4, Try.ntmps4
  go_wp2_with fail
  refine (awake_any _).mono ?_
  rintro e w' ⟨rfl, k, rfl⟩
  go_wp2_with fail
  refine (from32_at (b : Int) x _ (by omega) (by omega) (by rw [Int.toNat_natCast]; exact bx.out)).mono ?_
  rintro e w' ⟨rfl, k, rfl⟩
  go_wp2_with fail
  refine (from16_at (h : Int) y _ (by omega) (by omega) (by rw [Int.toNat_natCast]; exact hx.out)).mono ?_
  rintro e w' ⟨rfl, rfl⟩
  go_wp2_with fail
  refine (to32_at x b _ lx bk.out bt.out).mono ?_
  rintro e w' ⟨rfl, rfl⟩
  go_wp2_with fail
  refine (to16_at y h _ ly ht.out).mono ?_
  rintro e w' ⟨rfl, rfl⟩
  go_wp2_with fail
  refine (fromInt_at i z _ z1.out).mono ?_
  rintro e w' ⟨rfl, rfl⟩
  go_wp2_with fail
  refine (round_at z i true _ hz z2.out z3.out).mono ?_
  rintro e w' ⟨rfl, k, rfl⟩
  go_wp2_with fail
  refine (fromInt_at i z _ z1.out).mono ?_
  rintro e w' ⟨rfl, rfl⟩
  go_wp2_with fail
  refine (floor_at z i true _ hz z4.out z5.out).mono ?_
  rintro e w' ⟨rfl, k, rfl⟩
  go_wp2
  go_ret
  exact ⟨rfl, _, rfl⟩

set_option maxHeartbeats 2000000 in
theorem cnNlo (b h : Nat) (i : Int) (w : World) (lb : b < 4294967296) (lh : h < 65536) (x : Nat) (lx : x < 18446744073709551616) (bm : (b : Int) % 2147483648 ≤ 2139095040) (bx : Hid (from32B b = x)) (bk : Hid (ok32 x)) (bt : Hid (to32B x = b)) (hm : ¬ (h : Int) % 32768 ≤ 31744) (hx : Hid (from16B h = 9221120237041090561)) (ht : Hid (to16B 9221120237041090561 = 32256)) (ci : i < -9007199254740992) :
    Calls Try.prog 4 #[.int .u32 (b : Nat), .int .u16 (h : Nat), .int .i64 i] w fun e w' => e = .returned (.bool true) ∧ ∃ n, w' = w.drewN n := by
  go_enter Try.func4, Try.ntmps4
  go_wp2_with fail
  refine (awake_any _).mono ?_
  rintro e w' ⟨rfl, k, rfl⟩
  go_wp2_with fail
  refine (from32_at (b : Int) x _ (by omega) (by omega) (by rw [Int.toNat_natCast]; exact bx.out)).mono ?_
  rintro e w' ⟨rfl, k, rfl⟩
  go_wp2_with fail
  refine (from16_at (h : Int) 9221120237041090561 _ (by omega) (by omega) (by rw [Int.toNat_natCast]; exact hx.out)).mono ?_
  rintro e w' ⟨rfl, rfl⟩
  go_wp2_with fail
  refine (to32_at x b _ lx bk.out bt.out).mono ?_
  rintro e w' ⟨rfl, rfl⟩
  go_wp2_with fail
  refine (rawBits_any 9221120237041090561 _).mono ?_
  rintro e w' ⟨rfl, rfl⟩
  go_wp2_with fail
  refine (to16_at 9221120237041090561 32256 _ (by decide) ht.out).mono ?_
  rintro e w' ⟨rfl, rfl⟩
  go_wp2
  go_ret
  exact ⟨rfl, _, rfl⟩

set_option maxHeartbeats 2000000 in
theorem cnNhi (b h : Nat) (i : Int) (w : World) (lb : b < 4294967296) (lh : h < 65536) (x : Nat) (lx : x < 18446744073709551616) (bm : (b : Int) % 2147483648 ≤ 2139095040) (bx : Hid (from32B b = x)) (bk : Hid (ok32 x)) (bt : Hid (to32B x = b)) (hm : ¬ (h : Int) % 32768 ≤ 31744) (hx : Hid (from16B h = 9221120237041090561)) (ht : Hid (to16B 9221120237041090561 = 32256)) (ci : 9007199254740992 < i) :
    Calls Try.prog 4 #[.int .u32 (b : Nat), .int .u16 (h : Nat), .int .i64 i] w fun e w' => e = .returned (.bool true) ∧ ∃ n, w' = w.drewN n := by
  go_enter Try.func4, Try.ntmps4
  go_wp2_with fail
  refine (awake_any _).mono ?_
  rintro e w' ⟨rfl, k, rfl⟩
  go_wp2_with fail
  refine (from32_at (b : Int) x _ (by omega) (by omega) (by rw [Int.toNat_natCast]; exact bx.out)).mono ?_
  rintro e w' ⟨rfl, k, rfl⟩
  go_wp2_with fail
  refine (from16_at (h : Int) 9221120237041090561 _ (by omega) (by omega) (by rw [Int.toNat_natCast]; exact hx.out)).mono ?_
  rintro e w' ⟨rfl, rfl⟩
  go_wp2_with fail
  refine (to32_at x b _ lx bk.out bt.out).mono ?_
  rintro e w' ⟨rfl, rfl⟩
  go_wp2_with fail
  refine (rawBits_any 9221120237041090561 _).mono ?_
  rintro e w' ⟨rfl, rfl⟩
  go_wp2_with fail
  refine (to16_at 9221120237041090561 32256 _ (by decide) ht.out).mono ?_
  rintro e w' ⟨rfl, rfl⟩
  go_wp2
  go_ret
  exact ⟨rfl, _, rfl⟩

set_option maxHeartbeats 2000000 in
theorem cnNin (b h : Nat) (i : Int) (w : World) (lb : b < 4294967296) (lh : h < 65536) (x : Nat) (lx : x < 18446744073709551616) (bm : (b : Int) % 2147483648 ≤ 2139095040) (bx : Hid (from32B b = x)) (bk : Hid (ok32 x)) (bt : Hid (to32B x = b)) (hm : ¬ (h : Int) % 32768 ≤ 31744) (hx : Hid (from16B h = 9221120237041090561)) (ht : Hid (to16B 9221120237041090561 = 32256)) (ci : ¬ i < -9007199254740992) (ci2 : ¬ 9007199254740992 < i) (z : Nat) (hz : z < 18446744073709551616) (z1 : Hid (rn false (i * one) = z)) (z2 : Hid (cI .even z = i)) (z3 : Hid (cOk .even z = true)) (z4 : Hid (cI .down z = i)) (z5 : Hid (cOk .down z = true)) :
    Calls Try.prog 4 #[.int .u32 (b : Nat), .int .u16 (h : Nat), .int .i64 i] w fun e w' => e = .returned (.bool true) ∧ ∃ n, w' = w.drewN n := by
  go_enter Try.func4, Try.ntmps4
  go_wp2_with fail
  refine (awake_any _).mono ?_
  rintro e w' ⟨rfl, k, rfl⟩
  go_wp2_with fail
  refine (from32_at (b : Int) x _ (by omega) (by omega) (by rw [Int.toNat_natCast]; exact bx.out)).mono ?_
  rintro e w' ⟨rfl, k, rfl⟩
  go_wp2_with fail
  refine (from16_at (h : Int) 9221120237041090561 _ (by omega) (by omega) (by rw [Int.toNat_natCast]; exact hx.out)).mono ?_
  rintro e w' ⟨rfl, rfl⟩
  go_wp2_with fail
  refine (to32_at x b _ lx bk.out bt.out).mono ?_
  rintro e w' ⟨rfl, rfl⟩
  go_wp2_with fail
  refine (rawBits_any 9221120237041090561 _).mono ?_
  rintro e w' ⟨rfl, rfl⟩
  go_wp2_with fail
  refine (to16_at 9221120237041090561 32256 _ (by decide) ht.out).mono ?_
  rintro e w' ⟨rfl, rfl⟩
  go_wp2_with fail
  refine (fromInt_at i z _ z1.out).mono ?_
  rintro e w' ⟨rfl, rfl⟩
  go_wp2_with fail
  refine (round_at z i true _ hz z2.out z3.out).mono ?_
  rintro e w' ⟨rfl, k, rfl⟩
  go_wp2_with fail
  refine (fromInt_at i z _ z1.out).mono ?_
  rintro e w' ⟨rfl, rfl⟩
  go_wp2_with fail
  refine (floor_at z i true _ hz z4.out z5.out).mono ?_
  rintro e w' ⟨rfl, k, rfl⟩
  go_wp2
  go_ret
  exact ⟨rfl, _, rfl⟩

set_option maxHeartbeats 2000000 in
theorem cNnlo (b h : Nat) (i : Int) (w : World) (lb : b < 4294967296) (lh : h < 65536) (bm : ¬ (b : Int) % 2147483648 ≤ 2139095040) (bx : Hid (from32B b = 9221120237041090561)) (bt : Hid (to32B 9221120237041090561 = 2143289344)) (y : Nat) (ly : y < 18446744073709551616) (hm : (h : Int) % 32768 ≤ 31744) (hx : Hid (from16B h = y)) (ht : Hid (to16B y = h)) (ci : i < -9007199254740992) :
    Calls Try.prog 4 #[.int .u32 (b : Nat), .int .u16 (h : Nat), .int .i64 i] w fun e w' => e = .returned (.bool true) ∧ ∃ n, w' = w.drewN n := by
  go_enter Try.func4, Try.ntmps4
  go_wp2_with fail
  refine (awake_any _).mono ?_
  rintro e w' ⟨rfl, k, rfl⟩
  go_wp2_with fail
  refine (from32_at (b : Int) 9221120237041090561 _ (by omega) (by omega) (by rw [Int.toNat_natCast]; exact bx.out)).mono ?_
  rintro e w' ⟨rfl, k, rfl⟩
  go_wp2_with fail
  refine (from16_at (h : Int) y _ (by omega) (by omega) (by rw [Int.toNat_natCast]; exact hx.out)).mono ?_
  rintro e w' ⟨rfl, rfl⟩
  go_wp2_with fail
  refine (to16_at y h _ ly ht.out).mono ?_
  rintro e w' ⟨rfl, rfl⟩
  go_wp2_with fail
  refine (rawBits_any 9221120237041090561 _).mono ?_
  rintro e w' ⟨rfl, rfl⟩
  go_wp2_with fail
  refine (to32_at 9221120237041090561 2143289344 _ (by decide) (.inl (by decide)) bt.out).mono ?_
  rintro e w' ⟨rfl, rfl⟩
  go_wp2
  go_ret
  exact ⟨rfl, _, rfl⟩

set_option maxHeartbeats 2000000 in
theorem cNnhi (b h : Nat) (i : Int) (w : World) (lb : b < 4294967296) (lh : h < 65536) (bm : ¬ (b : Int) % 2147483648 ≤ 2139095040) (bx : Hid (from32B b = 9221120237041090561)) (bt : Hid (to32B 9221120237041090561 = 2143289344)) (y : Nat) (ly : y < 18446744073709551616) (hm : (h : Int) % 32768 ≤ 31744) (hx : Hid (from16B h = y)) (ht : Hid (to16B y = h)) (ci : 9007199254740992 < i) :
    Calls Try.prog 4 #[.int .u32 (b : Nat), .int .u16 (h : Nat), .int .i64 i] w fun e w' => e = .returned (.bool true) ∧ ∃ n, w' = w.drewN n := by
  go_enter Try.func4, Try.ntmps4
  go_wp2_with fail
  refine (awake_any _).mono ?_
  rintro e w' ⟨rfl, k, rfl⟩
  go_wp2_with fail
  refine (from32_at (b : Int) 9221120237041090561 _ (by omega) (by omega) (by rw [Int.toNat_natCast]; exact bx.out)).mono ?_
  rintro e w' ⟨rfl, k, rfl⟩
  go_wp2_with fail
  refine (from16_at (h : Int) y _ (by omega) (by omega) (by rw [Int.toNat_natCast]; exact hx.out)).mono ?_
  rintro e w' ⟨rfl, rfl⟩
  go_wp2_with fail
  refine (to16_at y h _ ly ht.out).mono ?_
  rintro e w' ⟨rfl, rfl⟩
  go_wp2_with fail
  refine (rawBits_any 9221120237041090561 _).mono ?_
  rintro e w' ⟨rfl, rfl⟩
  go_wp2_with fail
  refine (to32_at 9221120237041090561 2143289344 _ (by decide) (.inl (by decide)) bt.out).mono ?_
  rintro e w' ⟨rfl, rfl⟩
  go_wp2
  go_ret
  exact ⟨rfl, _, rfl⟩

set_option maxHeartbeats 2000000 in
theorem cNnin (b h : Nat) (i : Int) (w : World) (lb : b < 4294967296) (lh : h < 65536) (bm : ¬ (b : Int) % 2147483648 ≤ 2139095040) (bx : Hid (from32B b = 9221120237041090561)) (bt : Hid (to32B 9221120237041090561 = 2143289344)) (y : Nat) (ly : y < 18446744073709551616) (hm : (h : Int) % 32768 ≤ 31744) (hx : Hid (from16B h = y)) (ht : Hid (to16B y = h)) (ci : ¬ i < -9007199254740992) (ci2 : ¬ 9007199254740992 < i) (z : Nat) (hz : z < 18446744073709551616) (z1 : Hid (rn false (i * one) = z)) (z2 : Hid (cI .even z = i)) (z3 : Hid (cOk .even z = true)) (z4 : Hid (cI .down z = i)) (z5 : Hid (cOk .down z = true)) :
    Calls Try.prog 4 #[.int .u32 (b : Nat), .int .u16 (h : Nat), .int .i64 i] w fun e w' => e = .returned (.bool true) ∧ ∃ n, w' = w.drewN n := by
  go_enter Try.func4, Try.ntmps4
  go_wp2_with fail
  refine (awake_any _).mono ?_
  rintro e w' ⟨rfl, k, rfl⟩
  go_wp2_with fail
  refine (from32_at (b : Int) 9221120237041090561 _ (by omega) (by omega) (by rw [Int.toNat_natCast]; exact bx.out)).mono ?_
  rintro e w' ⟨rfl, k, rfl⟩
  go_wp2_with fail
  refine (from16_at (h : Int) y _ (by omega) (by omega) (by rw [Int.toNat_natCast]; exact hx.out)).mono ?_
  rintro e w' ⟨rfl, rfl⟩
  go_wp2_with fail
  refine (to16_at y h _ ly ht.out).mono ?_
  rintro e w' ⟨rfl, rfl⟩
  go_wp2_with fail
  refine (rawBits_any 9221120237041090561 _).mono ?_
  rintro e w' ⟨rfl, rfl⟩
  go_wp2_with fail
  refine (to32_at 9221120237041090561 2143289344 _ (by decide) (.inl (by decide)) bt.out).mono ?_
  rintro e w' ⟨rfl, rfl⟩
  go_wp2_with fail
  refine (fromInt_at i z _ z1.out).mono ?_
  rintro e w' ⟨rfl, rfl⟩
  go_wp2_with fail
  refine (round_at z i true _ hz z2.out z3.out).mono ?_
  rintro e w' ⟨rfl, k, rfl⟩
  go_wp2_with fail
  refine (fromInt_at i z _ z1.out).mono ?_
  rintro e w' ⟨rfl, rfl⟩
  go_wp2_with fail
  refine (floor_at z i true _ hz z4.out z5.out).mono ?_
  rintro e w' ⟨rfl, k, rfl⟩
  go_wp2
  go_ret
  exact ⟨rfl, _, rfl⟩

set_option maxHeartbeats 2000000 in
theorem cNNlo (b h : Nat) (i : Int) (w : World) (lb : b < 4294967296) (lh : h < 65536) (bm : ¬ (b : Int) % 2147483648 ≤ 2139095040) (bx : Hid (from32B b = 9221120237041090561)) (bt : Hid (to32B 9221120237041090561 = 2143289344)) (hm : ¬ (h : Int) % 32768 ≤ 31744) (hx : Hid (from16B h = 9221120237041090561)) (ht : Hid (to16B 9221120237041090561 = 32256)) (ci : i < -9007199254740992) :
    Calls Try.prog 4 #[.int .u32 (b : Nat), .int .u16 (h : Nat), .int .i64 i] w fun e w' => e = .returned (.bool true) ∧ ∃ n, w' = w.drewN n := by
  go_enter Try.func4, Try.ntmps4
  go_wp2_with fail
  refine (awake_any _).mono ?_
  rintro e w' ⟨rfl, k, rfl⟩
  go_wp2_with fail
  refine (from32_at (b : Int) 9221120237041090561 _ (by omega) (by omega) (by rw [Int.toNat_natCast]; exact bx.out)).mono ?_
  rintro e w' ⟨rfl, k, rfl⟩
  go_wp2_with fail
  refine (from16_at (h : Int) 9221120237041090561 _ (by omega) (by omega) (by rw [Int.toNat_natCast]; exact hx.out)).mono ?_
  rintro e w' ⟨rfl, rfl⟩
  go_wp2_with fail
  refine (rawBits_any 9221120237041090561 _).mono ?_
  rintro e w' ⟨rfl, rfl⟩
  go_wp2_with fail
  refine (to32_at 9221120237041090561 2143289344 _ (by decide) (.inl (by decide)) bt.out).mono ?_
  rintro e w' ⟨rfl, rfl⟩
  go_wp2_with fail
  refine (rawBits_any 9221120237041090561 _).mono ?_
  rintro e w' ⟨rfl, rfl⟩
  go_wp2_with fail
  refine (to16_at 9221120237041090561 32256 _ (by decide) ht.out).mono ?_
  rintro e w' ⟨rfl, rfl⟩
  go_wp2
  go_ret
  exact ⟨rfl, _, rfl⟩

set_option maxHeartbeats 2000000 in
theorem cNNhi (b h : Nat) (i : Int) (w : World) (lb : b < 4294967296) (lh : h < 65536) (bm : ¬ (b : Int) % 2147483648 ≤ 2139095040) (bx : Hid (from32B b = 9221120237041090561)) (bt : Hid (to32B 9221120237041090561 = 2143289344)) (hm : ¬ (h : Int) % 32768 ≤ 31744) (hx : Hid (from16B h = 9221120237041090561)) (ht : Hid (to16B 9221120237041090561 = 32256)) (ci : 9007199254740992 < i) :
    Calls Try.prog 4 #[.int .u32 (b : Nat), .int .u16 (h : Nat), .int .i64 i] w fun e w' => e = .returned (.bool true) ∧ ∃ n, w' = w.drewN n := by
  go_enter Try.func4, Try.ntmps4
  go_wp2_with fail
  refine (awake_any _).mono ?_
  rintro e w' ⟨rfl, k, rfl⟩
  go_wp2_with fail
  refine (from32_at (b : Int) 9221120237041090561 _ (by omega) (by omega) (by rw [Int.toNat_natCast]; exact bx.out)).mono ?_
  rintro e w' ⟨rfl, k, rfl⟩
  go_wp2_with fail
  refine (from16_at (h : Int) 9221120237041090561 _ (by omega) (by omega) (by rw [Int.toNat_natCast]; exact hx.out)).mono ?_
  rintro e w' ⟨rfl, rfl⟩
  go_wp2_with fail
  refine (rawBits_any 9221120237041090561 _).mono ?_
  rintro e w' ⟨rfl, rfl⟩
  go_wp2_with fail
  refine (to32_at 9221120237041090561 2143289344 _ (by decide) (.inl (by decide)) bt.out).mono ?_
  rintro e w' ⟨rfl, rfl⟩
  go_wp2_with fail
  refine (rawBits_any 9221120237041090561 _).mono ?_
  rintro e w' ⟨rfl, rfl⟩
  go_wp2_with fail
  refine (to16_at 9221120237041090561 32256 _ (by decide) ht.out).mono ?_
  rintro e w' ⟨rfl, rfl⟩
  go_wp2
  go_ret
  exact ⟨rfl, _, rfl⟩

set_option maxHeartbeats 2000000 in
theorem cNNin (b h : Nat) (i : Int) (w : World) (lb : b < 4294967296) (lh : h < 65536) (bm : ¬ (b : Int) % 2147483648 ≤ 2139095040) (bx : Hid (from32B b = 9221120237041090561)) (bt : Hid (to32B 9221120237041090561 = 2143289344)) (hm : ¬ (h : Int) % 32768 ≤ 31744) (hx : Hid (from16B h = 9221120237041090561)) (ht : Hid (to16B 9221120237041090561 = 32256)) (ci : ¬ i < -9007199254740992) (ci2 : ¬ 9007199254740992 < i) (z : Nat) (hz : z < 18446744073709551616) (z1 : Hid (rn false (i * one) = z)) (z2 : Hid (cI .even z = i)) (z3 : Hid (cOk .even z = true)) (z4 : Hid (cI .down z = i)) (z5 : Hid (cOk .down z = true)) :
    Calls Try.prog 4 #[.int .u32 (b : Nat), .int .u16 (h : Nat), .int .i64 i] w fun e w' => e = .returned (.bool true) ∧ ∃ n, w' = w.drewN n := by
  go_enter Try.func4, Try.ntmps4
  go_wp2_with fail
  refine (awake_any _).mono ?_
  rintro e w' ⟨rfl, k, rfl⟩
  go_wp2_with fail
  refine (from32_at (b : Int) 9221120237041090561 _ (by omega) (by omega) (by rw [Int.toNat_natCast]; exact bx.out)).mono ?_
  rintro e w' ⟨rfl, k, rfl⟩
  go_wp2_with fail
  refine (from16_at (h : Int) 9221120237041090561 _ (by omega) (by omega) (by rw [Int.toNat_natCast]; exact hx.out)).mono ?_
  rintro e w' ⟨rfl, rfl⟩
  go_wp2_with fail
  refine (rawBits_any 9221120237041090561 _).mono ?_
  rintro e w' ⟨rfl, rfl⟩
  go_wp2_with fail
  refine (to32_at 9221120237041090561 2143289344 _ (by decide) (.inl (by decide)) bt.out).mono ?_
  rintro e w' ⟨rfl, rfl⟩
  go_wp2_with fail
  refine (rawBits_any 9221120237041090561 _).mono ?_
  rintro e w' ⟨rfl, rfl⟩
  go_wp2_with fail
  refine (to16_at 9221120237041090561 32256 _ (by decide) ht.out).mono ?_
  rintro e w' ⟨rfl, rfl⟩
  go_wp2_with fail
  refine (fromInt_at i z _ z1.out).mono ?_
  rintro e w' ⟨rfl, rfl⟩
  go_wp2_with fail
  refine (round_at z i true _ hz z2.out z3.out).mono ?_
  rintro e w' ⟨rfl, k, rfl⟩
  go_wp2_with fail
  refine (fromInt_at i z _ z1.out).mono ?_
  rintro e w' ⟨rfl, rfl⟩
  go_wp2_with fail
  refine (floor_at z i true _ hz z4.out z5.out).mono ?_
  rintro e w' ⟨rfl, k, rfl⟩
  go_wp2
  go_ret
  exact ⟨rfl, _, rfl⟩

theorem walk (a0 : Int) (a1 : Int) (a2 : Int) (w0 : (Lit.int .u32 a0).wf = true) (w1 : (Lit.int .u16 a1).wf = true) (_w2 : (Lit.int .i64 a2).wf = true) (w : World) :
    Calls Try.prog 4 #[.int .u32 a0, .int .u16 a1, .int .i64 a2] w fun e w' => e = .returned (.bool true) ∧ Grown w w' := by
  have hg : ∀ (n : Nat), Grown w (w.drewN n) := fun n => Grown.refl _
  have hb := w0
  have hh := w1
  simp only [Lit.wf, Bool.and_eq_true, decide_eq_true_eq] at hb hh
  have m1 : IntKind.u32.min = 0 := by decide
  have m2 : IntKind.u32.max = 4294967295 := by decide
  have m3 : IntKind.u16.min = 0 := by decide
  have m4 : IntKind.u16.max = 65535 := by decide
  rw [m1, m2] at hb
  rw [m3, m4] at hh
  obtain ⟨b, rfl⟩ : ∃ b : Nat, a0 = b := ⟨a0.toNat, by omega⟩
  obtain ⟨h, rfl⟩ : ∃ h : Nat, a1 = h := ⟨a1.toNat, by omega⟩
  have lb : b < 4294967296 := by omega
  have lh : h < 65536 := by omega
  have key : Calls Try.prog 4 #[.int .u32 (b : Nat), .int .u16 (h : Nat), .int .i64 a2] w fun e w' => e = .returned (.bool true) ∧ ∃ n, w' = w.drewN n := by
    have xl := from32B_lt b
    have yl := from16B_lt h
    have t1 : to32B 9221120237041090561 = 2143289344 := by decide
    have t2 : to16B 9221120237041090561 = 32256 := by decide
    have bx : mg32 b ≤ 2139095040 → ok32 (from32B b) := by
      intro c
      unfold ok32
      unfold from32B
      rw [if_neg (by omega)]
      by_cases c2 : mg32 b = 2139095040
      · simp only [if_pos c2]
        refine .inr (.inl ?_)
        cases ng32 b <;> decide
      · simp only [if_neg c2]
        have hl := D32_lt (mg32 b) (by omega)
        have e : mg (if ng32 b = true then 9223372036854775808 + D32 (mg32 b) else D32 (mg32 b)) = D32 (mg32 b) := by
          generalize D32 (mg32 b) = y at *
          unfold mg
          cases ng32 b <;> simp <;> omega
        refine .inr (.inr ?_)
        unfold t32
        rw [e, mv_D32, rung_mag 23 K2 _ (by omega)]
        omega
    have bq : ¬ mg32 b ≤ 2139095040 → from32B b = 9221120237041090561 := by
      intro c; unfold from32B; rw [if_pos (by omega)]; rfl
    have hq : ¬ h % 32768 ≤ 31744 → from16B h = 9221120237041090561 := by
      intro c; unfold from16B; rw [if_pos (by omega)]; rfl
    have bb : mg32 b = b % 2147483648 := rfl
    by_cases cb : mg32 b ≤ 2139095040
    · by_cases ch : h % 32768 ≤ 31744
      · by_cases c1 : a2 < -9007199254740992
        · exact cnnlo b h a2 w lb lh _ xl (by omega) rfl (bx cb) (back32 b lb cb) _ yl (by omega) rfl (back16 h lh ch) c1
        · by_cases c2 : 9007199254740992 < a2
          · exact cnnhi b h a2 w lb lh _ xl (by omega) rfl (bx cb) (back32 b lb cb) _ yl (by omega) rfl (back16 h lh ch) c2
          · have e1 := whole_back .even a2 (by omega) (by omega)
            have e2 := whole_back .down a2 (by omega) (by omega)
            exact cnnin b h a2 w lb lh _ xl (by omega) rfl (bx cb) (back32 b lb cb) _ yl (by omega) rfl (back16 h lh ch) c1 c2 _ e1.1 rfl e1.2.1 e1.2.2 e2.2.1 e2.2.2
      · by_cases c1 : a2 < -9007199254740992
        · exact cnNlo b h a2 w lb lh _ xl (by omega) rfl (bx cb) (back32 b lb cb) (by omega) (hq ch) t2 c1
        · by_cases c2 : 9007199254740992 < a2
          · exact cnNhi b h a2 w lb lh _ xl (by omega) rfl (bx cb) (back32 b lb cb) (by omega) (hq ch) t2 c2
          · have e1 := whole_back .even a2 (by omega) (by omega)
            have e2 := whole_back .down a2 (by omega) (by omega)
            exact cnNin b h a2 w lb lh _ xl (by omega) rfl (bx cb) (back32 b lb cb) (by omega) (hq ch) t2 c1 c2 _ e1.1 rfl e1.2.1 e1.2.2 e2.2.1 e2.2.2
    · by_cases ch : h % 32768 ≤ 31744
      · by_cases c1 : a2 < -9007199254740992
        · exact cNnlo b h a2 w lb lh (by omega) (bq cb) t1 _ yl (by omega) rfl (back16 h lh ch) c1
        · by_cases c2 : 9007199254740992 < a2
          · exact cNnhi b h a2 w lb lh (by omega) (bq cb) t1 _ yl (by omega) rfl (back16 h lh ch) c2
          · have e1 := whole_back .even a2 (by omega) (by omega)
            have e2 := whole_back .down a2 (by omega) (by omega)
            exact cNnin b h a2 w lb lh (by omega) (bq cb) t1 _ yl (by omega) rfl (back16 h lh ch) c1 c2 _ e1.1 rfl e1.2.1 e1.2.2 e2.2.1 e2.2.2
      · by_cases c1 : a2 < -9007199254740992
        · exact cNNlo b h a2 w lb lh (by omega) (bq cb) t1 (by omega) (hq ch) t2 c1
        · by_cases c2 : 9007199254740992 < a2
          · exact cNNhi b h a2 w lb lh (by omega) (bq cb) t1 (by omega) (hq ch) t2 c2
          · have e1 := whole_back .even a2 (by omega) (by omega)
            have e2 := whole_back .down a2 (by omega) (by omega)
            exact cNNin b h a2 w lb lh (by omega) (bq cb) t1 (by omega) (hq ch) t2 c1 c2 _ e1.1 rfl e1.2.1 e1.2.2 e2.2.1 e2.2.2
  exact key.mono fun e w' ⟨h1, n, h2⟩ => ⟨h1, by rw [h2]; exact hg n⟩

set_option maxRecDepth 100000 in
theorem lifted (os : Os) (started : os.Started) (H : Type) (enc : TypeId × Value → H) :
    ReturnsInHanded {} Try.checked os 4 .any (Rows.convBackSpec.pre6 enc Try.prog Try.f4 Rows.convBackRow.domain false) (Rows.convBackSpec.post enc Try.prog Try.f4 false true false false) := by
  refine returnsInHanded_of_change (C := Try.checked) own started (by kernel_rfl) Try.func4
    (ChangeSpec.witness6 (enc := enc) (C := Try.checked) false ⟨#[], #[.int .u32 0, .int .u16 0, .int .i64 0], []⟩ 8 (by kernel_rfl) (by kernel_rfl) (by kernel_rfl) (by kernel_rfl)) ?_
  intro W base args ds gs before hval0 hW hcnd _
  have hval : ∀ (j : Nat) t v, Try.f4.params[j]? = some t → args[j]? = some v → Value.okWide Try.prog W .any base t v := hval0
  have hW' := hW
  obtain ⟨p, q, hA0, hV, rfl, hfz, hnd⟩ := hW
  have hA : DataW.TrodAll enc Try.prog W 0 (fun _ => true) true Try.f4.params.toList args.toList ds p := hA0
  rw [Try.params4] at hA hval
  obtain ⟨v0, vs0, d0, ds0, p0, q0, hargs, rfl, rfl, h0, r0⟩ := trodAll_cons hA
  obtain ⟨v1, vs1, d1, ds1, p1, q1, rfl, rfl, rfl, h1, r1⟩ := trodAll_cons r0
  obtain ⟨v2, vs2, d2, ds2, p2, q2, rfl, rfl, rfl, h2, r2⟩ := trodAll_cons r1
  obtain ⟨rfl, rfl, rfl⟩ := trodAll_nil r2
  obtain rfl : args = #[v0, v1, v2] := by cases args; simp_all
  obtain ⟨rfl, rfl⟩ := trodVars_none hV
  obtain ⟨a0, rfl, rfl, rfl, w0⟩ := open_int Try.underlying25 (hval 0 25 v0 rfl rfl) h0
  obtain ⟨a1, rfl, rfl, rfl, w1⟩ := open_int Try.underlying26 (hval 1 26 v1 rfl rfl) h1
  obtain ⟨a2, rfl, rfl, rfl, w2⟩ := open_int Try.underlying2 (hval 2 2 v2 rfl rfl) h2
  clear hA0 hval0
  simp only [List.append_nil] at hW'
  refine (walk a0 a1 a2 w0 w1 w2 W).mono fun e W' ⟨he, hg⟩ => ?_
  subst he
  exact ⟨_, rfl, post_of_same (pa := []) (pv := []) hW' (fun _ _ _ => (trodAll_cons_mk (shut_bool Try.underlying4 _) trodAll_mk0)) (fun sp _ => (trodAll_cons_mk (shut_int Try.underlying25 w0) (trodAll_cons_mk (shut_int Try.underlying26 w1) (trodAll_cons_mk (shut_int Try.underlying2 w2) trodAll_mk0)))) (fun _ _ => rfl) rfl
    (hg.frame _) hg.2.1 (ok_one (by kernel_rfl) rfl (okWide_bool_mk Try.underlying4 _))⟩

theorem over : Rows.convBackRow.holds Try.pinned (OpenSpec.ofChange Rows.convBackSpec) :=
  OpenClaim.holds_of_wide 4 Try.f4 rfl rfl rfl rfl rfl rfl rfl ⟨rfl, rfl, rfl, rfl, rfl⟩ rfl rfl rfl rfl rfl (by kernel_rfl) Try.func4 (by kernel_rfl)
    (of_decide_eq_true (by kernel_rfl)) (by unfold Func.isWrapper; first | (rw [if_pos (by decide +kernel)]; kernel_rfl) | (rw [if_neg (by decide +kernel)]; exact ⟨rfl, rfl⟩))
    (fun os started H enc _ => lifted os started H enc)

end Go.Proofs.Ytpncpbpdbdlamaa.convBackDone
namespace Go.Proofs.Ytpncpbpdbdlamaa
theorem convBack_holds : Rows.ConvBackSaid := convBackDone.over
#print axioms convBack_holds
end Go.Proofs.Ytpncpbpdbdlamaa
