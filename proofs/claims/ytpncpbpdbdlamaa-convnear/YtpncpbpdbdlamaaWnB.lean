/-
  The ways through the statement on the nearest float of fewer bits: walks over the program.
-/
import Derived.Test.YtpncpbpdbdlamaaWt
import Derived.Test.YtpncpbpdbdlamaaWm
import Derived.Test.YtpncpbpdbdlamaaWnA
namespace Go.Proofs.Ytpncpbpdbdlamaa.convNearDone
open Go.RowKit
open Tf
attribute [local go_sem] run_bits run_from raw_feq raw_fne raw_flt raw_fgt run_neg
set_option maxRecDepth 100000 in
set_option maxHeartbeats 4000000 in
theorem c1infinf (x : Nat) (w : World) (c : feq x x = true) (m : Nat) (hm : Hid (m < 18446744073709551616)) (g : flt x 0 = true) (y : Nat) (en : Op.negFloat .f64 x = y) (hq : (y : Int) % 9223372036854775808 = (m : Int)) (hs : Hid (to32B m = 2139095040)) (ht : Hid (to16B m = 31744)) (o1 : (fgt m 5183643170835005440 || feq m 5183643170835005440) = true) (o2 : (fgt m 4679237813814689792 || feq m 4679237813814689792) = true)  :
    Calls Try.prog 5 #[.float .f64 x] w fun e w' => e = .returned (.bool true) ∧ ∃ n, w' = w.drewN n := by
  go_enter Try.func5, Try.ntmps5
  go_wp2_with fail
  refine (awake_any _).mono ?_
  rintro e w' ⟨rfl, k, rfl⟩
  go_wp2_with fail
  refine (rawBits_any y _).mono ?_
  rintro e w' ⟨rfl, rfl⟩
  go_wp2_with fail
  refine (from_at (m : Int) m _ (by omega)).mono ?_
  rintro e w' ⟨rfl, rfl⟩
  go_wp2_with fail
  refine (to32_all m 2139095040 _ hm.out hs.out).mono ?_
  rintro e w' ⟨rfl, rfl⟩
  go_wp2_with fail
  refine (to16_at m 31744 _ hm.out ht.out).mono ?_
  rintro e w' ⟨rfl, rfl⟩
  go_wp2
  go_ret
  exact ⟨rfl, _, rfl⟩

set_option maxRecDepth 100000 in
set_option maxHeartbeats 4000000 in
theorem c1lastinf (x : Nat) (w : World) (c : feq x x = true) (m : Nat) (hm : Hid (m < 18446744073709551616)) (g : flt x 0 = true) (y : Nat) (en : Op.negFloat .f64 x = y) (hq : (y : Int) % 9223372036854775808 = (m : Int)) (hs : Hid (to32B m = 2139095039)) (ht : Hid (to16B m = 31744)) (o1 : (fgt m 5183643170835005440 || feq m 5183643170835005440) = false) (o2 : (fgt m 4679237813814689792 || feq m 4679237813814689792) = true) (on32 nn32 : Nat) (hon32 : Hid (from32B 1 = on32)) (hnn32 : Op.negFloat .f64 on32 = nn32) (be32 : Nat) (hbe32 : Hid (from32B (2139095038) = be32)) (at32 : Nat) (hat32 : Hid (from32B (2139095039) = at32)) (M32 : Hid (∀ (ev : Bool) (w : World), (2139095039 % 2 = 0 → ev = true) → Calls Try.prog 29 #[.float .f64 m, .float .f64 be32, .float .f64 at32, .float .f64 5183643171103440896, .bool ev] w fun e w' => e = .returned (.bool true) ∧ w' = w))  :
    Calls Try.prog 5 #[.float .f64 x] w fun e w' => e = .returned (.bool true) ∧ ∃ n, w' = w.drewN n := by
  go_enter Try.func5, Try.ntmps5
  go_wp2_with fail
  refine (awake_any _).mono ?_
  rintro e w' ⟨rfl, k, rfl⟩
  go_wp2_with fail
  refine (rawBits_any y _).mono ?_
  rintro e w' ⟨rfl, rfl⟩
  go_wp2_with fail
  refine (from_at (m : Int) m _ (by omega)).mono ?_
  rintro e w' ⟨rfl, rfl⟩
  go_wp2_with fail
  refine (to32_all m 2139095039 _ hm.out hs.out).mono ?_
  rintro e w' ⟨rfl, rfl⟩
  go_wp2_with fail
  refine (to16_at m 31744 _ hm.out ht.out).mono ?_
  rintro e w' ⟨rfl, rfl⟩
  go_wp2_with fail
  refine (from32_at 1 on32 _ (by omega) (by omega) (by rw [show (1 : Int).toNat = 1 from by decide]; exact hon32.out)).mono ?_
  rintro e w' ⟨rfl, k, rfl⟩
  go_wp2_with fail
  refine (from32_at (2139095038) be32 _ (by omega) (by omega) (by rw [show (2139095038 : Int).toNat = 2139095038 from by omega]; exact hbe32.out)).mono ?_
  rintro e w' ⟨rfl, k, rfl⟩
  go_wp2_with fail
  refine (from32_at (2139095039) at32 _ (by omega) (by omega) (by rw [show (2139095039 : Int).toNat = 2139095039 from by omega]; exact hat32.out)).mono ?_
  rintro e w' ⟨rfl, k, rfl⟩
  go_wp2_with fail
  refine (M32.out _ _ (by intro h; first | (simp; done) | (simp; omega))).mono ?_
  rintro e w' ⟨rfl, rfl⟩
  go_wp2
  go_ret
  exact ⟨rfl, _, rfl⟩

set_option maxRecDepth 100000 in
set_option maxHeartbeats 4000000 in
theorem c1midinf (x : Nat) (w : World) (c : feq x x = true) (m : Nat) (hm : Hid (m < 18446744073709551616)) (g : flt x 0 = true) (y : Nat) (en : Op.negFloat .f64 x = y) (hq : (y : Int) % 9223372036854775808 = (m : Int)) (s : Nat) (s0 : 0 < s) (p1 : decide ((2139095040 : Int) < (s : Int)) = false) (p2 : ((s : Int) == 2139095040) = false) (p3 : decide ((s : Int) < 2139095040) = true) (p4 : decide ((s : Int) + 1 < 2139095040) = true) (p6 : (s : Int) + 1 < 4294967296) (p7 : (0 : Int) ≤ (s : Int) - 1) (hs : Hid (to32B m = s)) (ht : Hid (to16B m = 31744)) (o1 : (fgt m 5183643170835005440 || feq m 5183643170835005440) = false) (o2 : (fgt m 4679237813814689792 || feq m 4679237813814689792) = true) (ab32 : Nat) (hab32 : Hid (from32B (s + 1) = ab32)) (on32 nn32 : Nat) (hon32 : Hid (from32B 1 = on32)) (hnn32 : Op.negFloat .f64 on32 = nn32) (be32 : Nat) (hbe32 : Hid (from32B (s - 1) = be32)) (at32 : Nat) (hat32 : Hid (from32B (s) = at32)) (M32 : Hid (∀ (ev : Bool) (w : World), (s % 2 = 0 → ev = true) → Calls Try.prog 29 #[.float .f64 m, .float .f64 be32, .float .f64 at32, .float .f64 ab32, .bool ev] w fun e w' => e = .returned (.bool true) ∧ w' = w))  :
    Calls Try.prog 5 #[.float .f64 x] w fun e w' => e = .returned (.bool true) ∧ ∃ n, w' = w.drewN n := by
  go_enter Try.func5, Try.ntmps5
  go_wp2_with fail
  refine (awake_any _).mono ?_
  rintro e w' ⟨rfl, k, rfl⟩
  go_wp2_with fail
  refine (rawBits_any y _).mono ?_
  rintro e w' ⟨rfl, rfl⟩
  go_wp2_with fail
  refine (from_at (m : Int) m _ (by omega)).mono ?_
  rintro e w' ⟨rfl, rfl⟩
  go_wp2_with fail
  refine (to32_all m s _ hm.out hs.out).mono ?_
  rintro e w' ⟨rfl, rfl⟩
  go_wp2_with fail
  refine (to16_at m 31744 _ hm.out ht.out).mono ?_
  rintro e w' ⟨rfl, rfl⟩
  go_wp2_with fail
  refine (from32_at (((s : Nat) : Int) + 1) ab32 _ (by omega) (by omega) (by rw [show (((s : Nat) : Int) + 1 : Int).toNat = s + 1 from by omega]; exact hab32.out)).mono ?_
  rintro e w' ⟨rfl, k, rfl⟩
  go_wp2_with fail
  refine (from32_at 1 on32 _ (by omega) (by omega) (by rw [show (1 : Int).toNat = 1 from by decide]; exact hon32.out)).mono ?_
  rintro e w' ⟨rfl, k, rfl⟩
  go_wp2_with fail
  refine (from32_at (((s : Nat) : Int) - 1) be32 _ (by omega) (by omega) (by rw [show (((s : Nat) : Int) - 1 : Int).toNat = s - 1 from by omega]; exact hbe32.out)).mono ?_
  rintro e w' ⟨rfl, k, rfl⟩
  go_wp2_with fail
  refine (from32_at (((s : Nat) : Int)) at32 _ (by omega) (by omega) (by rw [show (((s : Nat) : Int) : Int).toNat = s from by omega]; exact hat32.out)).mono ?_
  rintro e w' ⟨rfl, k, rfl⟩
  go_wp2_with fail
  refine (M32.out _ _ (by intro h; first | (simp; done) | (simp; omega))).mono ?_
  rintro e w' ⟨rfl, rfl⟩
  go_wp2
  go_ret
  exact ⟨rfl, _, rfl⟩

set_option maxRecDepth 100000 in
set_option maxHeartbeats 4000000 in
theorem c1midlast (x : Nat) (w : World) (c : feq x x = true) (m : Nat) (hm : Hid (m < 18446744073709551616)) (g : flt x 0 = true) (y : Nat) (en : Op.negFloat .f64 x = y) (hq : (y : Int) % 9223372036854775808 = (m : Int)) (s : Nat) (s0 : 0 < s) (p1 : decide ((2139095040 : Int) < (s : Int)) = false) (p2 : ((s : Int) == 2139095040) = false) (p3 : decide ((s : Int) < 2139095040) = true) (p4 : decide ((s : Int) + 1 < 2139095040) = true) (p6 : (s : Int) + 1 < 4294967296) (p7 : (0 : Int) ≤ (s : Int) - 1) (hs : Hid (to32B m = s)) (ht : Hid (to16B m = 31743)) (o1 : (fgt m 5183643170835005440 || feq m 5183643170835005440) = false) (o2 : (fgt m 4679237813814689792 || feq m 4679237813814689792) = false) (ab32 : Nat) (hab32 : Hid (from32B (s + 1) = ab32)) (on32 nn32 : Nat) (hon32 : Hid (from32B 1 = on32)) (hnn32 : Op.negFloat .f64 on32 = nn32) (be32 : Nat) (hbe32 : Hid (from32B (s - 1) = be32)) (at32 : Nat) (hat32 : Hid (from32B (s) = at32)) (M32 : Hid (∀ (ev : Bool) (w : World), (s % 2 = 0 → ev = true) → Calls Try.prog 29 #[.float .f64 m, .float .f64 be32, .float .f64 at32, .float .f64 ab32, .bool ev] w fun e w' => e = .returned (.bool true) ∧ w' = w)) (on16 nn16 : Nat) (hon16 : Hid (from16B 1 = on16)) (hnn16 : Op.negFloat .f64 on16 = nn16) (be16 : Nat) (hbe16 : Hid (from16B (31742) = be16)) (at16 : Nat) (hat16 : Hid (from16B (31743) = at16)) (M16 : Hid (∀ (ev : Bool) (w : World), (31743 % 2 = 0 → ev = true) → Calls Try.prog 29 #[.float .f64 m, .float .f64 be16, .float .f64 at16, .float .f64 4679240012837945344, .bool ev] w fun e w' => e = .returned (.bool true) ∧ w' = w))  :
    Calls Try.prog 5 #[.float .f64 x] w fun e w' => e = .returned (.bool true) ∧ ∃ n, w' = w.drewN n := by
  go_enter Try.func5, Try.ntmps5
  go_wp2_with fail
  refine (awake_any _).mono ?_
  rintro e w' ⟨rfl, k, rfl⟩
  go_wp2_with fail
  refine (rawBits_any y _).mono ?_
  rintro e w' ⟨rfl, rfl⟩
  go_wp2_with fail
  refine (from_at (m : Int) m _ (by omega)).mono ?_
  rintro e w' ⟨rfl, rfl⟩
  go_wp2_with fail
  refine (to32_all m s _ hm.out hs.out).mono ?_
  rintro e w' ⟨rfl, rfl⟩
  go_wp2_with fail
  refine (to16_at m 31743 _ hm.out ht.out).mono ?_
  rintro e w' ⟨rfl, rfl⟩
  go_wp2_with fail
  refine (from32_at (((s : Nat) : Int) + 1) ab32 _ (by omega) (by omega) (by rw [show (((s : Nat) : Int) + 1 : Int).toNat = s + 1 from by omega]; exact hab32.out)).mono ?_
  rintro e w' ⟨rfl, k, rfl⟩
  go_wp2_with fail
  refine (from32_at 1 on32 _ (by omega) (by omega) (by rw [show (1 : Int).toNat = 1 from by decide]; exact hon32.out)).mono ?_
  rintro e w' ⟨rfl, k, rfl⟩
  go_wp2_with fail
  refine (from32_at (((s : Nat) : Int) - 1) be32 _ (by omega) (by omega) (by rw [show (((s : Nat) : Int) - 1 : Int).toNat = s - 1 from by omega]; exact hbe32.out)).mono ?_
  rintro e w' ⟨rfl, k, rfl⟩
  go_wp2_with fail
  refine (from32_at (((s : Nat) : Int)) at32 _ (by omega) (by omega) (by rw [show (((s : Nat) : Int) : Int).toNat = s from by omega]; exact hat32.out)).mono ?_
  rintro e w' ⟨rfl, k, rfl⟩
  go_wp2_with fail
  refine (M32.out _ _ (by intro h; first | (simp; done) | (simp; omega))).mono ?_
  rintro e w' ⟨rfl, rfl⟩
  go_wp2_with fail
  refine (from16_at 1 on16 _ (by omega) (by omega) (by rw [show (1 : Int).toNat = 1 from by decide]; exact hon16.out)).mono ?_
  rintro e w' ⟨rfl, rfl⟩
  go_wp2_with fail
  refine (from16_at (31742) be16 _ (by omega) (by omega) (by rw [show (31742 : Int).toNat = 31742 from by omega]; exact hbe16.out)).mono ?_
  rintro e w' ⟨rfl, rfl⟩
  go_wp2_with fail
  refine (from16_at (31743) at16 _ (by omega) (by omega) (by rw [show (31743 : Int).toNat = 31743 from by omega]; exact hat16.out)).mono ?_
  rintro e w' ⟨rfl, rfl⟩
  go_wp2_with fail
  refine (M16.out _ _ (by intro h; first | (simp; done) | (simp; omega))).mono ?_
  rintro e w' ⟨rfl, rfl⟩
  go_wp2
  go_ret
  exact ⟨rfl, _, rfl⟩

set_option maxRecDepth 100000 in
set_option maxHeartbeats 4000000 in
theorem c1midmid (x : Nat) (w : World) (c : feq x x = true) (m : Nat) (hm : Hid (m < 18446744073709551616)) (g : flt x 0 = true) (y : Nat) (en : Op.negFloat .f64 x = y) (hq : (y : Int) % 9223372036854775808 = (m : Int)) (s : Nat) (s0 : 0 < s) (p1 : decide ((2139095040 : Int) < (s : Int)) = false) (p2 : ((s : Int) == 2139095040) = false) (p3 : decide ((s : Int) < 2139095040) = true) (p4 : decide ((s : Int) + 1 < 2139095040) = true) (p6 : (s : Int) + 1 < 4294967296) (p7 : (0 : Int) ≤ (s : Int) - 1) (t : Nat) (t0 : 0 < t) (r1 : decide ((31744 : Int) < (t : Int)) = false) (r2 : ((t : Int) == 31744) = false) (r4 : decide ((t : Int) + 1 < 31744) = true) (r6 : (t : Int) + 1 < 65536) (r7 : (0 : Int) ≤ (t : Int) - 1) (hs : Hid (to32B m = s)) (ht : Hid (to16B m = t)) (o1 : (fgt m 5183643170835005440 || feq m 5183643170835005440) = false) (o2 : (fgt m 4679237813814689792 || feq m 4679237813814689792) = false) (ab32 : Nat) (hab32 : Hid (from32B (s + 1) = ab32)) (on32 nn32 : Nat) (hon32 : Hid (from32B 1 = on32)) (hnn32 : Op.negFloat .f64 on32 = nn32) (be32 : Nat) (hbe32 : Hid (from32B (s - 1) = be32)) (at32 : Nat) (hat32 : Hid (from32B (s) = at32)) (M32 : Hid (∀ (ev : Bool) (w : World), (s % 2 = 0 → ev = true) → Calls Try.prog 29 #[.float .f64 m, .float .f64 be32, .float .f64 at32, .float .f64 ab32, .bool ev] w fun e w' => e = .returned (.bool true) ∧ w' = w)) (ab16 : Nat) (hab16 : Hid (from16B (t + 1) = ab16)) (on16 nn16 : Nat) (hon16 : Hid (from16B 1 = on16)) (hnn16 : Op.negFloat .f64 on16 = nn16) (be16 : Nat) (hbe16 : Hid (from16B (t - 1) = be16)) (at16 : Nat) (hat16 : Hid (from16B (t) = at16)) (M16 : Hid (∀ (ev : Bool) (w : World), (t % 2 = 0 → ev = true) → Calls Try.prog 29 #[.float .f64 m, .float .f64 be16, .float .f64 at16, .float .f64 ab16, .bool ev] w fun e w' => e = .returned (.bool true) ∧ w' = w))  :
    Calls Try.prog 5 #[.float .f64 x] w fun e w' => e = .returned (.bool true) ∧ ∃ n, w' = w.drewN n := by
  go_enter Try.func5, Try.ntmps5
  go_wp2_with fail
  refine (awake_any _).mono ?_
  rintro e w' ⟨rfl, k, rfl⟩
  go_wp2_with fail
  refine (rawBits_any y _).mono ?_
  rintro e w' ⟨rfl, rfl⟩
  go_wp2_with fail
  refine (from_at (m : Int) m _ (by omega)).mono ?_
  rintro e w' ⟨rfl, rfl⟩
  go_wp2_with fail
  refine (to32_all m s _ hm.out hs.out).mono ?_
  rintro e w' ⟨rfl, rfl⟩
  go_wp2_with fail
  refine (to16_at m t _ hm.out ht.out).mono ?_
  rintro e w' ⟨rfl, rfl⟩
  go_wp2_with fail
  refine (from32_at (((s : Nat) : Int) + 1) ab32 _ (by omega) (by omega) (by rw [show (((s : Nat) : Int) + 1 : Int).toNat = s + 1 from by omega]; exact hab32.out)).mono ?_
  rintro e w' ⟨rfl, k, rfl⟩
  go_wp2_with fail
  refine (from32_at 1 on32 _ (by omega) (by omega) (by rw [show (1 : Int).toNat = 1 from by decide]; exact hon32.out)).mono ?_
  rintro e w' ⟨rfl, k, rfl⟩
  go_wp2_with fail
  refine (from32_at (((s : Nat) : Int) - 1) be32 _ (by omega) (by omega) (by rw [show (((s : Nat) : Int) - 1 : Int).toNat = s - 1 from by omega]; exact hbe32.out)).mono ?_
  rintro e w' ⟨rfl, k, rfl⟩
  go_wp2_with fail
  refine (from32_at (((s : Nat) : Int)) at32 _ (by omega) (by omega) (by rw [show (((s : Nat) : Int) : Int).toNat = s from by omega]; exact hat32.out)).mono ?_
  rintro e w' ⟨rfl, k, rfl⟩
  go_wp2_with fail
  refine (M32.out _ _ (by intro h; first | (simp; done) | (simp; omega))).mono ?_
  rintro e w' ⟨rfl, rfl⟩
  go_wp2_with fail
  refine (from16_at (((t : Nat) : Int) + 1) ab16 _ (by omega) (by omega) (by rw [show (((t : Nat) : Int) + 1 : Int).toNat = t + 1 from by omega]; exact hab16.out)).mono ?_
  rintro e w' ⟨rfl, rfl⟩
  go_wp2_with fail
  refine (from16_at 1 on16 _ (by omega) (by omega) (by rw [show (1 : Int).toNat = 1 from by decide]; exact hon16.out)).mono ?_
  rintro e w' ⟨rfl, rfl⟩
  go_wp2_with fail
  refine (from16_at (((t : Nat) : Int) - 1) be16 _ (by omega) (by omega) (by rw [show (((t : Nat) : Int) - 1 : Int).toNat = t - 1 from by omega]; exact hbe16.out)).mono ?_
  rintro e w' ⟨rfl, rfl⟩
  go_wp2_with fail
  refine (from16_at (((t : Nat) : Int)) at16 _ (by omega) (by omega) (by rw [show (((t : Nat) : Int) : Int).toNat = t from by omega]; exact hat16.out)).mono ?_
  rintro e w' ⟨rfl, rfl⟩
  go_wp2_with fail
  refine (M16.out _ _ (by intro h; first | (simp; done) | (simp; omega))).mono ?_
  rintro e w' ⟨rfl, rfl⟩
  go_wp2
  go_ret
  exact ⟨rfl, _, rfl⟩

set_option maxRecDepth 100000 in
set_option maxHeartbeats 4000000 in
theorem c1midzero (x : Nat) (w : World) (c : feq x x = true) (m : Nat) (hm : Hid (m < 18446744073709551616)) (g : flt x 0 = true) (y : Nat) (en : Op.negFloat .f64 x = y) (hq : (y : Int) % 9223372036854775808 = (m : Int)) (s : Nat) (s0 : 0 < s) (p1 : decide ((2139095040 : Int) < (s : Int)) = false) (p2 : ((s : Int) == 2139095040) = false) (p3 : decide ((s : Int) < 2139095040) = true) (p4 : decide ((s : Int) + 1 < 2139095040) = true) (p6 : (s : Int) + 1 < 4294967296) (p7 : (0 : Int) ≤ (s : Int) - 1) (hs : Hid (to32B m = s)) (ht : Hid (to16B m = 0)) (o1 : (fgt m 5183643170835005440 || feq m 5183643170835005440) = false) (o2 : (fgt m 4679237813814689792 || feq m 4679237813814689792) = false) (ab32 : Nat) (hab32 : Hid (from32B (s + 1) = ab32)) (on32 nn32 : Nat) (hon32 : Hid (from32B 1 = on32)) (hnn32 : Op.negFloat .f64 on32 = nn32) (be32 : Nat) (hbe32 : Hid (from32B (s - 1) = be32)) (at32 : Nat) (hat32 : Hid (from32B (s) = at32)) (M32 : Hid (∀ (ev : Bool) (w : World), (s % 2 = 0 → ev = true) → Calls Try.prog 29 #[.float .f64 m, .float .f64 be32, .float .f64 at32, .float .f64 ab32, .bool ev] w fun e w' => e = .returned (.bool true) ∧ w' = w)) (ab16 : Nat) (hab16 : Hid (from16B (1) = ab16)) (on16 nn16 : Nat) (hon16 : Hid (from16B 1 = on16)) (hnn16 : Op.negFloat .f64 on16 = nn16) (at16 : Nat) (hat16 : Hid (from16B (0) = at16)) (M16 : Hid (∀ (ev : Bool) (w : World), (0 % 2 = 0 → ev = true) → Calls Try.prog 29 #[.float .f64 m, .float .f64 nn16, .float .f64 at16, .float .f64 ab16, .bool ev] w fun e w' => e = .returned (.bool true) ∧ w' = w))  :
    Calls Try.prog 5 #[.float .f64 x] w fun e w' => e = .returned (.bool true) ∧ ∃ n, w' = w.drewN n := by
  go_enter Try.func5, Try.ntmps5
  go_wp2_with fail
  refine (awake_any _).mono ?_
  rintro e w' ⟨rfl, k, rfl⟩
  go_wp2_with fail
  refine (rawBits_any y _).mono ?_
  rintro e w' ⟨rfl, rfl⟩
  go_wp2_with fail
  refine (from_at (m : Int) m _ (by omega)).mono ?_
  rintro e w' ⟨rfl, rfl⟩
  go_wp2_with fail
  refine (to32_all m s _ hm.out hs.out).mono ?_
  rintro e w' ⟨rfl, rfl⟩
  go_wp2_with fail
  refine (to16_at m 0 _ hm.out ht.out).mono ?_
  rintro e w' ⟨rfl, rfl⟩
  go_wp2_with fail
  refine (from32_at (((s : Nat) : Int) + 1) ab32 _ (by omega) (by omega) (by rw [show (((s : Nat) : Int) + 1 : Int).toNat = s + 1 from by omega]; exact hab32.out)).mono ?_
  rintro e w' ⟨rfl, k, rfl⟩
  go_wp2_with fail
  refine (from32_at 1 on32 _ (by omega) (by omega) (by rw [show (1 : Int).toNat = 1 from by decide]; exact hon32.out)).mono ?_
  rintro e w' ⟨rfl, k, rfl⟩
  go_wp2_with fail
  refine (from32_at (((s : Nat) : Int) - 1) be32 _ (by omega) (by omega) (by rw [show (((s : Nat) : Int) - 1 : Int).toNat = s - 1 from by omega]; exact hbe32.out)).mono ?_
  rintro e w' ⟨rfl, k, rfl⟩
  go_wp2_with fail
  refine (from32_at (((s : Nat) : Int)) at32 _ (by omega) (by omega) (by rw [show (((s : Nat) : Int) : Int).toNat = s from by omega]; exact hat32.out)).mono ?_
  rintro e w' ⟨rfl, k, rfl⟩
  go_wp2_with fail
  refine (M32.out _ _ (by intro h; first | (simp; done) | (simp; omega))).mono ?_
  rintro e w' ⟨rfl, rfl⟩
  go_wp2_with fail
  refine (from16_at (1) ab16 _ (by omega) (by omega) (by rw [show (1 : Int).toNat = 1 from by omega]; exact hab16.out)).mono ?_
  rintro e w' ⟨rfl, rfl⟩
  go_wp2_with fail
  refine (from16_at 1 on16 _ (by omega) (by omega) (by rw [show (1 : Int).toNat = 1 from by decide]; exact hon16.out)).mono ?_
  rintro e w' ⟨rfl, rfl⟩
  go_wp2_with fail
  refine (from16_at (0) at16 _ (by omega) (by omega) (by rw [show (0 : Int).toNat = 0 from by omega]; exact hat16.out)).mono ?_
  rintro e w' ⟨rfl, rfl⟩
  go_wp2_with fail
  refine (M16.out _ _ (by intro h; first | (simp; done) | (simp; omega))).mono ?_
  rintro e w' ⟨rfl, rfl⟩
  go_wp2
  go_ret
  exact ⟨rfl, _, rfl⟩

set_option maxRecDepth 100000 in
set_option maxHeartbeats 4000000 in
theorem c1zerozero (x : Nat) (w : World) (c : feq x x = true) (m : Nat) (hm : Hid (m < 18446744073709551616)) (g : flt x 0 = true) (y : Nat) (en : Op.negFloat .f64 x = y) (hq : (y : Int) % 9223372036854775808 = (m : Int)) (hs : Hid (to32B m = 0)) (ht : Hid (to16B m = 0)) (o1 : (fgt m 5183643170835005440 || feq m 5183643170835005440) = false) (o2 : (fgt m 4679237813814689792 || feq m 4679237813814689792) = false) (ab32 : Nat) (hab32 : Hid (from32B (1) = ab32)) (on32 nn32 : Nat) (hon32 : Hid (from32B 1 = on32)) (hnn32 : Op.negFloat .f64 on32 = nn32) (at32 : Nat) (hat32 : Hid (from32B (0) = at32)) (M32 : Hid (∀ (ev : Bool) (w : World), (0 % 2 = 0 → ev = true) → Calls Try.prog 29 #[.float .f64 m, .float .f64 nn32, .float .f64 at32, .float .f64 ab32, .bool ev] w fun e w' => e = .returned (.bool true) ∧ w' = w)) (ab16 : Nat) (hab16 : Hid (from16B (1) = ab16)) (on16 nn16 : Nat) (hon16 : Hid (from16B 1 = on16)) (hnn16 : Op.negFloat .f64 on16 = nn16) (at16 : Nat) (hat16 : Hid (from16B (0) = at16)) (M16 : Hid (∀ (ev : Bool) (w : World), (0 % 2 = 0 → ev = true) → Calls Try.prog 29 #[.float .f64 m, .float .f64 nn16, .float .f64 at16, .float .f64 ab16, .bool ev] w fun e w' => e = .returned (.bool true) ∧ w' = w))  :
    Calls Try.prog 5 #[.float .f64 x] w fun e w' => e = .returned (.bool true) ∧ ∃ n, w' = w.drewN n := by
  go_enter Try.func5, Try.ntmps5
  go_wp2_with fail
  refine (awake_any _).mono ?_
  rintro e w' ⟨rfl, k, rfl⟩
  go_wp2_with fail
  refine (rawBits_any y _).mono ?_
  rintro e w' ⟨rfl, rfl⟩
  go_wp2_with fail
  refine (from_at (m : Int) m _ (by omega)).mono ?_
  rintro e w' ⟨rfl, rfl⟩
  go_wp2_with fail
  refine (to32_all m 0 _ hm.out hs.out).mono ?_
  rintro e w' ⟨rfl, rfl⟩
  go_wp2_with fail
  refine (to16_at m 0 _ hm.out ht.out).mono ?_
  rintro e w' ⟨rfl, rfl⟩
  go_wp2_with fail
  refine (from32_at (1) ab32 _ (by omega) (by omega) (by rw [show (1 : Int).toNat = 1 from by omega]; exact hab32.out)).mono ?_
  rintro e w' ⟨rfl, k, rfl⟩
  go_wp2_with fail
  refine (from32_at 1 on32 _ (by omega) (by omega) (by rw [show (1 : Int).toNat = 1 from by decide]; exact hon32.out)).mono ?_
  rintro e w' ⟨rfl, k, rfl⟩
  go_wp2_with fail
  refine (from32_at (0) at32 _ (by omega) (by omega) (by rw [show (0 : Int).toNat = 0 from by omega]; exact hat32.out)).mono ?_
  rintro e w' ⟨rfl, k, rfl⟩
  go_wp2_with fail
  refine (M32.out _ _ (by intro h; first | (simp; done) | (simp; omega))).mono ?_
  rintro e w' ⟨rfl, rfl⟩
  go_wp2_with fail
  refine (from16_at (1) ab16 _ (by omega) (by omega) (by rw [show (1 : Int).toNat = 1 from by omega]; exact hab16.out)).mono ?_
  rintro e w' ⟨rfl, rfl⟩
  go_wp2_with fail
  refine (from16_at 1 on16 _ (by omega) (by omega) (by rw [show (1 : Int).toNat = 1 from by decide]; exact hon16.out)).mono ?_
  rintro e w' ⟨rfl, rfl⟩
  go_wp2_with fail
  refine (from16_at (0) at16 _ (by omega) (by omega) (by rw [show (0 : Int).toNat = 0 from by omega]; exact hat16.out)).mono ?_
  rintro e w' ⟨rfl, rfl⟩
  go_wp2_with fail
  refine (M16.out _ _ (by intro h; first | (simp; done) | (simp; omega))).mono ?_
  rintro e w' ⟨rfl, rfl⟩
  go_wp2
  go_ret
  exact ⟨rfl, _, rfl⟩

end Go.Proofs.Ytpncpbpdbdlamaa.convNearDone
