/-
  Some of the texts of this proof, one behind the other.
-/
import Derived.Test.YtbibhgikmnpbfaaGreatDoorRows
import Derived.Deep.Draws
import Derived.Below
import Derived.Deep.RegionWith
import Derived.BigQuiet
import Derived.Test.YtbibhgikmnpbfaaGreatDoorRb03
namespace Go.Proofs.YtbibhgikmnpbfaaGreatDoor
open Tf Ieee

/-- the three in order -/
theorem th_perm (a b c : Nat) : ∃ u v z, thB a b c = plB (plB u v) z ∧ ((u = a ∧ v = b ∧ z = c) ∨ (u = a ∧ v = c ∧ z = b) ∨ (u = b ∧ v = a ∧ z = c) ∨ (u = b ∧ v = c ∧ z = a) ∨ (u = c ∧ v = a ∧ z = b) ∨ (u = c ∧ v = b ∧ z = a)) := by
  unfold thB
  by_cases k1 : key b < key a
  · have lk1 : loB a b = b := by unfold loB; rw [if_pos k1]
    have gk1 : hiB a b = a := by unfold hiB; rw [if_pos k1]
    rw [lk1, gk1]
    by_cases k2 : key c < key a
    · have lk2 : loB a c = c := by unfold loB; rw [if_pos k2]
      have gk2 : hiB a c = a := by unfold hiB; rw [if_pos k2]
      rw [lk2, gk2]
      by_cases k3 : key c < key b
      · have lk3 : loB b c = c := by unfold loB; rw [if_pos k3]
        have gk3 : hiB b c = b := by unfold hiB; rw [if_pos k3]
        rw [lk3, gk3]
        exact ⟨_, _, _, rfl, by simp⟩
      · have lk3 : loB b c = b := by unfold loB; rw [if_neg k3]
        have gk3 : hiB b c = c := by unfold hiB; rw [if_neg k3]
        rw [lk3, gk3]
        exact ⟨_, _, _, rfl, by simp⟩
    · have lk2 : loB a c = a := by unfold loB; rw [if_neg k2]
      have gk2 : hiB a c = c := by unfold hiB; rw [if_neg k2]
      rw [lk2, gk2]
      by_cases k3 : key a < key b
      · have lk3 : loB b a = a := by unfold loB; rw [if_pos k3]
        have gk3 : hiB b a = b := by unfold hiB; rw [if_pos k3]
        rw [lk3, gk3]
        exact ⟨_, _, _, rfl, by simp⟩
      · have lk3 : loB b a = b := by unfold loB; rw [if_neg k3]
        have gk3 : hiB b a = a := by unfold hiB; rw [if_neg k3]
        rw [lk3, gk3]
        exact ⟨_, _, _, rfl, by simp⟩
  · have lk1 : loB a b = a := by unfold loB; rw [if_neg k1]
    have gk1 : hiB a b = b := by unfold hiB; rw [if_neg k1]
    rw [lk1, gk1]
    by_cases k2 : key c < key b
    · have lk2 : loB b c = c := by unfold loB; rw [if_pos k2]
      have gk2 : hiB b c = b := by unfold hiB; rw [if_pos k2]
      rw [lk2, gk2]
      by_cases k3 : key c < key a
      · have lk3 : loB a c = c := by unfold loB; rw [if_pos k3]
        have gk3 : hiB a c = a := by unfold hiB; rw [if_pos k3]
        rw [lk3, gk3]
        exact ⟨_, _, _, rfl, by simp⟩
      · have lk3 : loB a c = a := by unfold loB; rw [if_neg k3]
        have gk3 : hiB a c = c := by unfold hiB; rw [if_neg k3]
        rw [lk3, gk3]
        exact ⟨_, _, _, rfl, by simp⟩
    · have lk2 : loB b c = b := by unfold loB; rw [if_neg k2]
      have gk2 : hiB b c = c := by unfold hiB; rw [if_neg k2]
      rw [lk2, gk2]
      by_cases k3 : key b < key a
      · have lk3 : loB a b = b := by unfold loB; rw [if_pos k3]
        have gk3 : hiB a b = a := by unfold hiB; rw [if_pos k3]
        rw [lk3, gk3]
        exact ⟨_, _, _, rfl, by simp⟩
      · have lk3 : loB a b = a := by unfold loB; rw [if_neg k3]
        have gk3 : hiB a b = b := by unfold hiB; rw [if_neg k3]
        rw [lk3, gk3]
        exact ⟨_, _, _, rfl, by simp⟩
theorem negB_lt' {x : Nat} (hx : x < 18446744073709551616) : negB x < 18446744073709551616 := by
  unfold negB
  cases h : ng x
  · have := lt_of_ng h; simp; omega
  · simp; omega
theorem negB_mg {x : Nat} (hx : x < 18446744073709551616) : mg (negB x) = mg x := by
  unfold negB
  cases h : ng x
  · have := lt_of_ng h; simp [mg]
  · have := ge_of_ng h; simp [mg]; omega
theorem negB_isN {x : Nat} (hx : x < 18446744073709551616) : isN (negB x) = isN x := by unfold isN; rw [negB_mg hx]
theorem read_neg (x : Nat) (hx : x < 18446744073709551616) : double.read (negB x) = (double.read x).opposite := by
  have h1 : negB x % 9223372036854775808 = x % 9223372036854775808 := negB_mg hx
  have h2 : (negB x / 9223372036854775808 % 2 == 1) = !(x / 9223372036854775808 % 2 == 1) := by
    unfold negB
    cases k : ng x
    · have := lt_of_ng k
      rw [show x / 9223372036854775808 = 0 by omega]
      simp only [Bool.false_eq_true, if_false]
      rw [show (x + 9223372036854775808) / 9223372036854775808 = 1 by omega]
      rfl
    · have := ge_of_ng k
      rw [show x / 9223372036854775808 = 1 by omega]
      simp only [if_true]
      rw [show (x - 9223372036854775808) / 9223372036854775808 = 0 by omega]
      rfl
  unfold Format.read
  simp only [d_sw]
  rw [h1, h2]
  generalize x % 9223372036854775808 = r
  generalize (x / 9223372036854775808 % 2 == 1) = s
  by_cases a : r < double.binade
  · rw [if_pos a, if_pos a]; rfl
  · rw [if_neg a, if_neg a]
    by_cases b : r < double.infRung
    · rw [if_pos b, if_pos b]; rfl
    · rw [if_neg b, if_neg b]
      by_cases c : r = double.infRung
      · rw [if_pos c, if_pos c]; rfl
      · rw [if_neg c, if_neg c]; rfl
theorem sub_add (a b : Nat) (hb : b < 18446744073709551616) : double.sub a b = double.add a (negB b) := by
  unfold Format.sub Format.add; rw [read_neg b hb]
theorem mul_comm (a b : Nat) : double.mul a b = double.mul b a := by
  unfold Format.mul
  cases double.read a <;> cases double.read b <;> simp [Datum.product, Bool.xor_comm, Nat.mul_comm, Int.add_comm]
/-- a difference, in the one form -/
def sbB (a b : Nat) : Nat := addB a (negB b)
theorem sbB_lt {a b : Nat} (ha : a < 18446744073709551616) (hb : b < 18446744073709551616) : sbB a b < 18446744073709551616 := addB_lt a _ ha (negB_lt' hb)
/-- one product, a NaN as the one -/
def mlB (a b : Nat) : Nat := match Ieee.double.mul a b with | some r => r | none => quiet
theorem mlB_some {a b r : Nat} (h : Ieee.double.mul a b = some r) : mlB a b = r := by unfold mlB; rw [h]
theorem mlB_none {a b : Nat} (h : Ieee.double.mul a b = none) : mlB a b = quiet := by unfold mlB; rw [h]
theorem mul_fact {a b r : Nat} (h : Ieee.double.mul a b = some r) (ha : a < 18446744073709551616) (hb : b < 18446744073709551616) : r < 18446744073709551616 ∧ isN r = false := by
  rcases mul_cases a b ha hb with ⟨h1, h2⟩ | h' | ⟨s, h'⟩
  · have e := mul_d a b ha hb h1 h2
    rw [h] at e
    injection e with e
    generalize rung 52 1074 (mv (mg a) * mv (mg b)) = q at e
    have hm : min q 9218868437227405312 ≤ 9218868437227405312 := Nat.min_le_right _ _
    generalize min q 9218868437227405312 = z at e hm
    rw [isN_false]
    subst e
    cases (ng a ^^ ng b)
    · simp only [Bool.false_eq_true, if_false]; exact ⟨by omega, by unfold mg; omega⟩
    · simp only [if_true]; exact ⟨by omega, by unfold mg; omega⟩
  · rw [h] at h'; cases h'
  · rw [h] at h'
    injection h' with h'
    subst h'
    exact ⟨infW_lt s, by rw [isN_false, infW_mg]; omega⟩
theorem mlB_lt {a b : Nat} (ha : a < 18446744073709551616) (hb : b < 18446744073709551616) : mlB a b < 18446744073709551616 := by
  cases h : Ieee.double.mul a b with
  | none => rw [mlB_none h]; decide
  | some r => rw [mlB_some h]; exact (mul_fact h ha hb).1
def sqB (x : Nat) : Nat := mlB x x
/-- an arithmetic of NaN: one among three makes the sum one -/
theorem plB_nan {a b : Nat} (h : isN a = true ∨ isN b = true) : plB a b = quiet := plB_none (add_nan a b h)
theorem thB_nan {a b c : Nat} (h : isN a = true ∨ isN b = true ∨ isN c = true) : thB a b c = quiet := by
  obtain ⟨u, v, z, e, hp⟩ := th_perm a b c
  rw [e]
  have hn : isN u = true ∨ isN v = true ∨ isN z = true := by
    rcases hp with ⟨rfl, rfl, rfl⟩ | ⟨rfl, rfl, rfl⟩ | ⟨rfl, rfl, rfl⟩ | ⟨rfl, rfl, rfl⟩ | ⟨rfl, rfl, rfl⟩ | ⟨rfl, rfl, rfl⟩ <;> rcases h with h | h | h <;> simp [h]
  rcases hn with k | k | k
  · rw [plB_nan (.inl k)]; exact plB_nan (.inl quiet_N)
  · rw [plB_nan (.inr k)]; exact plB_nan (.inl quiet_N)
  · exact plB_nan (.inr k)
theorem thB_q (a b c : Nat) : thB a b c = thB (qB a) (qB b) (qB c) := by
  cases h1 : isN a
  · cases h2 : isN b
    · cases h3 : isN c
      · rw [qB_of h1, qB_of h2, qB_of h3]
      · rw [thB_nan (.inr (.inr h3)), thB_nan (.inr (.inr (by rw [qB_isN]; exact h3)))]
    · rw [thB_nan (.inr (.inl h2)), thB_nan (.inr (.inl (by rw [qB_isN]; exact h2)))]
  · rw [thB_nan (.inl h1), thB_nan (.inl (by rw [qB_isN]; exact h1))]
/-- a square root and a quotient, in the one form -/
def rtB (x : Nat) : Nat := match Ieee.double.sqrt x with | some r => canonB r | none => quiet
def dvB (a b : Nat) : Nat := match Ieee.double.div a b with | some r => canonB r | none => quiet
theorem rtB_some {x r : Nat} (h : Ieee.double.sqrt x = some r) : rtB x = canonB r := by unfold rtB; rw [h]
theorem rtB_none {x : Nat} (h : Ieee.double.sqrt x = none) : rtB x = quiet := by unfold rtB; rw [h]
theorem dvB_some {a b r : Nat} (h : Ieee.double.div a b = some r) : dvB a b = canonB r := by unfold dvB; rw [h]
theorem dvB_none {a b : Nat} (h : Ieee.double.div a b = none) : dvB a b = quiet := by unfold dvB; rw [h]
theorem canon_lt {x : Nat} (hx : x < 18446744073709551616) : canonB x < 18446744073709551616 := by
  unfold canonB; split
  · decide
  · split
    · decide
    · exact hx
/-- how long -/
def lnB (x y z : Nat) : Nat := rtB (thB (sqB x) (sqB y) (sqB z))
end Go.Proofs.YtbibhgikmnpbfaaGreatDoor

namespace Go.Proofs.YtbibhgikmnpbfaaGreatDoor
open Tf Ieee

theorem rung_big {d V : Nat} (h : 52 + d ≤ V.log2) (h0 : V ≠ 0) : 4503599627370496 ≤ rung 52 d V := by
  have e : mag 52 4503599627370496 = 2 ^ 52 := by decide
  refine rung_ge (by omega) ?_
  rw [e, ← Nat.pow_add]
  exact Nat.le_trans (Nat.pow_le_pow_right (by omega) h) (Nat.log2_self_le h0)
/-- nought, or a number far from both ends -/
def Md (x : Nat) : Prop := mg x = 0 ∨ (4503599627370496 ≤ mg x ∧ mg x + 4503599627370496 < 9218868437227405312)
theorem Md.w {x : Nat} (h : Md x) : mg x = 0 ∨ mg x + 4503599627370496 < 9223372036854775808 := by rcases h with h | h; exact .inl h; exact .inr (by omega)
theorem Md.fin {x : Nat} (h : Md x) : mg x < 9218868437227405312 := by rcases h with h | h <;> omega
theorem Md.neg {x : Nat} (h : Md x) (hx : x < 18446744073709551616) : Md (negB x) := by unfold Md; rw [negB_mg hx]; exact h
end Go.Proofs.YtbibhgikmnpbfaaGreatDoor

namespace Go.Proofs.YtbibhgikmnpbfaaGreatDoor
open Tf Ieee
theorem mul_w {x y : Nat} (hx : x < 18446744073709551616) (hy : y < 18446744073709551616) (fx : mg x < 9218868437227405312) (fy : mg y < 9218868437227405312) :
    mlB x y = if (ng x ^^ ng y) then 9223372036854775808 + min (rung 52 1074 (mv (mg x) * mv (mg y))) 9218868437227405312 else min (rung 52 1074 (mv (mg x) * mv (mg y))) 9218868437227405312 :=
  mlB_some (mul_d x y hx hy fx fy)
theorem rung_none (d : Nat) : rung 52 d 0 = 0 := by
  have := rung_mag 52 d 0 (by omega)
  rwa [mag_zero, Nat.zero_mul] at this
/-- a word by its sign and its rung -/
def wd (s : Bool) (r : Nat) : Nat := if s then 9223372036854775808 + r else r
theorem wd_mg {s : Bool} {r : Nat} (h : r < 9223372036854775808) : mg (wd s r) = r := by unfold wd mg; cases s <;> simp <;> omega
end Go.Proofs.YtbibhgikmnpbfaaGreatDoor

namespace Go.Proofs.YtbibhgikmnpbfaaGreatDoor
open Tf Ieee
def sgn (x : Nat) : Bool := x / 9223372036854775808 % 2 == 1
theorem read_norm {x : Nat} (h1 : 4503599627370496 ≤ mg x) (h2 : mg x < 9218868437227405312) :
    double.read x = .number (sgn x) (4503599627370496 + mg x % 4503599627370496) (double.leastPlace + ((mg x / 4503599627370496 - 1 : Nat) : Int)) := by
  unfold Format.read
  simp only [d_sw, d_bin, d_inf]
  have hmg : x % 9223372036854775808 = mg x := rfl
  rw [hmg, if_neg (by omega), if_pos h2]
  rfl
theorem read_zero {x : Nat} (h : mg x = 0) : double.read x = .number (sgn x) 0 double.leastPlace := by
  unfold Format.read
  simp only [d_sw, d_bin, d_inf]
  have hmg : x % 9223372036854775808 = mg x := rfl
  rw [hmg, if_pos (by omega), h]
  rfl
theorem sgn_ng {x : Nat} (hx : x < 18446744073709551616) : sgn x = ng x := by
  unfold sgn ng
  by_cases c : 9223372036854775808 ≤ x
  · rw [show x / 9223372036854775808 = 1 by omega, decide_eq_true c]; rfl
  · rw [show x / 9223372036854775808 = 0 by omega, decide_eq_false c]; rfl
theorem log_m (q : Nat) (h : q < 4503599627370496) : (4503599627370496 + q).log2 = 52 := by
  refine log2_of (k := 52) ?_ ?_
  · have e : (2 : Nat) ^ 52 = 4503599627370496 := by decide
    omega
  · have e : (2 : Nat) ^ (52 + 1) = 9007199254740992 := by decide
    omega
end Go.Proofs.YtbibhgikmnpbfaaGreatDoor

namespace Go.Proofs.YtbibhgikmnpbfaaGreatDoor
open Tf Ieee
theorem mv_parts {r : Nat} (h : 4503599627370496 ≤ r) : mv r = (4503599627370496 + r % 4503599627370496) * 2 ^ (r / 4503599627370496 - 1) := by
  unfold mv mag
  have e : (2 : Nat) ^ 52 = 4503599627370496 := by decide
  rw [if_neg (by omega), e]
end Go.Proofs.YtbibhgikmnpbfaaGreatDoor

namespace Go.Proofs.YtbibhgikmnpbfaaGreatDoor
open Go.RowKit Tf

theorem run_bits (b : Nat) (w : World) : (callFunc 157 #[.float .f64 b]).run Tryz.prog w = .ok (.value (.int .u64 b)) w := by
  rw [run_callFunc_extern (e := Extern.MathFloatBits.float64bits) Tryz.func157 (by kernel_rfl) (by kernel_rfl) (by kernel_rfl) (by kernel_rfl)]
  rfl
theorem run_from (n : Int) (w : World) : (callFunc 140 #[.int .u64 n]).run Tryz.prog w = .ok (.value (.float .f64 n.toNat)) w := by
  rw [run_callFunc_extern (e := Extern.MathFloatBits.float64frombits) Tryz.func140 (by kernel_rfl) (by kernel_rfl) (by kernel_rfl) (by kernel_rfl)]
  rfl
theorem raw_feq (a b : Nat) : (FloatKind.f64.format.order a b == some Ordering.eq) = feq a b := rfl
theorem raw_fne (a b : Nat) : (FloatKind.f64.format.order a b != some Ordering.eq) = !feq a b := rfl
theorem raw_flt (a b : Nat) : (FloatKind.f64.format.order a b == some Ordering.lt) = flt a b := rfl
theorem raw_fgt (a b : Nat) : (FloatKind.f64.format.order a b == some Ordering.gt) = fgt a b := rfl
attribute [local go_sem] run_bits run_from raw_feq raw_fne raw_flt raw_fgt

theorem ret_int {k : IntKind} {a b : Int} (h : a = b) : Ending.returned (.int k a) = .returned (.int k b) := by rw [h]
theorem ret_bool {a b : Bool} (h : a = b) : Ending.returned (.bool a) = .returned (.bool b) := by rw [h]
theorem ret_flt {a b : Nat} (h : a = b) : Ending.returned (.float .f64 a) = .returned (.float .f64 b) := by rw [h]

set_option maxHeartbeats 400000 in
theorem magnitudeBits_any (x : Nat) (w : World) (hx : x < 18446744073709551616) :
    Calls Tryz.prog 158 #[.float .f64 x] w fun e w' => e = .returned (.int .u64 (mg x : Nat)) ∧ w' = w := by
  go_enter Tryz.func158, Tryz.ntmps158
  go_wp2
  go_ret
  exact ⟨ret_int (andNot_sign x hx), rfl⟩
set_option maxHeartbeats 400000 in
theorem place_any (x : Nat) (w : World) (hx : x < 18446744073709551616) :
    Calls Tryz.prog 119 #[.float .f64 x] w fun e w' => e = .returned (.int .u64 (placeB x : Nat)) ∧ w' = w := by
  have hs := and_sign x hx
  cases hn : ng x
  · rw [hn] at hs
    have hl := lt_of_ng hn
    have ho : Hid (bits .or .u64 (x : Int) 9223372036854775808 = ((x + 9223372036854775808 : Nat) : Int)) := or_sign x hl
    have hp : Hid (placeB x = x + 9223372036854775808) := by unfold placeB; rw [hn]; rfl
    go_enter Tryz.func119, Tryz.ntmps119
    go_wp2
    go_ret
    exact ⟨ret_int (by rw [ho.out, hp.out]), rfl⟩
  · rw [hn] at hs
    have ho : Hid (bits .xor .u64 IntKind.u64.max (x : Int) = ((18446744073709551615 - x : Nat) : Int)) := not_all x hx
    have hp : Hid (placeB x = 18446744073709551615 - x) := by unfold placeB; rw [hn]; rfl
    go_enter Tryz.func119, Tryz.ntmps119
    go_wp2
    go_ret
    exact ⟨ret_int (by rw [hp.out]; exact ho.out), rfl⟩
set_option maxHeartbeats 400000 in
theorem isNaN_any (x : Nat) (w : World) (hx : x < 18446744073709551616) :
    Calls Tryz.prog 120 #[.float .f64 x] w fun e w' => e = .returned (.bool (isN x)) ∧ w' = w := by
  go_enter Tryz.func120, Tryz.ntmps120
  go_wp2_with (go_at_call 158; refine (magnitudeBits_any _ _ hx).mono ?_; rintro e w' ⟨rfl, rfl⟩)
  go_ret
  exact ⟨ret_bool (by unfold isN; exact decide_eq_decide.2 (by omega)), rfl⟩
set_option maxHeartbeats 400000 in
theorem quietNaN_any (w : World) :
    Calls Tryz.prog 121 #[] w fun e w' => e = .returned (.float .f64 quiet) ∧ w' = w := by
  go_enter Tryz.func121, Tryz.ntmps121
  go_wp2
  go_ret
  exact ⟨rfl, rfl⟩

theorem feq_zero (x : Nat) (hx : x < 18446744073709551616) : feq x 0 = decide (mg x = 0) := by
  have h := feq_rk x 0 hx (by omega)
  have e : rk 0 = 0 := by decide
  have n : isN 0 = false := by decide
  rw [h, e, n]
  cases hN : isN x
  · unfold rk
    cases ng x <;> simp
  · have := isN_true.1 hN
    have : ¬ mg x = 0 := by omega
    simp [this]

set_option maxHeartbeats 1000000 in
set_option maxRecDepth 100000 in
theorem canon_any (x : Nat) (w : World) (hx : x < 18446744073709551616) :
    Calls Tryz.prog 75 #[.float .f64 x] w fun e w' => e = .returned (.float .f64 (canonB x)) ∧ w' = w := by
  have hc : Hid (canonB x = if isN x then quiet else if mg x = 0 then 0 else x) := rfl
  have hz := feq_zero x hx
  cases hN : isN x
  · have HN := hid hN
    by_cases c : mg x = 0
    · have H : Hid (mg x = 0) := c
      rw [c] at hz; simp only [decide_true] at hz
      clear c
      go_enter Tryz.func75, Tryz.ntmps75
      go_wp2_with (first | (go_at_call 120; refine (isNaN_any _ _ hx).mono ?_; rintro e w' ⟨rfl, rfl⟩) | (go_at_call 121; refine (quietNaN_any _).mono ?_; rintro e w' ⟨rfl, rfl⟩))
      go_ret
      exact ⟨ret_flt (by rw [hc.out, HN.out, H.out]; rfl), rfl⟩
    · simp only [c, decide_false] at hz
      go_enter Tryz.func75, Tryz.ntmps75
      go_wp2_with (first | (go_at_call 120; refine (isNaN_any _ _ hx).mono ?_; rintro e w' ⟨rfl, rfl⟩) | (go_at_call 121; refine (quietNaN_any _).mono ?_; rintro e w' ⟨rfl, rfl⟩))
      go_ret
      exact ⟨ret_flt (by rw [hc.out, HN.out, if_neg c]; rfl), rfl⟩
  · have HN := hid hN
    go_enter Tryz.func75, Tryz.ntmps75
    go_wp2_with (first | (go_at_call 120; refine (isNaN_any _ _ hx).mono ?_; rintro e w' ⟨rfl, rfl⟩) | (go_at_call 121; refine (quietNaN_any _).mono ?_; rintro e w' ⟨rfl, rfl⟩))
    go_ret
    exact ⟨ret_flt (by rw [hc.out, HN.out]; rfl), rfl⟩

end Go.Proofs.YtbibhgikmnpbfaaGreatDoor

namespace Go.Proofs.YtbibhgikmnpbfaaGreatDoor
open Go.RowKit Tf
attribute [local go_sem] run_bits run_from raw_feq raw_fne raw_flt raw_fgt

theorem xor_lt (x : Nat) (h : x < 2 ^ 63) : x ^^^ 2 ^ 63 = x + 2 ^ 63 := by
  apply Nat.eq_of_testBit_eq
  intro i
  rw [Nat.testBit_xor, Nat.testBit_two_pow, Nat.add_comm x]
  by_cases c : i = 63
  · subst c
    rw [Nat.testBit_two_pow_add_eq]
    have : x.testBit 63 = false := Nat.testBit_lt_two_pow h
    simp [this]
  · by_cases c2 : i < 63
    · rw [Nat.testBit_two_pow_add_gt c2]
      have : ¬ 63 = i := by omega
      simp [this]
    · have h1 : x.testBit i = false := Nat.testBit_lt_two_pow (Nat.lt_of_lt_of_le h (Nat.pow_le_pow_right (by omega) (by omega)))
      have h2 : (2 ^ 63 + x).testBit i = false := Nat.testBit_lt_two_pow (Nat.lt_of_lt_of_le (show 2 ^ 63 + x < 2 ^ 64 by omega) (Nat.pow_le_pow_right (by omega) (by omega)))
      have : ¬ 63 = i := by omega
      rw [h1, h2]; simp [this]
theorem negFloat_eq (x : Nat) (hx : x < 18446744073709551616) : Op.negFloat .f64 x = negB x := by
  unfold Op.negFloat negB
  rw [show FloatKind.f64.format.exponentBits + FloatKind.f64.format.fractionBits = 63 from rfl]
  cases h : ng x
  · have := lt_of_ng h
    rw [xor_lt x (by omega)]; simp only [Bool.false_eq_true, if_false]
  · have := ge_of_ng h
    have e := xor_lt (x - 9223372036854775808) (by omega)
    rw [show x - 9223372036854775808 + 2 ^ 63 = x by omega] at e
    have e2 : x ^^^ 2 ^ 63 = x - 9223372036854775808 := by
      rw (occs := .pos [1]) [← e]
      rw [Nat.xor_assoc, Nat.xor_self, Nat.xor_zero]
    rw [e2]; simp only [if_true]
theorem run_neg (b : Nat) : Op.unary .neg (.float .f64 b) = pure (.float .f64 (Op.negFloat .f64 b)) := rfl
attribute [local go_sem] run_neg

end Go.Proofs.YtbibhgikmnpbfaaGreatDoor

namespace Go.Proofs.YtbibhgikmnpbfaaGreatDoor
open Go.RowKit Tf
attribute [local go_sem] run_bits run_from raw_feq raw_fne raw_flt raw_fgt run_neg

set_option maxHeartbeats 400000 in
theorem from_any (a : Int) (w : World) :
    Calls Tryz.prog 102 #[.int .u64 a] w fun e w' => e = .returned (.float .f64 a.toNat) ∧ w' = w := by
  go_enter Tryz.func102, Tryz.ntmps102
  go_wp2
  go_ret
  exact ⟨rfl, rfl⟩
set_option maxHeartbeats 400000 in
theorem order_at (a b p q : Nat) (w : World) (ha : a < 18446744073709551616) (hb : b < 18446744073709551616) (hp : Hid (placeB a = p)) (hq : Hid (placeB b = q)) :
    Calls Tryz.prog 74 #[.float .f64 a, .float .f64 b] w fun e w' => e = .returned (.int .i64 (if p < q then -1 else if q < p then 1 else 0)) ∧ w' = w := by
  have pa : ∀ w, Calls Tryz.prog 119 #[.float .f64 a] w fun e w' => e = .returned (.int .u64 (p : Nat)) ∧ w' = w := by
    intro w; rw [← hp.out]; exact place_any a w ha
  have pb : ∀ w, Calls Tryz.prog 119 #[.float .f64 b] w fun e w' => e = .returned (.int .u64 (q : Nat)) ∧ w' = w := by
    intro w; rw [← hq.out]; exact place_any b w hb
  have PA := hid pa
  have PB := hid pb
  clear pa pb
  by_cases c1 : p < q
  · rw [if_pos c1]
    go_enter Tryz.func74, Tryz.ntmps74
    go_wp2_with fail
    refine (PA.out _).mono ?_
    rintro e w' ⟨rfl, rfl⟩
    go_wp2_with fail
    refine (PB.out _).mono ?_
    rintro e w' ⟨rfl, rfl⟩
    go_wp2
    go_ret
    exact ⟨rfl, rfl⟩
  · rw [if_neg c1]
    by_cases c2 : q < p
    · rw [if_pos c2]
      go_enter Tryz.func74, Tryz.ntmps74
      go_wp2_with fail
      refine (PA.out _).mono ?_
      rintro e w' ⟨rfl, rfl⟩
      go_wp2_with fail
      refine (PB.out _).mono ?_
      rintro e w' ⟨rfl, rfl⟩
      go_wp2
      go_ret
      exact ⟨rfl, rfl⟩
    · rw [if_neg c2]
      go_enter Tryz.func74, Tryz.ntmps74
      go_wp2_with fail
      refine (PA.out _).mono ?_
      rintro e w' ⟨rfl, rfl⟩
      go_wp2_with fail
      refine (PB.out _).mono ?_
      rintro e w' ⟨rfl, rfl⟩
      go_wp2
      go_ret
      exact ⟨rfl, rfl⟩
theorem order_any (a b : Nat) (w : World) (ha : a < 18446744073709551616) (hb : b < 18446744073709551616) :
    Calls Tryz.prog 74 #[.float .f64 a, .float .f64 b] w fun e w' => e = .returned (.int .i64 (orderB a b)) ∧ w' = w :=
  order_at a b (placeB a) (placeB b) w ha hb rfl rfl
theorem orderB_at (a b : Nat) (o : Int) (w : World) (ha : a < 18446744073709551616) (hb : b < 18446744073709551616) (ho : Hid (orderB a b = o)) :
    Calls Tryz.prog 74 #[.float .f64 a, .float .f64 b] w fun e w' => e = .returned (.int .i64 o) ∧ w' = w := by
  rw [← ho.out]; exact order_any a b w ha hb

theorem orderB_lt (a b : Nat) : orderB a b < 0 ↔ placeB a < placeB b := by
  unfold orderB; split
  · simp_all
  · split <;> simp_all
theorem orderB_gt (a b : Nat) : 0 < orderB a b ↔ placeB b < placeB a := by
  unfold orderB; split
  · simp; omega
  · split <;> simp_all


/-- the NaN that an operation without an answer gives: its bits are drawn -/
def nanOf (w : World) (x y : Nat) : Nat := (Question.nanBits .f64 x y).cut (w.tape w.drawn (.nanBits .f64 x y))
theorem nanOf_lt (w : World) (x y : Nat) : nanOf w x y < 18446744073709551616 := by
  unfold nanOf Question.cut
  simp only []
  omega
theorem isN_nanOf (w : World) (x y : Nat) : isN (nanOf w x y) = true := by
  rw [isN_true]
  unfold nanOf Question.cut mg
  simp only []
  generalize w.tape w.drawn (Question.nanBits FloatKind.f64 x y) = t
  have hb : t / 2 % (2 ^ 52 - 1) < 2 ^ 52 - 1 := Nat.mod_lt _ (by omega)
  generalize t / 2 % (2 ^ 52 - 1) = b at *
  have ha : t % 2 = 0 ∨ t % 2 = 1 := by omega
  rcases ha with h | h <;> rw [h] <;> omega
theorem run_nan_sub {P : Program} (w : World) (t : TypeId) (x y : Nat) (h : Ieee.double.sub x y = none) :
    (binOp .sub t (.float .f64 x) (.float .f64 y)).run P w = .ok (.float .f64 (nanOf w x y)) w.drew := by
  have h' : FloatKind.f64.format.sub x y = none := h
  simp [binOp, Op.floatArith, h', nanOf, Question.forced]
end Go.Proofs.YtbibhgikmnpbfaaGreatDoor

namespace Go.Proofs.YtbibhgikmnpbfaaGreatDoor
open Go.RowKit Tf
attribute [local go_sem] run_bits run_from raw_feq raw_fne raw_flt raw_fgt

theorem run_nan_add {P : Program} (w : World) (t : TypeId) (x y : Nat) (h : Ieee.double.add x y = none) :
    (binOp .add t (.float .f64 x) (.float .f64 y)).run P w = .ok (.float .f64 (nanOf w x y)) w.drew := by
  have h' : FloatKind.f64.format.add x y = none := h
  simp [binOp, Op.floatArith, h', nanOf, Question.forced]
theorem run_nan_mul {P : Program} (w : World) (t : TypeId) (x y : Nat) (h : Ieee.double.mul x y = none) :
    (binOp .mul t (.float .f64 x) (.float .f64 y)).run P w = .ok (.float .f64 (nanOf w x y)) w.drew := by
  have h' : FloatKind.f64.format.mul x y = none := h
  simp [binOp, Op.floatArith, h', nanOf, Question.forced]

set_option maxHeartbeats 400000 in
theorem abs_any (x : Nat) (w : World) (hx : x < 18446744073709551616) :
    Calls Tryz.prog 177 #[.float .f64 x] w fun e w' => e = .returned (.float .f64 (mg x)) ∧ w' = w := by
  go_enter Tryz.func177, Tryz.ntmps177
  go_wp2
  go_ret
  refine ⟨ret_flt ?_, rfl⟩
  rw [andNot_sign x hx]; rfl

end Go.Proofs.YtbibhgikmnpbfaaGreatDoor

namespace Go.Proofs.YtbibhgikmnpbfaaGreatDoor
open Go.RowKit Tf
attribute [local go_sem] run_bits run_from raw_feq raw_fne raw_flt raw_fgt run_neg

theorem canon_at (x : Nat) (r : Nat) (w : World) (hx : x < 18446744073709551616) (hr : canonB x = r) :
    Calls Tryz.prog 75 #[.float .f64 x] w fun e w' => e = .returned (.float .f64 r) ∧ w' = w := by
  subst hr; exact canon_any x w hx
theorem ord_at (a b : Nat) (r : Int) (w : World) (ha : a < 18446744073709551616) (hb : b < 18446744073709551616) (hr : orderB a b = r) :
    Calls Tryz.prog 74 #[.float .f64 a, .float .f64 b] w fun e w' => e = .returned (.int .i64 r) ∧ w' = w := by
  subst hr; exact order_any a b w ha hb
end Go.Proofs.YtbibhgikmnpbfaaGreatDoor

namespace Go.Proofs.YtbibhgikmnpbfaaGreatDoor
open Go.RowKit Tf
attribute [local go_sem] run_bits run_from raw_feq raw_fne raw_flt raw_fgt run_neg

/-- one addition, whatever comes of it -/
theorem add_any {P : Program} (w : World) (s q x y : Nat) (h : IsQ s q) (k : IsQ x y) : ∃ r n, (∀ t, (binOp .add t (.float .f64 s) (.float .f64 x)).run P w = .ok (.float .f64 r) (w.drewN n)) ∧ IsQ r (plB q y) := by
  cases e : Ieee.double.add s x with
  | none => exact ⟨nanOf w s x, 1, fun t => run_nan_add w t s x e, h.nan k e (nanOf_lt _ _ _) (isN_nanOf _ _ _)⟩
  | some r => exact ⟨r, 0, fun t => run_float_arith w .add t .f64 s x r e, h.add k e⟩
theorem feq_selfq (x : Nat) (hx : x < 18446744073709551616) : feq x x = !isN x := by
  rw [feq_rk x x hx hx]
  cases isN x <;> simp
set_option maxHeartbeats 1000000 in
theorem oneNaN_at (x q : Nat) (w : World) (h : IsQ x q) :
    Calls Tryz.prog 172 #[.float .f64 x] w fun e w' => e = .returned (.float .f64 q) ∧ w' = w := by
  obtain ⟨h1, h2⟩ := h
  have C := hid (fun w => canon_at x _ w h1 rfl)
  have hf := feq_selfq x h1
  cases hN : isN x
  · rw [hN] at hf
    rw [qB_of hN] at h2
    subst h2
    clear hN h1
    go_enter Tryz.func172, Tryz.ntmps172
    go_wp2
    go_ret
    exact ⟨rfl, rfl⟩
  · rw [hN] at hf
    have hc : canonB x = q := by rw [← h2, qB_N hN]; unfold canonB; rw [hN]; rfl
    rw [hc] at C
    clear hN h1 h2 hc
    go_enter Tryz.func172, Tryz.ntmps172
    go_wp2_with fail
    refine (C.out _).mono ?_
    rintro e w' ⟨rfl, rfl⟩
    go_wp2
    go_ret
    exact ⟨rfl, rfl⟩
/-- A LIST OF FLOATS -/
def IsFl (w : World) (a0 : Option Addr) (len : Nat) (xs : Nat → Nat) : Prop := ∀ k, k < len → xs k < 18446744073709551616 ∧ ∃ b o, a0 = some ⟨b, o, none⟩ ∧ b < w.heap.size ∧ w.cell? ⟨b, o + k, none⟩ = some (.float .f64 (xs k))
theorem IsFl.below {w w' : World} {a0 : Option Addr} {len : Nat} {xs : Nat → Nat} (h : IsFl w a0 len xs) (hb : Below w.heap.size w w') : IsFl w' a0 len xs := by
  intro k hk
  obtain ⟨h1, b, o, h2, h3, h4⟩ := h k hk
  exact ⟨h1, b, o, h2, Nat.lt_of_lt_of_le h3 hb.size, by rw [hb.cell (p := ⟨b, o + k, none⟩) h3]; exact h4⟩
set_option maxHeartbeats 1000000 in
theorem inTurn_none (a0 : Option Addr) (cap : Nat) (w : World) :
    Calls Tryz.prog 162 #[.slice a0 0 cap] w fun e w' => e = .returned (.float .f64 0) ∧ w' = w := by
  go_enter Tryz.func162, Tryz.ntmps162
  go_wp2
  go_ret
  exact ⟨rfl, rfl⟩
set_option maxHeartbeats 2000000 in
theorem inTurn_one (b o cap x q : Nat) (w : World) (_hcap : (1 : Int) ≤ cap) (_hl : (cap : Int) ≤ 9223372036854775807) (h0 : w.cell? ⟨b, o, none⟩ = some (.float .f64 x)) (hx : Hid (IsQ x q)) :
    Calls Tryz.prog 162 #[.slice (some ⟨b, o, none⟩) 1 cap] w fun e w' => e = .returned (.float .f64 q) ∧ ∃ k, w' = w.drewN k := by
  have C := hid (fun w => oneNaN_at x q w hx.out)
  clear hx
  by_cases hc : cap = 1
  · go_enter Tryz.func162, Tryz.ntmps162
    go_wp2
    go_loopw [3, 15] (fun sv iv wr => sv = .float .f64 x ∧ iv = .int .i64 0 ∧ wr = w) (fun _ _ _ => 0)
    case atStart => exact ⟨rfl, rfl, rfl⟩
    case round =>
      obtain ⟨rfl, rfl, rfl⟩ := hrel
      go_wp2_with fail
      refine (C.out _).mono ?_
      rintro e w' ⟨rfl, rfl⟩
      go_wp2
      go_ret
      exact ⟨rfl, 0, rfl⟩
  · go_enter Tryz.func162, Tryz.ntmps162
    go_wp2
    go_loopw [3, 15] (fun sv iv wr => sv = .float .f64 x ∧ iv = .int .i64 0 ∧ wr = w) (fun _ _ _ => 0)
    case atStart => exact ⟨rfl, rfl, rfl⟩
    case round =>
      obtain ⟨rfl, rfl, rfl⟩ := hrel
      go_wp2_with fail
      refine (C.out _).mono ?_
      rintro e w' ⟨rfl, rfl⟩
      go_wp2
      go_ret
      exact ⟨rfl, 0, rfl⟩
set_option maxHeartbeats 4000000 in
theorem inTurn_more (b o n cap : Nat) (xs : Nat → Nat) (w : World) (hn : 1 ≤ n) (hcap : (n : Int) + 1 ≤ cap) (hl : (cap : Int) ≤ 9223372036854775807) (h : Hid (IsFl w (some ⟨b, o, none⟩) (n + 1) xs)) :
    Calls Tryz.prog 162 #[.slice (some ⟨b, o, none⟩) (n + 1 : Nat) cap] w fun e w' => e = .returned (.float .f64 (lfF xs n)) ∧ ∃ k, w' = w.drewN k := by
  have hc1 : ¬ cap = 1 := by omega
  have cells : ∀ k, k < n + 1 → ∀ j, (w.drewN j).cell? ⟨b, o + k, none⟩ = some (.float .f64 (xs k)) := by
    intro k hk j
    obtain ⟨_, b', o', e, _, h3⟩ := h.out k hk
    cases e; exact h3
  have h0 : w.cell? ⟨b, o, none⟩ = some (.float .f64 (xs 0)) := cells 0 (by omega) 0
  have HC := hid cells
  obtain ⟨x0, hx0⟩ : ∃ x, xs 0 = x := ⟨_, rfl⟩
  rw [hx0] at h0
  have HX := hid hx0
  have C := hid (fun x q w => oneNaN_at x q w)
  clear cells hx0
  go_enter Tryz.func162, Tryz.ntmps162
  go_wp2
  go_loopw [3, 15] (fun sv iv wr => ∃ k s j : Nat, k ≤ n ∧ sv = .float .f64 s ∧ iv = .int .i64 (k : Nat) ∧ wr = w.drewN j ∧ Hid (IsQ s (lfF xs k))) (fun _ iv _ => n - (intOf iv).toNat)
  case atStart => exact ⟨0, x0, 0, by omega, rfl, rfl, rfl, by rw [← HX.out]; exact IsQ.self (h.out 0 (by omega)).1⟩
  case round =>
    obtain ⟨k, s, j, hk, rfl, rfl, rfl, hq⟩ := hrel
    by_cases hlt : k < n
    · have cn := HC.out (k + 1) (by omega) j
      have cn' : (w.drewN j).cell? ⟨b, o + 1 + k, none⟩ = some (.float .f64 (xs (k + 1))) := by rw [show o + 1 + k = o + (k + 1) by omega]; exact cn
      obtain ⟨r, m, hr, hrq⟩ := add_any (P := Tryz.prog) (w.drewN j) s _ (xs (k + 1)) _ hq.out (IsQ.self (h.out (k + 1) (by omega)).1)
      rw [plB_qr] at hrq
      obtain ⟨x, hx⟩ : ∃ x, xs (k + 1) = x := ⟨_, rfl⟩
      rw [hx] at cn cn' hr
      have HQ := hid hrq
      have HL := hid hlt
      have kl : ((k : Nat) : Int) < n := by omega
      clear hx hrq hlt hq hk
      go_wp2
      refine ⟨⟨k + 1, r, _, HL.out, rfl, by simp, rfl, HQ.out⟩, by have := HL.out; simp [intOf]; omega⟩
    · have e : k = n := by omega
      subst e
      have kl : decide (((k : Nat) : Int) < (k : Nat)) = false := by simp
      have C' := hid (fun w => C.out s (lfF xs k) w hq.out)
      clear C hq hlt hk
      go_wp2_with fail
      refine (C'.out _).mono ?_
      rintro e w' ⟨rfl, rfl⟩
      go_wp2
      go_ret
      exact ⟨rfl, _, rfl⟩
/-- IN TURN -/
theorem inTurn_at (a0 : Option Addr) (len cap : Nat) (xs : Nat → Nat) (w : World) (hcap : len ≤ cap) (hl : (cap : Int) ≤ 9223372036854775807) (h : IsFl w a0 len xs) :
    Calls Tryz.prog 162 #[.slice a0 len cap] w fun e w' => e = .returned (.float .f64 (leftB xs len)) ∧ ∃ k, w' = w.drewN k := by
  by_cases h0 : len = 0
  · subst h0
    exact (inTurn_none a0 cap w).mono fun e w' ⟨he, hw⟩ => ⟨he, 0, hw⟩
  · obtain ⟨x1, b, o, rfl, _, x3⟩ := h 0 (by omega)
    have e : leftB xs len = lfF xs (len - 1) := by unfold leftB; rw [if_neg h0]
    rw [e]
    by_cases h1 : len = 1
    · subst h1
      exact inTurn_one b o cap (xs 0) _ w (by omega) hl x3 (IsQ.self x1)
    · have := inTurn_more b o (len - 1) cap xs w (by omega) (by omega) hl (by rw [show len - 1 + 1 = len by omega]; exact h)
      rw [show len - 1 + 1 = len by omega] at this
      exact this
end Go.Proofs.YtbibhgikmnpbfaaGreatDoor

namespace Go.Proofs.YtbibhgikmnpbfaaGreatDoor
open Go.RowKit Tf
attribute [local go_sem] run_bits run_from raw_feq raw_fne raw_flt raw_fgt run_neg

/-- a list that was laid just now -/
theorem fl_new (w : World) (T : TypeId) (c : Array Value) (xs : Nat → Nat) (n : Nat) (h : ∀ k, k < n → xs k < 18446744073709551616 ∧ c[k]? = some (.float .f64 (xs k))) : IsFl (w.alloc (.cells c T)) (some ⟨w.heap.size, 0, none⟩) n xs := by
  intro k hk
  refine ⟨(h k hk).1, w.heap.size, 0, rfl, by simp, ?_⟩
  rw [Nat.zero_add]
  have := (h k hk).2
  simp [this]
end Go.Proofs.YtbibhgikmnpbfaaGreatDoor

namespace Go.Proofs.YtbibhgikmnpbfaaGreatDoor
open Go.RowKit Tf
attribute [local go_sem] run_bits run_from raw_feq raw_fne raw_flt raw_fgt run_neg

theorem place_mg (x : Nat) : placeB (mg x) = mg x + 9223372036854775808 := by
  unfold placeB; rw [ng_of_lt (mg_lt x)]; rfl
theorem order_mg (a b : Nat) : orderB (mg a) (mg b) = if mg a < mg b then -1 else if mg b < mg a then 1 else 0 := by
  unfold orderB
  rw [place_mg, place_mg]
  by_cases h1 : mg a < mg b
  · rw [if_pos (by omega), if_pos h1]
  · rw [if_neg (by omega), if_neg h1]
    by_cases h2 : mg b < mg a
    · rw [if_pos (by omega), if_pos h2]
    · rw [if_neg (by omega), if_neg h2]
theorem key_lt (a b : Nat) (ha : a < 18446744073709551616) (hb : b < 18446744073709551616) : key b < key a ↔ mg b < mg a ∨ (mg a = mg b ∧ placeB b < placeB a) := by
  have h1 := word_eq a ha
  have h2 := word_eq b hb
  have h3 := mg_lt a
  have h4 := mg_lt b
  unfold key placeB
  revert h1 h2
  cases ng a <;> cases ng b <;> simp <;> omega
set_option maxHeartbeats 1000000 in
theorem behind_at (a b : Nat) (r : Bool) (w : World) (ha : a < 18446744073709551616) (hb : b < 18446744073709551616) (hr : decide (key b < key a) = r) :
    Calls Tryz.prog 171 #[.float .f64 a, .float .f64 b] w fun e w' => e = .returned (.bool r) ∧ w' = w := by
  have A := hid (fun w => abs_any a w ha)
  have B := hid (fun w => abs_any b w hb)
  have h3 := mg_lt a
  have h4 := mg_lt b
  have O := hid (fun o w h => orderB_at (mg a) (mg b) o w (by omega) (by omega) h)
  have O2 := hid (fun w => orderB_at a b _ w ha hb rfl)
  have hk := key_lt a b ha hb
  have ho := order_mg a b
  by_cases c1 : mg a < mg b
  · rw [if_pos c1] at ho
    have O' := hid (fun w => O.out _ w ho)
    have e : r = false := by rw [← hr]; exact decide_eq_false (fun x => by have := hk.1 x; omega)
    subst e
    clear O O2 hk hr ho c1 h3 h4 ha hb
    generalize mg a = ma at *
    generalize mg b = mb at *
    go_enter Tryz.func171, Tryz.ntmps171
    go_wp2_with fail
    refine (A.out _).mono ?_
    rintro e w' ⟨rfl, rfl⟩
    go_wp2_with fail
    refine (B.out _).mono ?_
    rintro e w' ⟨rfl, rfl⟩
    go_wp2_with fail
    refine (O'.out _).mono ?_
    rintro e w' ⟨rfl, rfl⟩
    go_wp2
    go_ret
    exact ⟨rfl, rfl⟩
  by_cases c2 : mg b < mg a
  · rw [if_neg c1, if_pos c2] at ho
    have O' := hid (fun w => O.out _ w ho)
    have e : r = true := by rw [← hr]; exact decide_eq_true (hk.2 (.inl c2))
    subst e
    clear O O2 hk hr ho c1 c2 h3 h4 ha hb
    generalize mg a = ma at *
    generalize mg b = mb at *
    go_enter Tryz.func171, Tryz.ntmps171
    go_wp2_with fail
    refine (A.out _).mono ?_
    rintro e w' ⟨rfl, rfl⟩
    go_wp2_with fail
    refine (B.out _).mono ?_
    rintro e w' ⟨rfl, rfl⟩
    go_wp2_with fail
    refine (O'.out _).mono ?_
    rintro e w' ⟨rfl, rfl⟩
    go_wp2
    go_ret
    exact ⟨rfl, rfl⟩
  · rw [if_neg c1, if_neg c2] at ho
    have O' := hid (fun w => O.out _ w ho)
    obtain ⟨o, ho2⟩ : ∃ o, orderB a b = o := ⟨_, rfl⟩
    have e : decide (0 < o) = r := by
      rw [← hr, ← ho2]
      refine decide_eq_decide.2 ?_
      rw [orderB_gt, hk]
      constructor
      · intro h; exact .inr ⟨by omega, h⟩
      · rintro (h | h)
        · omega
        · exact h.2
    rw [ho2] at O2
    clear O hk hr ho c1 c2 h3 h4 ha hb ho2
    generalize mg a = ma at *
    generalize mg b = mb at *
    go_enter Tryz.func171, Tryz.ntmps171
    go_wp2_with fail
    refine (A.out _).mono ?_
    rintro e w' ⟨rfl, rfl⟩
    go_wp2_with fail
    refine (B.out _).mono ?_
    rintro e w' ⟨rfl, rfl⟩
    go_wp2_with fail
    refine (O'.out _).mono ?_
    rintro e w' ⟨rfl, rfl⟩
    go_wp2_with fail
    refine (O2.out _).mono ?_
    rintro e w' ⟨rfl, rfl⟩
    go_wp2
    go_ret
    exact ⟨by first | rfl | (rw [← e]; try rfl) | skip, rfl⟩
set_option maxHeartbeats 1000000 in
theorem lesser_at (a b : Nat) (w : World) (ha : a < 18446744073709551616) (hb : b < 18446744073709551616) :
    Calls Tryz.prog 161 #[.float .f64 a, .float .f64 b] w fun e w' => e = .returned (.tuple #[.float .f64 (loB a b), .float .f64 (hiB a b)]) ∧ w' = w := by
  have B := hid (fun w => behind_at a b _ w ha hb rfl)
  unfold loB hiB
  by_cases c : key b < key a
  · rw [if_pos c, if_pos c]
    rw [decide_eq_true c] at B
    clear c
    go_enter Tryz.func161, Tryz.ntmps161
    go_wp2_with fail
    refine (B.out _).mono ?_
    rintro e w' ⟨rfl, rfl⟩
    go_wp2
    go_ret2
    exact ⟨rfl, rfl⟩
  · rw [if_neg c, if_neg c]
    rw [decide_eq_false c] at B
    clear c
    go_enter Tryz.func161, Tryz.ntmps161
    go_wp2_with fail
    refine (B.out _).mono ?_
    rintro e w' ⟨rfl, rfl⟩
    go_wp2
    go_ret2
    exact ⟨rfl, rfl⟩
theorem lo_lt {a b : Nat} (ha : a < 18446744073709551616) (hb : b < 18446744073709551616) : loB a b < 18446744073709551616 := by unfold loB; split <;> assumption
theorem hi_lt {a b : Nat} (ha : a < 18446744073709551616) (hb : b < 18446744073709551616) : hiB a b < 18446744073709551616 := by unfold hiB; split <;> assumption
set_option maxHeartbeats 2000000 in
theorem three_go (a b c a1 b1 b2 c2 a3 b3 r : Nat) (w : World)
    (L1 : Hid (∀ w, Calls Tryz.prog 161 #[.float .f64 a, .float .f64 b] w fun e w' => e = .returned (.tuple #[.float .f64 a1, .float .f64 b1]) ∧ w' = w))
    (L2 : Hid (∀ w, Calls Tryz.prog 161 #[.float .f64 b1, .float .f64 c] w fun e w' => e = .returned (.tuple #[.float .f64 b2, .float .f64 c2]) ∧ w' = w))
    (L3 : Hid (∀ w, Calls Tryz.prog 161 #[.float .f64 a1, .float .f64 b2] w fun e w' => e = .returned (.tuple #[.float .f64 a3, .float .f64 b3]) ∧ w' = w))
    (T : Hid (Calls Tryz.prog 162 #[.slice (some ⟨w.heap.size, 0, none⟩) 3 3] (w.alloc (.cells #[.float .f64 a3, .float .f64 b3, .float .f64 c2] 47)) fun e w' => e = .returned (.float .f64 r) ∧ Hid (Below w.heap.size w w'))) :
    Calls Tryz.prog 132 #[.float .f64 a, .float .f64 b, .float .f64 c] w fun e w' => e = .returned (.float .f64 r) ∧ Hid (Below w.heap.size w w') := by
  go_enter Tryz.func132, Tryz.ntmps132
  go_wp2_with fail
  refine (L1.out _).mono ?_
  rintro e w' ⟨rfl, rfl⟩
  go_wp2_with fail
  refine (L2.out _).mono ?_
  rintro e w' ⟨rfl, rfl⟩
  go_wp2_with fail
  refine (L3.out _).mono ?_
  rintro e w' ⟨rfl, rfl⟩
  go_wp2_with fail
  refine T.out.mono ?_
  rintro e w' ⟨rfl, hb⟩
  go_wp2
  go_ret
  exact ⟨rfl, hb⟩
/-- THREE -/
theorem three_at (a b c : Nat) (w : World) (ha : a < 18446744073709551616) (hb : b < 18446744073709551616) (hc : c < 18446744073709551616) :
    Calls Tryz.prog 132 #[.float .f64 a, .float .f64 b, .float .f64 c] w fun e w' => e = .returned (.float .f64 (thB a b c)) ∧ Hid (Below w.heap.size w w') := by
  have l1 := lo_lt ha hb
  have l2 := hi_lt ha hb
  have l3 := lo_lt l2 hc
  have l4 := hi_lt l2 hc
  refine three_go a b c _ _ _ _ _ _ _ w (fun w => lesser_at a b w ha hb) (fun w => lesser_at _ c w l2 hc) (fun w => lesser_at _ _ w l1 l3) ?_
  have l5 := lo_lt l1 l3
  have l6 := hi_lt l1 l3
  unfold thB
  generalize loB (loB a b) (loB (hiB a b) c) = u at *
  generalize hiB (loB a b) (loB (hiB a b) c) = v at *
  generalize hiB (hiB a b) c = z at *
  have hf : IsFl (w.alloc (.cells #[.float .f64 u, .float .f64 v, .float .f64 z] 47)) (some ⟨w.heap.size, 0, none⟩) 3 (fun j => if j = 0 then u else if j = 1 then v else z) := by
    refine fl_new w _ _ _ 3 (fun k hk => ?_)
    rcases (show k = 0 ∨ k = 1 ∨ k = 2 by omega) with rfl | rfl | rfl
    · exact ⟨l5, rfl⟩
    · exact ⟨l6, rfl⟩
    · exact ⟨l4, rfl⟩
  refine (inTurn_at _ 3 3 _ _ (Nat.le_refl _) (by decide) hf).mono ?_
  rintro e w' ⟨he, k, rfl⟩
  refine ⟨?_, below_drewN ((Below.refl _ _).alloc (Nat.le_refl _) _) k⟩
  rw [he]
  have : leftB (fun j => if j = 0 then u else if j = 1 then v else z) 3 = plB (plB (qB u) v) z := rfl
  rw [this, plB_ql]
end Go.Proofs.YtbibhgikmnpbfaaGreatDoor

namespace Go.Proofs.YtbibhgikmnpbfaaGreatDoor
open Go.RowKit Tf
attribute [local go_sem] run_bits run_from raw_feq raw_fne raw_flt raw_fgt run_neg

set_option maxHeartbeats 400000 in
theorem rawBits_any (x : Nat) (w : World) :
    Calls Tryz.prog 122 #[.float .f64 x] w fun e w' => e = .returned (.int .u64 (x : Nat)) ∧ w' = w := by
  go_enter Tryz.func122, Tryz.ntmps122
  go_wp2
  go_ret
  exact ⟨rfl, rfl⟩
end Go.Proofs.YtbibhgikmnpbfaaGreatDoor

namespace Go.Proofs.YtbibhgikmnpbfaaGreatDoor
open Go.RowKit Tf
attribute [local go_sem] run_bits run_from raw_feq raw_fne raw_flt raw_fgt run_neg
theorem from_at (n : Int) (r : Nat) (w : World) (h : n.toNat = r) :
    Calls Tryz.prog 102 #[.int .u64 n] w fun e w' => e = .returned (.float .f64 r) ∧ w' = w := by
  subst h; exact from_any n w
set_option maxHeartbeats 1000000 in
set_option maxRecDepth 100000 in
theorem refMag_any (x : Nat) (w : World) :
    Calls Tryz.prog 126 #[.float .f64 x] w fun e w' => e = .returned (.int .u64 (mg x : Nat)) ∧ w' = w := by
  go_enter Tryz.func126, Tryz.ntmps126
  go_wp2_with fail
  refine (rawBits_any x _).mono ?_
  rintro e w' ⟨rfl, rfl⟩
  go_wp2
  go_ret
  exact ⟨ret_int (by unfold mg; omega), rfl⟩

theorem refMag_at (x m : Nat) (w : World) (hm : Hid (mg x = m)) :
    Calls Tryz.prog 126 #[.float .f64 x] w fun e w' => e = .returned (.int .u64 (m : Nat)) ∧ w' = w := by
  rw [← hm.out]; exact refMag_any x w
set_option maxHeartbeats 1000000 in
set_option maxRecDepth 100000 in
theorem refBelow_any (x : Nat) (w : World) :
    Calls Tryz.prog 123 #[.float .f64 x] w fun e w' => e = .returned (.bool (ng x)) ∧ w' = w := by
  go_enter Tryz.func123, Tryz.ntmps123
  go_wp2_with fail
  refine (rawBits_any x _).mono ?_
  rintro e w' ⟨rfl, rfl⟩
  go_wp2
  go_ret
  exact ⟨ret_bool (by unfold ng; exact decide_eq_decide.2 (by omega)), rfl⟩

set_option maxHeartbeats 1000000 in
set_option maxRecDepth 100000 in
theorem refNone_any (x : Nat) (w : World) :
    Calls Tryz.prog 124 #[.float .f64 x] w fun e w' => e = .returned (.bool (isN x)) ∧ w' = w := by
  go_enter Tryz.func124, Tryz.ntmps124
  go_wp2_with fail
  refine (refMag_any x _).mono ?_
  rintro e w' ⟨rfl, rfl⟩
  go_wp2
  go_ret
  exact ⟨ret_bool (by unfold isN; exact decide_eq_decide.2 (by omega)), rfl⟩

set_option maxHeartbeats 1000000 in
set_option maxRecDepth 100000 in
theorem refQuiet_any (w : World) :
    Calls Tryz.prog 125 #[] w fun e w' => e = .returned (.float .f64 quiet) ∧ w' = w := by
  go_enter Tryz.func125, Tryz.ntmps125
  go_wp2_with fail
  refine (from_at 9221120237041090561 9221120237041090561 _ (by decide)).mono ?_
  rintro e w' ⟨rfl, rfl⟩
  go_wp2
  go_ret
  exact ⟨rfl, rfl⟩

set_option maxHeartbeats 1000000 in
set_option maxRecDepth 100000 in
theorem refCanon_any (x : Nat) (w : World) :
    Calls Tryz.prog 81 #[.float .f64 x] w fun e w' => e = .returned (.float .f64 (canonB x)) ∧ w' = w := by
  obtain ⟨m, hm⟩ : ∃ m, mg x = m := ⟨_, rfl⟩
  obtain ⟨r, hr⟩ : ∃ r, canonB x = r := ⟨_, rfl⟩
  have HM := hid hm
  have HR : Hid (r = if isN x then quiet else if m = 0 then 0 else x) := by show r = _; rw [← hr, ← hm]; rfl
  rw [hr]
  clear hr hm
  cases nN : isN x
  · have h := HR.out
    rw [nN, if_neg (by decide)] at h
    by_cases c : m = 0
    · rw [if_pos c] at h
      subst h
      subst c
      clear HR
      go_enter Tryz.func81, Tryz.ntmps81
      go_wp2_with fail
      refine (refNone_any x _).mono ?_
      rintro e w' ⟨rfl, rfl⟩
      go_wp2_with fail
      refine (refMag_at x _ _ HM).mono ?_
      rintro e w' ⟨rfl, rfl⟩
      go_wp2_with fail
      refine (from_at 0 0 _ (by decide)).mono ?_
      rintro e w' ⟨rfl, rfl⟩
      go_wp2
      go_ret
      exact ⟨rfl, rfl⟩
    · rw [if_neg c] at h
      rw [h]
      have e0 : ((m : Int) == 0) = false := by simp; omega
      clear HR h
      go_enter Tryz.func81, Tryz.ntmps81
      go_wp2_with fail
      refine (refNone_any x _).mono ?_
      rintro e w' ⟨rfl, rfl⟩
      go_wp2_with fail
      refine (refMag_at x _ _ HM).mono ?_
      rintro e w' ⟨rfl, rfl⟩
      go_wp2
      go_ret
      exact ⟨rfl, rfl⟩
  · have h := HR.out
    rw [nN, if_pos rfl] at h
    rw [h]
    clear HR h
    go_enter Tryz.func81, Tryz.ntmps81
    go_wp2_with fail
    refine (refNone_any x _).mono ?_
    rintro e w' ⟨rfl, rfl⟩
    go_wp2_with fail
    refine (refQuiet_any _).mono ?_
    rintro e w' ⟨rfl, rfl⟩
    go_wp2
    go_ret
    exact ⟨rfl, rfl⟩

end Go.Proofs.YtbibhgikmnpbfaaGreatDoor

namespace Go.Proofs.YtbibhgikmnpbfaaGreatDoor
open Go.RowKit Tf
attribute [local go_sem] run_bits run_from raw_feq raw_fne raw_flt raw_fgt run_neg

set_option maxHeartbeats 1000000 in
set_option maxRecDepth 100000 in
theorem refOrder_any (a b : Nat) (w : World) (ha : a < 18446744073709551616) (hb : b < 18446744073709551616) :
    Calls Tryz.prog 80 #[.float .f64 a, .float .f64 b] w fun e w' => e = .returned (.int .i64 (orderB a b)) ∧ w' = w := by
  obtain ⟨o, ho⟩ : ∃ o, orderB a b = o := ⟨_, rfl⟩
  rw [ho]
  by_cases c : a = b
  · have h : o = 0 := by rw [← ho, c]; unfold orderB; rw [if_neg (by omega), if_neg (by omega)]
    have e : ((a : Int) == (b : Int)) = true := by simp; omega
    rw [h]
    clear h ho
    subst c
    go_enter Tryz.func80, Tryz.ntmps80
    go_wp2_with fail
    refine (rawBits_any _ _).mono ?_
    rintro e w' ⟨rfl, rfl⟩
    go_wp2_with fail
    refine (rawBits_any _ _).mono ?_
    rintro e w' ⟨rfl, rfl⟩
    go_wp2
    go_ret
    exact ⟨rfl, rfl⟩
  · have e : ((a : Int) == (b : Int)) = false := by simp; omega
    cases hna : ng a
    · have la := lt_of_ng hna
      cases hnb : ng b
      · have lb := lt_of_ng hnb
        by_cases c2 : a < b
        · have h : o = -1 := by rw [← ho]; unfold orderB placeB; rw [hna, hnb]; simp only [Bool.false_eq_true, if_false]; rw [if_pos (by omega)]
          rw [h]
          clear h ho
          go_enter Tryz.func80, Tryz.ntmps80
          go_wp2_with fail
          refine (rawBits_any a _).mono ?_
          rintro e w' ⟨rfl, rfl⟩
          go_wp2_with fail
          refine (rawBits_any b _).mono ?_
          rintro e w' ⟨rfl, rfl⟩
          go_wp2_with fail
          refine (refBelow_any a _).mono ?_
          rintro e w' ⟨rfl, rfl⟩
          go_wp2_with fail
          refine (refBelow_any a _).mono ?_
          rintro e w' ⟨rfl, rfl⟩
          go_wp2_with fail
          refine (refBelow_any b _).mono ?_
          rintro e w' ⟨rfl, rfl⟩
          go_wp2
          go_ret
          exact ⟨rfl, rfl⟩
        · have h : o = 1 := by rw [← ho]; unfold orderB placeB; rw [hna, hnb]; simp only [Bool.false_eq_true, if_false]; rw [if_neg (by omega), if_pos (by omega)]
          rw [h]
          clear h ho
          go_enter Tryz.func80, Tryz.ntmps80
          go_wp2_with fail
          refine (rawBits_any a _).mono ?_
          rintro e w' ⟨rfl, rfl⟩
          go_wp2_with fail
          refine (rawBits_any b _).mono ?_
          rintro e w' ⟨rfl, rfl⟩
          go_wp2_with fail
          refine (refBelow_any a _).mono ?_
          rintro e w' ⟨rfl, rfl⟩
          go_wp2_with fail
          refine (refBelow_any a _).mono ?_
          rintro e w' ⟨rfl, rfl⟩
          go_wp2_with fail
          refine (refBelow_any b _).mono ?_
          rintro e w' ⟨rfl, rfl⟩
          go_wp2
          go_ret
          exact ⟨rfl, rfl⟩
      · have lb := ge_of_ng hnb
        have h : o = 1 := by rw [← ho]; unfold orderB placeB; rw [hna, hnb]; simp only [Bool.false_eq_true, if_false, if_true]; rw [if_neg (by omega), if_pos (by omega)]
        rw [h]
        clear h ho
        go_enter Tryz.func80, Tryz.ntmps80
        go_wp2_with fail
        refine (rawBits_any a _).mono ?_
        rintro e w' ⟨rfl, rfl⟩
        go_wp2_with fail
        refine (rawBits_any b _).mono ?_
        rintro e w' ⟨rfl, rfl⟩
        go_wp2_with fail
        refine (refBelow_any a _).mono ?_
        rintro e w' ⟨rfl, rfl⟩
        go_wp2_with fail
        refine (refBelow_any a _).mono ?_
        rintro e w' ⟨rfl, rfl⟩
        go_wp2_with fail
        refine (refBelow_any b _).mono ?_
        rintro e w' ⟨rfl, rfl⟩
        go_wp2
        go_ret
        exact ⟨rfl, rfl⟩
    · have la := ge_of_ng hna
      cases hnb : ng b
      · have lb := lt_of_ng hnb
        have h : o = -1 := by rw [← ho]; unfold orderB placeB; rw [hna, hnb]; simp only [Bool.false_eq_true, if_false, if_true]; rw [if_pos (by omega)]
        rw [h]
        clear h ho
        go_enter Tryz.func80, Tryz.ntmps80
        go_wp2_with fail
        refine (rawBits_any a _).mono ?_
        rintro e w' ⟨rfl, rfl⟩
        go_wp2_with fail
        refine (rawBits_any b _).mono ?_
        rintro e w' ⟨rfl, rfl⟩
        go_wp2_with fail
        refine (refBelow_any a _).mono ?_
        rintro e w' ⟨rfl, rfl⟩
        go_wp2_with fail
        refine (refBelow_any b _).mono ?_
        rintro e w' ⟨rfl, rfl⟩
        go_wp2_with fail
        refine (refBelow_any a _).mono ?_
        rintro e w' ⟨rfl, rfl⟩
        go_wp2
        go_ret
        exact ⟨rfl, rfl⟩
      · have lb := ge_of_ng hnb
        by_cases c2 : b < a
        · have h : o = -1 := by rw [← ho]; unfold orderB placeB; rw [hna, hnb]; simp only [if_true]; rw [if_pos (by omega)]
          rw [h]
          clear h ho
          go_enter Tryz.func80, Tryz.ntmps80
          go_wp2_with fail
          refine (rawBits_any a _).mono ?_
          rintro e w' ⟨rfl, rfl⟩
          go_wp2_with fail
          refine (rawBits_any b _).mono ?_
          rintro e w' ⟨rfl, rfl⟩
          go_wp2_with fail
          refine (refBelow_any a _).mono ?_
          rintro e w' ⟨rfl, rfl⟩
          go_wp2_with fail
          refine (refBelow_any b _).mono ?_
          rintro e w' ⟨rfl, rfl⟩
          go_wp2
          go_ret
          exact ⟨rfl, rfl⟩
        · have h : o = 1 := by rw [← ho]; unfold orderB placeB; rw [hna, hnb]; simp only [if_true]; rw [if_neg (by omega), if_pos (by omega)]
          rw [h]
          clear h ho
          go_enter Tryz.func80, Tryz.ntmps80
          go_wp2_with fail
          refine (rawBits_any a _).mono ?_
          rintro e w' ⟨rfl, rfl⟩
          go_wp2_with fail
          refine (rawBits_any b _).mono ?_
          rintro e w' ⟨rfl, rfl⟩
          go_wp2_with fail
          refine (refBelow_any a _).mono ?_
          rintro e w' ⟨rfl, rfl⟩
          go_wp2_with fail
          refine (refBelow_any b _).mono ?_
          rintro e w' ⟨rfl, rfl⟩
          go_wp2
          go_ret
          exact ⟨rfl, rfl⟩

end Go.Proofs.YtbibhgikmnpbfaaGreatDoor
