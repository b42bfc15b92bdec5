/-
  What the reference's parts, power and shifted of layer 3 return: walks over the program.
-/
import Derived.Test.YtflkbjcaajchjaaTi
namespace Go.Proofs.Ytflkbjcaajchjaa
open Go.RowKit Tf
attribute [local go_sem] run_bits run_from raw_feq raw_fne raw_flt raw_fgt run_neg

/-- a magnitude's whole number and exponent -/
def pm (m : Nat) : Nat := if m < 4503599627370496 then m else m % 4503599627370496 + 4503599627370496
def pk (m : Nat) : Nat := m / 4503599627370496 - 1
theorem pm_lt (m : Nat) : pm m < 9007199254740992 := by unfold pm; split <;> omega
theorem pm_pk (m : Nat) : mv m = pm m * 2 ^ pk m := by
  have e : (2 : Nat) ^ 52 = 4503599627370496 := by decide
  unfold mv mag pm pk
  rw [e]
  by_cases c : m < 4503599627370496
  · rw [if_pos c, if_pos c, show m / 4503599627370496 - 1 = 0 by omega]; omega
  · rw [if_neg c, if_neg c, Nat.add_comm]

set_option maxHeartbeats 1000000 in
theorem rparts_sub (x : Nat) (m : Int) (w : World) (M : Hid (∀ w, Calls Try.prog 39 #[.float .f64 x] w fun e w' => e = .returned (.int .u64 m) ∧ w' = w)) (h0 : 0 ≤ m) (h1 : m < 4503599627370496) :
    Calls Try.prog 41 #[.float .f64 x] w fun e w' => e = .returned (.tuple #[.int .u64 (m % 4503599627370496), .int .i64 (-1074)]) ∧ w' = w := by
  go_enter Try.func41, Try.ntmps41
  go_wp2_with fail
  refine (M.out _).mono ?_
  rintro e w' ⟨rfl, rfl⟩
  go_wp2
  go_ret2
  exact ⟨rfl, rfl⟩
set_option maxHeartbeats 1000000 in
theorem rparts_norm (x : Nat) (m : Int) (w : World) (M : Hid (∀ w, Calls Try.prog 39 #[.float .f64 x] w fun e w' => e = .returned (.int .u64 m) ∧ w' = w)) (h0 : 4503599627370496 ≤ m) (h1 : m < 9218868437227405312) :
    Calls Try.prog 41 #[.float .f64 x] w fun e w' => e = .returned (.tuple #[.int .u64 (m % 4503599627370496 + 4503599627370496), .int .i64 (m / 4503599627370496 - 1075)]) ∧ w' = w := by
  go_enter Try.func41, Try.ntmps41
  go_wp2_with fail
  refine (M.out _).mono ?_
  rintro e w' ⟨rfl, rfl⟩
  go_wp2
  go_ret2
  exact ⟨rfl, rfl⟩

theorem rparts_at (x : Nat) (M E : Int) (w : World) (hl : mg x < 9218868437227405312) (hM : Hid ((pm (mg x) : Int) = M)) (hE : Hid ((pk (mg x) : Int) - 1074 = E)) :
    Calls Try.prog 41 #[.float .f64 x] w fun e w' => e = .returned (.tuple #[.int .u64 M, .int .i64 E]) ∧ w' = w := by
  rw [← hM.out, ← hE.out]
  have H : Hid (∀ w, Calls Try.prog 39 #[.float .f64 x] w fun e w' => e = .returned (.int .u64 (mg x : Nat)) ∧ w' = w) := fun w => refMag_any x w
  generalize mg x = m at *
  unfold pm pk
  by_cases c : m < 4503599627370496
  · have h := rparts_sub x m w H (by omega) (by omega)
    have e1 : ((m : Int) % 4503599627370496) = (m : Nat) := by omega
    have e2 : (((m / 4503599627370496 - 1 : Nat) : Int) - 1074) = -1074 := by omega
    rw [e1] at h
    rw [if_pos c, e2]; exact h
  · have h := rparts_norm x m w H (by omega) (by omega)
    have e1 : ((m : Int) % 4503599627370496 + 4503599627370496) = ((m % 4503599627370496 + 4503599627370496 : Nat) : Int) := by omega
    have e2 : ((m : Int) / 4503599627370496 - 1075) = (((m / 4503599627370496 - 1 : Nat) : Int) - 1074) := by omega
    rw [e1, e2] at h
    rw [if_neg c]; exact h

set_option maxHeartbeats 1000000 in
theorem shifted_pos (m n : Int) (w : World) (h0 : 0 ≤ n) (h1 : n < 64) :
    Calls Try.prog 42 #[.int .u64 m, .int .i64 n, .bool false] w fun e w' => e = .returned (.int .u64 (IntKind.u64.wrap (m * 2 ^ n.toNat))) ∧ w' = w := by
  go_enter Try.func42, Try.ntmps42
  go_wp2
  go_ret
  exact ⟨rfl, rfl⟩
set_option maxHeartbeats 1000000 in
theorem shifted_neg (m n : Int) (w : World) (h0 : 0 ≤ n) (h1 : n < 64) :
    Calls Try.prog 42 #[.int .u64 m, .int .i64 n, .bool true] w fun e w' => e = .returned (.int .u64 (IntKind.u64.wrap (-IntKind.u64.wrap (m * 2 ^ n.toNat)))) ∧ w' = w := by
  go_enter Try.func42, Try.ntmps42
  go_wp2
  go_ret
  exact ⟨rfl, rfl⟩
set_option maxHeartbeats 1000000 in
theorem shifted_far (m n : Int) (b : Bool) (w : World) (h1 : 64 ≤ n) :
    Calls Try.prog 42 #[.int .u64 m, .int .i64 n, .bool b] w fun e w' => e = .returned (.int .u64 0) ∧ w' = w := by
  cases b
  · go_enter Try.func42, Try.ntmps42
    go_wp2
    go_ret
    exact ⟨rfl, rfl⟩
  · go_enter Try.func42, Try.ntmps42
    go_wp2
    go_ret
    exact ⟨rfl, rfl⟩
set_option maxHeartbeats 1000000 in
theorem power_norm (n : Int) (w : World) (h0 : -1022 ≤ n) (h1 : n ≤ 1023) :
    Calls Try.prog 44 #[.int .i64 n] w fun e w' => e = .returned (.float .f64 ((n + 1023) * 4503599627370496).toNat) ∧ w' = w := by
  go_enter Try.func44, Try.ntmps44
  go_wp2_with fail
  refine (from_at _ _ _ rfl).mono ?_
  rintro e w' ⟨rfl, rfl⟩
  go_wp2
  go_ret
  exact ⟨rfl, rfl⟩
set_option maxHeartbeats 1000000 in
theorem power_sub (n : Int) (w : World) (h0 : -1074 ≤ n) (h1 : n < -1022) :
    Calls Try.prog 44 #[.int .i64 n] w fun e w' => e = .returned (.float .f64 (IntKind.u64.wrap (2 ^ (n + 1074).toNat)).toNat) ∧ w' = w := by
  go_enter Try.func44, Try.ntmps44
  go_wp2_with fail
  refine (from_at _ _ _ rfl).mono ?_
  rintro e w' ⟨rfl, rfl⟩
  go_wp2
  go_ret
  exact ⟨rfl, rfl⟩

theorem u64w (v : Int) : IntKind.u64.wrap v = v % 18446744073709551616 := by
  simp [IntKind.wrap, IntKind.bits, IntKind.signed]
/-- m * 2 ^ n or its opposite, modulo 2 ^ 64 -/
def sh (m n : Int) (b : Bool) : Int := (if b then -(m * ((2 ^ n.toNat : Nat) : Int)) else m * ((2 ^ n.toNat : Nat) : Int)) % 18446744073709551616
theorem cast_pow (k : Nat) : ((2 : Int) ^ k) = ((2 ^ k : Nat) : Int) := by rw [Int.natCast_pow]; rfl
theorem sh_far (m n : Int) (b : Bool) (h : 64 ≤ n) : sh m n b = 0 := by
  have e : m * ((2 ^ n.toNat : Nat) : Int) = m * ((2 ^ (n.toNat - 64) : Nat) : Int) * 18446744073709551616 := by
    have : n.toNat = (n.toNat - 64) + 64 := by omega
    rw [Int.mul_assoc]
    have e2 : ((2 ^ n.toNat : Nat) : Int) = ((2 ^ (n.toNat - 64) : Nat) : Int) * 18446744073709551616 := by
      have h3 : (18446744073709551616 : Int) = ((2 ^ 64 : Nat) : Int) := by decide
      rw [h3, ← Int.natCast_mul, ← Nat.pow_add, ← this]
    rw [e2]
  unfold sh
  rw [e]
  generalize m * ((2 ^ (n.toNat - 64) : Nat) : Int) = z
  cases b <;> simp <;> omega
theorem shifted_at (m n : Int) (b : Bool) (r : Int) (w : World) (h0 : 0 ≤ n) (hr : sh m n b = r) :
    Calls Try.prog 42 #[.int .u64 m, .int .i64 n, .bool b] w fun e w' => e = .returned (.int .u64 r) ∧ w' = w := by
  by_cases c : n < 64
  · cases b
    · have h := shifted_pos m n w h0 c
      have e : IntKind.u64.wrap (m * 2 ^ n.toNat) = r := by rw [← hr, u64w, cast_pow]; rfl
      rwa [e] at h
    · have h := shifted_neg m n w h0 c
      have e : IntKind.u64.wrap (-IntKind.u64.wrap (m * 2 ^ n.toNat)) = r := by
        rw [← hr, u64w, u64w, cast_pow]
        unfold sh
        generalize m * ((2 ^ n.toNat : Nat) : Int) = z
        simp; omega
      rwa [e] at h
  · rw [← hr, sh_far m n b (by omega)]
    exact shifted_far m n b w (by omega)
/-- the float 2 ^ n -/
def powB (n : Int) : Nat := if -1022 ≤ n then ((n + 1023) * 4503599627370496).toNat else 2 ^ (n + 1074).toNat
theorem power_at (n : Int) (r : Nat) (w : World) (h0 : -1074 ≤ n) (h1 : n ≤ 1023) (hr : powB n = r) :
    Calls Try.prog 44 #[.int .i64 n] w fun e w' => e = .returned (.float .f64 r) ∧ w' = w := by
  subst hr
  unfold powB
  by_cases c : -1022 ≤ n
  · rw [if_pos c]; exact power_norm n w c h1
  · rw [if_neg c]
    have h := power_sub n w h0 (by omega)
    have e : (IntKind.u64.wrap (2 ^ (n + 1074).toNat)).toNat = 2 ^ (n + 1074).toNat := by
      have hl : 2 ^ (n + 1074).toNat ≤ 2 ^ 52 := Nat.pow_le_pow_right (by omega) (by omega)
      rw [u64w, cast_pow]
      generalize 2 ^ (n + 1074).toNat = z at *
      omega
    rwa [e] at h
theorem powB_mv (n : Int) (h0 : -1074 ≤ n) (h1 : n ≤ 1023) : mv (powB n) = 2 ^ (n + 1074).toNat ∧ powB n < 9218868437227405312 := by
  unfold powB
  by_cases c : -1022 ≤ n
  · rw [if_pos c]
    refine ⟨?_, by omega⟩
    have e : (n + 1074).toNat = 52 + (n + 1022).toNat := by omega
    rw [e]
    refine mv_two_pow (n + 1022).toNat _ ?_
    have e52 : (2 : Nat) ^ 52 = 4503599627370496 := by decide
    rw [e52]
    omega
  · rw [if_neg c]
    have hl : 2 ^ (n + 1074).toNat ≤ 2 ^ 51 := Nat.pow_le_pow_right (by omega) (by omega)
    refine ⟨?_, by omega⟩
    unfold mv mag
    rw [if_pos (by omega)]
end Go.Proofs.Ytflkbjcaajchjaa
