/-
  What From16 of package conv returns: walks over the program.
-/
import Derived.Test.YtpncpbpdbdlamaaWi
import Derived.Test.YtpncpbpdbdlamaaPy
namespace Go.Proofs.Ytpncpbpdbdlamaa
open Go.RowKit Tf
attribute [local go_sem] run_bits run_from raw_feq raw_fne raw_flt raw_fgt run_neg

theorem and1023 (b : Int) (h0 : 0 ≤ b) (h1 : b < 65536) : bits .and .u16 b 1023 = b % 1024 := by go_bits2
theorem andNot16 (b : Int) (h0 : 0 ≤ b) (h1 : b < 65536) : bits .andNot .u16 b 32768 = b % 32768 := by go_bits2
theorem and16 (b : Int) (h0 : 0 ≤ b) (h1 : b < 65536) : bits .and .u16 b 32768 = b - b % 32768 := by go_bits2

set_option maxHeartbeats 1000000 in
theorem mNaN_any (w : World) : Calls Try.prog 56 #[] w fun e w' => e = .returned (.float .f64 quiet) ∧ w' = w := by
  go_enter Try.func56, Try.ntmps56
  go_wp2
  go_ret
  exact ⟨rfl, rfl⟩

set_option maxHeartbeats 1000000 in
theorem mInf_any (w : World) : Calls Try.prog 57 #[.int .i64 1] w fun e w' => e = .returned (.float .f64 9218868437227405312) ∧ w' = w := by
  go_enter Try.func57, Try.ntmps57
  go_wp2
  go_ret
  exact ⟨rfl, rfl⟩

set_option maxHeartbeats 2000000 in
theorem mag16_nan (b : Int) (w : World) (h : 31744 < b) : Calls Try.prog 48 #[.int .u16 b] w fun e w' => e = .returned (.float .f64 quiet) ∧ w' = w := by
  go_enter Try.func48, Try.ntmps48
  go_wp2_with fail
  refine (mNaN_any _).mono ?_
  rintro e w' ⟨rfl, rfl⟩
  go_wp2
  go_ret
  exact ⟨rfl, rfl⟩

set_option maxHeartbeats 2000000 in
theorem mag16_inf (w : World) : Calls Try.prog 48 #[.int .u16 31744] w fun e w' => e = .returned (.float .f64 9218868437227405312) ∧ w' = w := by
  go_enter Try.func48, Try.ntmps48
  go_wp2_with fail
  refine (mInf_any _).mono ?_
  rintro e w' ⟨rfl, rfl⟩
  go_wp2
  go_ret
  exact ⟨rfl, rfl⟩

set_option maxHeartbeats 2000000 in
theorem mag16_low (b : Int) (f y : Nat) (w : World) (h : b < 1024) (hf : floatOfInt .f64 b = f) (hd : floatBits .quo .f64 f 4715268809856909312 = some y) : Calls Try.prog 48 #[.int .u16 b] w fun e w' => e = .returned (.float .f64 y) ∧ w' = w := by
  have hq := fun (t : TypeId) (w : World) => run_float_arith (P := Try.prog) w .quo t .f64 f 4715268809856909312 y hd
  have hcv := fun (w : World) => run_convert_int_float (P := Try.prog) w 26 24 .u16 .f64 b (by kernel_rfl) (by kernel_rfl)
  rw [hf] at hcv
  clear hd hf
  go_enter Try.func48, Try.ntmps48
  go_wp2
  go_loop [25, 5] (fun a c => a = .int .u16 0 ∧ c = .float .f64 y) (fun _ _ => 0)
  case atStart => exact ⟨rfl, rfl⟩
  case round =>
    obtain ⟨rfl, rfl⟩ := hrel
    go_wp2
    go_ret
    exact ⟨rfl, rfl⟩
set_option maxHeartbeats 2000000 in
theorem mag16_high (b s : Int) (n f : Nat) (Y : Nat → Nat) (w : World) (b0 : ¬ b < 1024) (b1 : b < 31744) (s0 : 1024 ≤ s) (s1 : s ≤ 2047) (n1 : n ≤ 29) (a1 : bits .and .u16 b 1023 = s - 1024) (a3 : b / 1024 = (n : Int) + 1) (hf : floatOfInt .f64 s = f) (hd : floatBits .quo .f64 f 4715268809856909312 = some (Y 0))
    (hs : ∀ k, k < n → floatBits .mul .f64 (Y k) 4611686018427387904 = some (Y (k + 1))) : Calls Try.prog 48 #[.int .u16 b] w fun e w' => e = .returned (.float .f64 (Y n)) ∧ w' = w := by
  have hq := fun (t : TypeId) (w : World) => run_float_arith (P := Try.prog) w .quo t .f64 f 4715268809856909312 (Y 0) hd
  have hcv := fun (w : World) => run_convert_int_float (P := Try.prog) w 26 24 .u16 .f64 s (by kernel_rfl) (by kernel_rfl)
  rw [hf] at hcv
  have HS := hid hs
  have e1 : 1024 + (s - 1024) = s := by omega
  have e2 : b.tdiv 1024 = (n : Int) + 1 := by rw [Int.tdiv_eq_ediv_of_nonneg (by omega)]; exact a3
  have b2 : ¬ b = 31744 := by omega
  have b3 : ¬ 31744 < b := by omega
  clear hd hf hs
  go_enter Try.func48, Try.ntmps48
  go_wp2
  go_loop [25, 5] (fun a c => ∃ k : Nat, k ≤ n ∧ a = .int .u16 k ∧ c = .float .f64 (Y k)) (fun a _ => n - (intOf a).toNat)
  case atStart => exact ⟨0, Nat.zero_le _, rfl, rfl⟩
  case round =>
    obtain ⟨k, hk, rfl, rfl⟩ := hrel
    by_cases hlt : k < n
    · have g := fun (t : TypeId) (w : World) => run_float_arith (P := Try.prog) w .mul t .f64 (Y k) 4611686018427387904 (Y (k + 1)) (HS.out k hlt)
      go_wp2
      go_round
      case rel => exact ⟨k + 1, by omega, by go_num, rfl⟩
      case measure => simp [intOf]; omega
    · have e : k = n := by omega
      subst e
      go_wp2
      go_ret
      exact ⟨rfl, rfl⟩

theorem mag16_fin (b : Nat) (w : World) (hb : b < 31744) : Calls Try.prog 48 #[.int .u16 (b : Nat)] w fun e w' => e = .returned (.float .f64 (D16 b)) ∧ w' = w := by
  by_cases c : b < 1024
  · rw [D16_low b c]
    exact mag16_low b _ _ w (by omega) (ofInt_d b) (Y16_zero b (by omega))
  · rw [D16_high b (by omega)]
    have a1 := and1023 (b : Int) (by omega) (by omega)
    exact mag16_high b ((1024 + b % 1024 : Nat) : Int) (b / 1024 - 1) _ (Y16 (1024 + b % 1024)) w (by omega) (by omega) (by omega) (by omega) (by omega) (by rw [a1]; omega) (by omega) (ofInt_d _) (Y16_zero _ (by omega)) (fun k hk => Y16_step _ k (by omega) (by omega))

/-- the magnitude of bits of 16 as a double -/
def m16B (m : Nat) : Nat := if 31744 < m then quiet else if m = 31744 then 9218868437227405312 else D16 m
theorem mag16_at (b : Nat) (w : World) (hb : b < 32768) : Calls Try.prog 48 #[.int .u16 (b : Nat)] w fun e w' => e = .returned (.float .f64 (m16B b)) ∧ w' = w := by
  unfold m16B
  by_cases c : 31744 < b
  · rw [if_pos c]; exact mag16_nan b w (by omega)
  · rw [if_neg c]
    by_cases c2 : b = 31744
    · rw [if_pos c2, c2]; exact mag16_inf w
    · rw [if_neg c2]; exact mag16_fin b w (by omega)

set_option maxHeartbeats 1000000 in
theorem from16_nan (b m : Int) (w : World) (a : bits .andNot .u16 b 32768 = m) (M : ∀ w, Calls Try.prog 48 #[.int .u16 m] w fun e w' => e = .returned (.float .f64 quiet) ∧ w' = w) :
    Calls Try.prog 25 #[.int .u16 b] w fun e w' => e = .returned (.float .f64 quiet) ∧ w' = w := by
  have N : Hid (∀ w, Calls Try.prog 38 #[.float .f64 quiet] w fun e w' => e = .returned (.bool true) ∧ w' = w) := fun w => cIsNaN_any quiet w quiet_lt
  have C : Hid (∀ w, Calls Try.prog 43 #[.float .f64 quiet] w fun e w' => e = .returned (.float .f64 quiet) ∧ w' = w) := fun w => canon_any quiet w quiet_lt
  generalize quiet = q at *
  go_enter Try.func25, Try.ntmps25
  go_wp2_with fail
  refine (M _).mono ?_
  rintro e w' ⟨rfl, rfl⟩
  go_wp2_with fail
  refine (N.out _).mono ?_
  rintro e w' ⟨rfl, rfl⟩
  go_wp2_with fail
  refine (C.out _).mono ?_
  rintro e w' ⟨rfl, rfl⟩
  go_wp2
  go_ret
  exact ⟨rfl, rfl⟩

set_option maxHeartbeats 1000000 in
theorem from16_pos (b m : Int) (y : Nat) (w : World) (a : bits .andNot .u16 b 32768 = m) (g : bits .and .u16 b 32768 = 0) (hy : y < 18446744073709551616) (n : isN y = false) (M : ∀ w, Calls Try.prog 48 #[.int .u16 m] w fun e w' => e = .returned (.float .f64 y) ∧ w' = w) :
    Calls Try.prog 25 #[.int .u16 b] w fun e w' => e = .returned (.float .f64 y) ∧ w' = w := by
  go_enter Try.func25, Try.ntmps25
  go_wp2_with fail
  refine (M _).mono ?_
  rintro e w' ⟨rfl, rfl⟩
  go_wp2_with fail
  refine (cIsNaN_any y _ hy).mono ?_
  rintro e w' ⟨rfl, rfl⟩
  go_wp2
  go_ret
  exact ⟨rfl, rfl⟩

set_option maxHeartbeats 1000000 in
theorem from16_neg (b m : Int) (y z : Nat) (w : World) (a : bits .andNot .u16 b 32768 = m) (g : bits .and .u16 b 32768 = 32768) (hz : Op.negFloat .f64 y = z) (hy : y < 18446744073709551616) (n : isN y = false) (M : ∀ w, Calls Try.prog 48 #[.int .u16 m] w fun e w' => e = .returned (.float .f64 y) ∧ w' = w) :
    Calls Try.prog 25 #[.int .u16 b] w fun e w' => e = .returned (.float .f64 z) ∧ w' = w := by
  go_enter Try.func25, Try.ntmps25
  go_wp2_with fail
  refine (M _).mono ?_
  rintro e w' ⟨rfl, rfl⟩
  go_wp2_with fail
  refine (cIsNaN_any y _ hy).mono ?_
  rintro e w' ⟨rfl, rfl⟩
  go_wp2
  go_ret
  exact ⟨rfl, rfl⟩

theorem from16_at (b : Int) (r : Nat) (w : World) (h0 : 0 ≤ b) (h1 : b < 65536) (hr : from16B b.toNat = r) :
    Calls Try.prog 25 #[.int .u16 b] w fun e w' => e = .returned (.float .f64 r) ∧ w' = w := by
  subst hr
  have a1 := andNot16 b h0 h1
  have a2 := and16 b h0 h1
  have e : b % 32768 = ((b.toNat % 32768 : Nat) : Int) := by omega
  rw [e] at a1 a2
  have M := fun w => mag16_at (b.toNat % 32768) w (by omega)
  unfold from16B
  unfold m16B at M
  by_cases c : 31744 < b.toNat % 32768
  · simp only [if_pos c] at M ⊢
    exact from16_nan b _ w a1 M
  · simp only [if_neg c] at M ⊢
    obtain ⟨y, hy⟩ : ∃ y, (if b.toNat % 32768 = 31744 then 9218868437227405312 else D16 (b.toNat % 32768)) = y := ⟨_, rfl⟩
    have ly : y ≤ 9218868437227405312 := by
      rw [← hy]
      by_cases c2 : b.toNat % 32768 = 31744
      · rw [if_pos c2]; exact Nat.le_refl _
      · rw [if_neg c2]
        have := D16_lt (b.toNat % 32768) (by omega)
        omega
    simp only [hy] at M ⊢
    have ny : isN y = false := isN_false.2 (by rw [mg_of_lt (by omega)]; exact ly)
    unfold ng16
    by_cases c3 : 32768 ≤ b.toNat
    · rw [decide_eq_true c3, if_pos rfl]
      refine from16_neg b _ y _ w a1 (by omega) ?_ (by omega) ny M
      rw [negFloat_eq y (by omega)]
      unfold negB
      rw [ng_of_lt (by omega), if_neg (by decide)]; omega
    · rw [decide_eq_false c3, if_neg (by decide)]
      exact from16_pos b _ y w a1 (by omega) (by omega) ny M
end Go.Proofs.Ytpncpbpdbdlamaa
