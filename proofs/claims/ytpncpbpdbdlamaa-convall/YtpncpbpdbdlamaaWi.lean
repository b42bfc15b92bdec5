/-
  What To16 of package conv returns: walks over the program.
-/
import Derived.Test.YtpncpbpdbdlamaaWh
import Derived.Test.YtpncpbpdbdlamaaPx
namespace Go.Proofs.Ytpncpbpdbdlamaa
open Go.RowKit Tf
attribute [local go_sem] run_bits run_from raw_feq raw_fne raw_flt raw_fgt run_neg

theorem or16_0 (r : Int) (h0 : 0 ≤ r) (h1 : r < 32768) : bits .or .u16 0 r = r := by go_bits2
theorem or16_1 (r : Int) (h0 : 0 ≤ r) (h1 : r < 32768) : bits .or .u16 32768 r = 32768 + r := by go_bits2

set_option maxHeartbeats 1000000 in
theorem abs_any (x : Nat) (w : World) (hx : x < 18446744073709551616) :
    Calls Try.prog 47 #[.float .f64 x] w fun e w' => e = .returned (.float .f64 (mg x)) ∧ w' = w := by
  have h := andNot_sign x hx
  have h2 : ((mg x : Nat) : Int).toNat = mg x := by omega
  generalize mg x = m at *
  go_enter Try.func47, Try.ntmps47
  go_wp2
  go_ret
  exact ⟨rfl, rfl⟩

set_option maxHeartbeats 1000000 in
theorem signbit_any (x : Nat) (w : World) (hx : x < 18446744073709551616) :
    Calls Try.prog 45 #[.float .f64 x] w fun e w' => e = .returned (.bool (ng x)) ∧ w' = w := by
  have h : decide (wrap64 (x : Int) < 0) = ng x := by
    unfold ng
    refine decide_eq_decide.2 ?_
    unfold wrap64
    omega
  go_enter Try.func45, Try.ntmps45
  go_wp2
  go_ret
  exact ⟨rfl, rfl⟩

set_option maxHeartbeats 2000000 in
theorem nearest16_fin (m n y : Nat) (c : Int) (S : Nat → Nat) (w : World) (hn : n < 30) (h0 : floatBits .mul .f64 m 4715268809856909312 = some (S 0)) (hlt : ∀ k, k < n → flt (S k) 4656722014701092864 = false)
    (hst : ∀ k, k < n → floatBits .mul .f64 (S k) 4602678819172646912 = some (S (k + 1))) (he : flt (S n) 4656722014701092864 = true) (hy : ∀ w : World, (callFunc 31 #[.float .f64 (S n)]).run Try.prog w = .ok (.value (.float .f64 y)) w)
    (hc : floatToIntVal .f64 y .u16 = some c) (c0 : 0 ≤ c) (c1 : c ≤ 2048) :
    Calls Try.prog 46 #[.float .f64 m] w fun e w' => e = .returned (.int .u16 ((n : Int) * 1024 + c)) ∧ w' = w := by
  have h0' := fun (t : TypeId) (w : World) => run_float_arith (P := Try.prog) w .mul t .f64 m 4715268809856909312 (S 0) h0
  have hcv := fun (w : World) => run_convert_float_int (P := Try.prog) w 24 26 .f64 .u16 y c (by kernel_rfl) (by kernel_rfl) hc
  have HL := hid hlt
  have HS := hid hst
  clear hlt hst h0 hc
  go_enter Try.func46, Try.ntmps46
  go_wp2
  go_loop [7, 3] (fun a b => ∃ k : Nat, k ≤ n ∧ a = .int .u16 k ∧ b = .float .f64 (S k)) (fun a _ => n - (intOf a).toNat)
  case atStart => exact ⟨0, Nat.zero_le _, rfl, rfl⟩
  case round =>
    obtain ⟨k, hk, rfl, rfl⟩ := hrel
    by_cases hlt : k < n
    · have f := HL.out k hlt
      have g := fun (t : TypeId) (w : World) => run_float_arith (P := Try.prog) w .mul t .f64 (S k) 4602678819172646912 (S (k + 1)) (HS.out k hlt)
      have k30 : (k : Int) < 30 := by omega
      go_wp2
      go_round
      case rel => exact ⟨k + 1, by omega, by go_num, rfl⟩
      case measure => simp [intOf]; omega
    · have e : k = n := by omega
      subst e
      have k30 : (k : Int) < 30 := by omega
      go_wp2
      go_ret
      exact ⟨rfl, rfl⟩
set_option maxHeartbeats 2000000 in
theorem nearest16_past (m : Nat) (S : Nat → Nat) (w : World) (h0 : floatBits .mul .f64 m 4715268809856909312 = some (S 0)) (hlt : ∀ k, k < 30 → flt (S k) 4656722014701092864 = false)
    (hst : ∀ k, k < 30 → floatBits .mul .f64 (S k) 4602678819172646912 = some (S (k + 1))) :
    Calls Try.prog 46 #[.float .f64 m] w fun e w' => e = .returned (.int .u16 31744) ∧ w' = w := by
  have h0' := fun (t : TypeId) (w : World) => run_float_arith (P := Try.prog) w .mul t .f64 m 4715268809856909312 (S 0) h0
  have HL := hid hlt
  have HS := hid hst
  clear hlt hst h0
  go_enter Try.func46, Try.ntmps46
  go_wp2
  go_loop [7, 3] (fun a b => ∃ k : Nat, k ≤ 30 ∧ a = .int .u16 k ∧ b = .float .f64 (S k)) (fun a _ => 30 - (intOf a).toNat)
  case atStart => exact ⟨0, Nat.zero_le _, rfl, rfl⟩
  case round =>
    obtain ⟨k, hk, rfl, rfl⟩ := hrel
    by_cases hlt : k < 30
    · have f := HL.out k hlt
      have g := fun (t : TypeId) (w : World) => run_float_arith (P := Try.prog) w .mul t .f64 (S k) 4602678819172646912 (S (k + 1)) (HS.out k hlt)
      have k30 : (k : Int) < 30 := by omega
      go_wp2
      go_round
      case rel => exact ⟨k + 1, by omega, by go_num, rfl⟩
      case measure => simp [intOf]; omega
    · have e : k = 30 := by omega
      subst e
      go_wp2
      go_ret
      exact ⟨rfl, rfl⟩

theorem flt_T (s : Nat) (h : s ≤ 9218868437227405312) : flt s 4656722014701092864 = decide (s < 4656722014701092864) := by
  have e1 : mg s = s := mg_of_lt (by omega)
  have n1 : isN s = false := isN_false.2 (by omega)
  have n2 : isN 4656722014701092864 = false := by decide
  have r2 : rk 4656722014701092864 = 4656722014701092864 := by decide
  rw [flt_rk s _ (by omega) (by decide), n1, n2, r2]
  unfold rk
  rw [e1, ng_of_lt (show s < 9223372036854775808 by omega)]
  simp only [Bool.not_false, Bool.and_self, Bool.true_and, Bool.false_eq_true, if_false]
  exact decide_eq_decide.2 (by omega)
theorem conv_u16 (s q : Nat) (hs : s < 9218868437227405312) (hq : rne (mv s) one = q) (h : q ≤ 2048) : floatToIntVal .f64 (itV .even s) .u16 = some (q : Int) := by
  have e1 : mg s = s := mg_of_lt (by omega)
  obtain ⟨a, b, c⟩ := itV_fin .even s (by omega) (by omega)
  rw [ng_of_lt (show s < 9223372036854775808 by omega)] at a c
  rw [e1, cutq_even, hq] at c
  unfold floatToIntVal
  have e : (FloatKind.f64.decode (itV .even s)).toInt .zero = some (if ng (itV .even s) then -((mv (mg (itV .even s)) / one : Nat) : Int) else ((mv (mg (itV .even s)) / one : Nat) : Int)) := toInt_d _ (itV_lt _ _) b
  rw [a, c, Nat.mul_div_cancel _ one_pos] at e
  rw [e]
  have m1 : IntKind.u16.min = 0 := by decide
  have m2 : IntKind.u16.max = 65535 := by decide
  simp only [Bool.false_eq_true, if_false, m1, m2]
  rw [if_pos (by omega)]
theorem nearest16_at (m r : Nat) (w : World) (hm : m ≤ 9218868437227405312) (hr : min (rung 10 H2 (mv m)) 31744 = r) :
    Calls Try.prog 46 #[.float .f64 m] w fun e w' => e = .returned (.int .u16 (r : Nat)) ∧ w' = w := by
  by_cases ci : m = 9218868437227405312
  · have hr' : r = 31744 := by
      have := t16_inf 9218868437227405312 (by decide)
      unfold t16 at this
      rw [← hr, ci]; exact this
    subst hr' ci
    exact nearest16_past 9218868437227405312 (fun _ => 9218868437227405312) w (inf_times _ (by decide) (by decide)) (fun _ _ => by rw [flt_T _ (by decide)]; decide) (fun _ _ => inf_times _ (by decide) (by decide))
  · obtain ⟨s, hs, e, hf, hi⟩ := times24 m (by omega)
    by_cases cs : s = 9218868437227405312
    · have h1 := hi cs
      have := past_bits (mv m) 9218868437227405312 h1 (by decide)
      have hr' : r = 31744 := by omega
      subst hr' cs
      exact nearest16_past m (fun _ => 9218868437227405312) w e (fun _ _ => by rw [flt_T _ (by decide)]; decide) (fun _ _ => inf_times _ (by decide) (by decide))
    · have hsv := hf (by omega)
      have key : ∀ n, (n = 0 ∨ (1033 + n) * 4503599627370496 ≤ s) → ∀ k, k < n → flt (s - k * 4503599627370496) 4656722014701092864 = false ∧ floatBits .mul .f64 (s - k * 4503599627370496) 4602678819172646912 = some (s - (k + 1) * 4503599627370496) := by
        intro n h2 k hk
        have hge : (1034 + k) * 4503599627370496 ≤ s := by omega
        refine ⟨?_, ?_⟩
        · rw [flt_T _ (by omega)]; exact decide_eq_false (by omega)
        · have := halved (s - k * 4503599627370496) (by omega) (by omega)
          rw [show s - k * 4503599627370496 - 4503599627370496 = s - (k + 1) * 4503599627370496 by omega] at this
          exact this
      by_cases cn : 1063 * 4503599627370496 ≤ s
      · have := past_bits (mv m) s (by omega) (by omega)
        have hr' : r = 31744 := by omega
        subst hr'
        have k30 := key 30 (.inr (by omega))
        refine nearest16_past m (fun k => s - k * 4503599627370496) w (by rw [Nat.zero_mul, Nat.sub_zero]; exact e) (fun k hk => (k30 k hk).1) (fun k hk => (k30 k hk).2)
      · obtain ⟨n, hn, h1, h2⟩ : ∃ n, n < 30 ∧ s < (1034 + n) * 4503599627370496 ∧ (n = 0 ∨ (1033 + n) * 4503599627370496 ≤ s) := by
          by_cases c0 : s < 1034 * 4503599627370496
          · exact ⟨0, by omega, by omega, .inl rfl⟩
          · exact ⟨s / 4503599627370496 - 1033, by omega, by omega, .inr (by omega)⟩
        have kn := key n h2
        obtain ⟨_, hb⟩ := band_bits (mv m) s n hsv h1 h2
        obtain ⟨q, hq⟩ : ∃ q, rne (mv (s - n * 4503599627370496)) one = q := ⟨_, rfl⟩
        have hq2 : q ≤ 2048 := by
          have e2 := mv_from_one 11 4656722014701092864 (by decide)
          have h3 : mv (s - n * 4503599627370496) ≤ mv 4656722014701092864 := mv_le.2 (by omega)
          rw [e2] at h3
          have := rne_mono one h3
          rw [rne_mul _ _ one_pos, hq] at this
          exact this
        rw [hq] at hb
        have hr' : (r : Int) = (n : Int) * 1024 + (q : Int) := by omega
        rw [hr']
        have hlt : s - n * 4503599627370496 < 9218868437227405312 := by omega
        refine nearest16_fin m n (itV .even (s - n * 4503599627370496)) q (fun k => s - k * 4503599627370496) w hn (by rw [Nat.zero_mul, Nat.sub_zero]; exact e) (fun k hk => (kn k hk).1) (fun k hk => (kn k hk).2) ?_ ?_ (conv_u16 _ q hlt hq hq2) (by omega) (by omega)
        · rw [flt_T _ (by omega)]; exact decide_eq_true (by omega)
        · intro w
          exact run_even _ w (isN_false.2 (by rw [mg_of_lt (by omega)]; omega))

set_option maxHeartbeats 1000000 in
theorem to16_nan (x r : Nat) (w : World) (hx : x < 18446744073709551616) (n : isN x = true) (_hr : r = r) :
    Calls Try.prog 23 #[.float .f64 x] w fun e w' => e = .returned (.int .u16 (32256)) ∧ w' = w := by
  go_enter Try.func23, Try.ntmps23
  go_wp2_with fail
  refine (cIsNaN_any x _ hx).mono ?_
  rintro e w' ⟨rfl, rfl⟩
  go_wp2
  go_ret
  exact ⟨rfl, rfl⟩
set_option maxHeartbeats 1000000 in
theorem to16_pos (x r : Nat) (w : World) (hx : x < 18446744073709551616) (n : isN x = false) (g : ng x = false) (N : ∀ w, Calls Try.prog 46 #[.float .f64 (mg x)] w fun e w' => e = .returned (.int .u16 (r : Nat)) ∧ w' = w) (l : r < 32768) :
    Calls Try.prog 23 #[.float .f64 x] w fun e w' => e = .returned (.int .u16 ((r : Nat))) ∧ w' = w := by
  have o := or16_0 r (by omega) (by omega)
  go_enter Try.func23, Try.ntmps23
  go_wp2_with fail
  refine (cIsNaN_any x _ hx).mono ?_
  rintro e w' ⟨rfl, rfl⟩
  go_wp2_with fail
  refine (signbit_any x _ hx).mono ?_
  rintro e w' ⟨rfl, rfl⟩
  go_wp2_with fail
  refine (abs_any x _ hx).mono ?_
  rintro e w' ⟨rfl, rfl⟩
  go_wp2_with fail
  refine (N _).mono ?_
  rintro e w' ⟨rfl, rfl⟩
  go_wp2
  go_ret
  exact ⟨rfl, rfl⟩
set_option maxHeartbeats 1000000 in
theorem to16_neg (x r : Nat) (w : World) (hx : x < 18446744073709551616) (n : isN x = false) (g : ng x = true) (N : ∀ w, Calls Try.prog 46 #[.float .f64 (mg x)] w fun e w' => e = .returned (.int .u16 (r : Nat)) ∧ w' = w) (l : r < 32768) :
    Calls Try.prog 23 #[.float .f64 x] w fun e w' => e = .returned (.int .u16 (32768 + (r : Nat))) ∧ w' = w := by
  have o := or16_1 r (by omega) (by omega)
  go_enter Try.func23, Try.ntmps23
  go_wp2_with fail
  refine (cIsNaN_any x _ hx).mono ?_
  rintro e w' ⟨rfl, rfl⟩
  go_wp2_with fail
  refine (signbit_any x _ hx).mono ?_
  rintro e w' ⟨rfl, rfl⟩
  go_wp2_with fail
  refine (abs_any x _ hx).mono ?_
  rintro e w' ⟨rfl, rfl⟩
  go_wp2_with fail
  refine (N _).mono ?_
  rintro e w' ⟨rfl, rfl⟩
  go_wp2
  go_ret
  exact ⟨rfl, rfl⟩

theorem to16_at (x r : Nat) (w : World) (hx : x < 18446744073709551616) (hr : to16B x = r) :
    Calls Try.prog 23 #[.float .f64 x] w fun e w' => e = .returned (.int .u16 (r : Nat)) ∧ w' = w := by
  subst hr
  unfold to16B
  cases n : isN x
  · rw [if_neg (by decide)]
    have hle := isN_false.1 n
    have N : ∀ w, Calls Try.prog 46 #[.float .f64 (mg x)] w fun e w' => e = .returned (.int .u16 (t16 x : Nat)) ∧ w' = w := fun w => nearest16_at (mg x) (t16 x) w hle rfl
    have l : t16 x < 32768 := by unfold t16; omega
    cases g : ng x
    · rw [if_neg (by decide)]; exact to16_pos x _ w hx n g N l
    · rw [if_pos rfl]
      have := to16_neg x _ w hx n g N l
      have e : ((32768 + t16 x : Nat) : Int) = 32768 + ((t16 x : Nat) : Int) := by omega
      rw [e]; exact this
  · rw [if_pos rfl]; exact to16_nan x 0 w hx n rfl
end Go.Proofs.Ytpncpbpdbdlamaa
