/-
  FromInt, To32, To16, From32 and From16 of the reference of layer 2 answer what the code's do: walks over the program.
-/
import Derived.Test.YtpncpbpdbdlamaaWv
namespace Go.Proofs.Ytpncpbpdbdlamaa.Ref2
open Go.RowKit Tf
attribute [local go_sem] run_bits run_from raw_feq raw_fne raw_flt raw_fgt run_neg

theorem rung_units (p m : Nat) (e least : Int) (he : -1074 ≤ e) (hl : -1074 ≤ least) : rung p (least + 1074).toNat (m * 2 ^ (e + 1074).toNat) = rung p (least - e).toNat (m * 2 ^ (e - least).toNat) := by
  obtain ⟨c, hc⟩ : ∃ c : Nat, min e least + 1074 = (c : Int) := ⟨(min e least + 1074).toNat, by omega⟩
  have h1 : (least + 1074).toNat = (least - e).toNat + c := by omega
  have h2 : (e + 1074).toNat = (e - least).toNat + c := by omega
  rw [h1, h2, Nat.pow_add, ← Nat.mul_assoc, rung_scale]

theorem small52 (m : Nat) (e : Int) (r : Nat) (w : World) (hm : m ≤ 9223372036854775808) (e0 : -1074 ≤ e) (e1 : e ≤ 900) (hr : min (rung 52 0 (m * 2 ^ (e + 1074).toNat)) 9218868437227405312 = r) :
    Calls Try.prog 40 #[.int .u64 (m : Nat), .int .i64 e, .int .i64 52, .int .i64 (-1074), .int .u64 9218868437227405312] w fun e w' => e = .returned (.int .u64 (r : Nat)) ∧ w' = w := by
  refine small_at m 52 9218868437227405312 e (-1074) r w hm (.inr e0) (by decide) (by omega) (by omega) (by decide) (by decide) (fun u hu => by omega) ?_
  have h1 : ((-1074 : Int) - e).toNat = 0 := by omega
  have h2 : (e - (-1074)).toNat = (e + 1074).toNat := by omega
  rw [h1, h2]; exact hr
theorem small23 (m : Nat) (e : Int) (r : Nat) (w : World) (hm : m < 9007199254740992) (e0 : -1074 ≤ e) (e1 : e ≤ 971) (hr : min (rung 23 K2 (m * 2 ^ (e + 1074).toNat)) 2139095040 = r) :
    Calls Try.prog 40 #[.int .u64 (m : Nat), .int .i64 e, .int .i64 23, .int .i64 (-149), .int .u64 2139095040] w fun e w' => e = .returned (.int .u64 (r : Nat)) ∧ w' = w := by
  refine small_at m 23 2139095040 e (-149) r w (by omega) (.inl (by omega)) (by decide) (by omega) (by omega) (by decide) (by decide) (fun u hu => by omega) ?_
  have h := rung_units 23 m e (-149) e0 (by decide)
  have h1 : ((-149 : Int) + 1074).toNat = K2 := by rw [K2_eq]; decide
  rw [h1] at h
  rw [← h]; exact hr
theorem small10 (m : Nat) (e : Int) (r : Nat) (w : World) (hm : m < 9007199254740992) (e0 : -1074 ≤ e) (e1 : e ≤ 971) (hr : min (rung 10 H2 (m * 2 ^ (e + 1074).toNat)) 31744 = r) :
    Calls Try.prog 40 #[.int .u64 (m : Nat), .int .i64 e, .int .i64 10, .int .i64 (-24), .int .u64 31744] w fun e w' => e = .returned (.int .u64 (r : Nat)) ∧ w' = w := by
  refine small_at m 10 31744 e (-24) r w (by omega) (.inl (by omega)) (by decide) (by omega) (by omega) (by decide) (by decide) (fun u hu => by omega) ?_
  have h := rung_units 10 m e (-24) e0 (by decide)
  have h1 : ((-24 : Int) + 1074).toNat = H2 := by rw [H2_eq]; decide
  rw [h1] at h
  rw [← h]; exact hr

set_option maxHeartbeats 1000000 in
theorem fi_pos (i : Int) (m r : Nat) (w : World) (h : ¬ i < 0) (hi : IntKind.u64.wrap i = (m : Int)) (hw : IntKind.u64.wrap (r : Int) = (r : Int)) (S : Hid (∀ w, Calls Try.prog 40 #[.int .u64 (m : Nat), .int .i64 0, .int .i64 52, .int .i64 (-1074), .int .u64 9218868437227405312] w fun e w' => e = .returned (.int .u64 (r : Nat)) ∧ w' = w)) :
    Calls Try.prog 18 #[.int .i64 i] w fun e w' => e = .returned (.float .f64 r) ∧ w' = w := by
  go_enter Try.func18, Try.ntmps18
  go_wp2_with fail
  refine (S.out _).mono ?_
  rintro e w' ⟨rfl, rfl⟩
  go_wp2_with fail
  refine (from_at (r : Int) r _ (by omega)).mono ?_
  rintro e w' ⟨rfl, rfl⟩
  go_wp2
  go_ret
  exact ⟨rfl, rfl⟩

set_option maxHeartbeats 1000000 in
theorem fi_neg (i : Int) (a m r s : Nat) (w : World) (h : i < 0) (hi : IntKind.u64.wrap i = (a : Int)) (ha : IntKind.u64.wrap (-(a : Int)) = (m : Int)) (hw : IntKind.u64.wrap (9223372036854775808 + (r : Int)) = (s : Int)) (S : Hid (∀ w, Calls Try.prog 40 #[.int .u64 (m : Nat), .int .i64 0, .int .i64 52, .int .i64 (-1074), .int .u64 9218868437227405312] w fun e w' => e = .returned (.int .u64 (r : Nat)) ∧ w' = w)) :
    Calls Try.prog 18 #[.int .i64 i] w fun e w' => e = .returned (.float .f64 s) ∧ w' = w := by
  go_enter Try.func18, Try.ntmps18
  go_wp2_with fail
  refine (S.out _).mono ?_
  rintro e w' ⟨rfl, rfl⟩
  go_wp2_with fail
  refine (from_at (s : Int) s _ (by omega)).mono ?_
  rintro e w' ⟨rfl, rfl⟩
  go_wp2
  go_ret
  exact ⟨rfl, rfl⟩

theorem refFromInt_at (i : Int) (r : Nat) (w : World) (i0 : -9223372036854775808 ≤ i) (i1 : i ≤ 9223372036854775807) (hr : rn false (i * one) = r) :
    Calls Try.prog 18 #[.int .i64 i] w fun e w' => e = .returned (.float .f64 r) ∧ w' = w := by
  have hK : (1074 : Nat) = K := rfl
  have hab : (i * (one : Int)).natAbs = i.natAbs * one := by rw [Int.natAbs_mul, Int.natAbs_natCast]
  have ho : ((0 : Int) + 1074).toNat = K := by rw [K_eq]; decide
  have hs := fun w => small52 i.natAbs 0 _ w (by omega) (by decide) (by decide) rfl
  rw [ho, ← one_pow] at hs
  have hlt : min (rung 52 0 (i.natAbs * one)) 9218868437227405312 ≤ 9218868437227405312 := Nat.min_le_right _ _
  have hp := onep
  have hrn : rn false (i * one) = if i < 0 then 9223372036854775808 + min (rung 52 0 (i.natAbs * one)) 9218868437227405312 else min (rung 52 0 (i.natAbs * one)) 9218868437227405312 := by
    unfold rn
    rw [hab]
    have h2 : (if i * (one : Int) = 0 then false else decide (i * (one : Int) < 0)) = decide (i < 0) := by
      by_cases c : i = 0
      · subst c; simp
      · have c' : ¬ i * (one : Int) = 0 := by rw [Int.mul_eq_zero]; omega
        rw [if_neg c']
        have : i * (one : Int) < 0 ↔ i < 0 := by
          have : i * (one : Int) < 0 * (one : Int) ↔ i < 0 := Int.mul_lt_mul_right hp
          rwa [Int.zero_mul] at this
        exact decide_eq_decide.2 this
    rw [h2]
    by_cases c : i < 0
    · rw [decide_eq_true c, if_pos rfl, if_pos c]
    · rw [decide_eq_false c, if_neg (by decide), if_neg c]
  rw [hrn] at hr
  generalize min (rung 52 0 (i.natAbs * one)) 9218868437227405312 = q at *
  by_cases c : i < 0
  · rw [if_pos c] at hr
    subst hr
    have w1 : IntKind.u64.wrap i = ((18446744073709551616 - i.natAbs : Nat) : Int) := by
      simp [IntKind.wrap, IntKind.bits, IntKind.signed]; omega
    have w2 : IntKind.u64.wrap (-((18446744073709551616 - i.natAbs : Nat) : Int)) = (i.natAbs : Int) := by
      simp [IntKind.wrap, IntKind.bits, IntKind.signed]; omega
    exact fi_neg i _ _ q (9223372036854775808 + q) w c w1 w2 (by rw [wrap_id] <;> omega) hs
  · rw [if_neg c] at hr
    subst hr
    exact fi_pos i i.natAbs q w c (by rw [wrap_id] <;> omega) (by rw [wrap_id] <;> omega) hs
set_option maxHeartbeats 1000000 in
theorem r32_nan (x : Nat) (w : World) (hx : Hid (x < 18446744073709551616)) (n : Bool) (fx : Hid (isN x = true)) (hn : Hid (ng x = n)) :
    Calls Try.prog 20 #[.float .f64 x] w fun e w' => e = .returned (.int .u32 (2143289344)) ∧ w' = w := by
  go_enter Try.func20, Try.ntmps20
  go_wp2_with fail
  refine (parts_nat x n _ hx.out fx.out hn.out).mono ?_
  rintro e w' ⟨rfl, rfl⟩
  go_wp2
  go_ret
  exact ⟨rfl, rfl⟩

set_option maxHeartbeats 1000000 in
theorem r32_inftrue (x : Nat) (w : World) (hx : Hid (x < 18446744073709551616)) (fx : Hid (mg x = 9218868437227405312)) (hn : Hid (ng x = true)) :
    Calls Try.prog 20 #[.float .f64 x] w fun e w' => e = .returned (.int .u32 (4286578688)) ∧ w' = w := by
  go_enter Try.func20, Try.ntmps20
  go_wp2_with fail
  refine (parts_iat x true _ hx.out fx.out hn.out).mono ?_
  rintro e w' ⟨rfl, rfl⟩
  go_wp2
  go_ret
  exact ⟨rfl, rfl⟩

set_option maxHeartbeats 1000000 in
theorem r32_fintrue (x : Nat) (w : World) (hx : Hid (x < 18446744073709551616)) (fx : Hid (mg x < 9218868437227405312)) (hn : Hid (ng x = true)) (m : Nat) (e : Int) (pm' : Hid (pm x = m)) (pe' : Hid (pe x = e)) (b c : Nat) (hb : IntKind.u64.wrap ((b : Int) + 2147483648) = (c : Int)) (hc : IntKind.u32.wrap (c : Int) = (c : Int)) (S : Hid (∀ w, Calls Try.prog 40 #[.int .u64 (m : Nat), .int .i64 e, .int .i64 23, .int .i64 (-149), .int .u64 2139095040] w fun e w' => e = .returned (.int .u64 (b : Nat)) ∧ w' = w)) :
    Calls Try.prog 20 #[.float .f64 x] w fun e w' => e = .returned (.int .u32 ((c : Nat))) ∧ w' = w := by
  go_enter Try.func20, Try.ntmps20
  go_wp2_with fail
  refine (parts_at x m e true _ hx.out fx.out pm'.out pe'.out hn.out).mono ?_
  rintro e w' ⟨rfl, rfl⟩
  go_wp2_with fail
  refine (S.out _).mono ?_
  rintro e w' ⟨rfl, rfl⟩
  go_wp2
  go_ret
  exact ⟨rfl, rfl⟩

set_option maxHeartbeats 1000000 in
theorem r32_inffalse (x : Nat) (w : World) (hx : Hid (x < 18446744073709551616)) (fx : Hid (mg x = 9218868437227405312)) (hn : Hid (ng x = false)) :
    Calls Try.prog 20 #[.float .f64 x] w fun e w' => e = .returned (.int .u32 (2139095040)) ∧ w' = w := by
  go_enter Try.func20, Try.ntmps20
  go_wp2_with fail
  refine (parts_iat x false _ hx.out fx.out hn.out).mono ?_
  rintro e w' ⟨rfl, rfl⟩
  go_wp2
  go_ret
  exact ⟨rfl, rfl⟩

set_option maxHeartbeats 1000000 in
theorem r32_finfalse (x : Nat) (w : World) (hx : Hid (x < 18446744073709551616)) (fx : Hid (mg x < 9218868437227405312)) (hn : Hid (ng x = false)) (m : Nat) (e : Int) (pm' : Hid (pm x = m)) (pe' : Hid (pe x = e)) (b : Nat) (hc : IntKind.u32.wrap (b : Int) = (b : Int)) (S : Hid (∀ w, Calls Try.prog 40 #[.int .u64 (m : Nat), .int .i64 e, .int .i64 23, .int .i64 (-149), .int .u64 2139095040] w fun e w' => e = .returned (.int .u64 (b : Nat)) ∧ w' = w)) :
    Calls Try.prog 20 #[.float .f64 x] w fun e w' => e = .returned (.int .u32 ((b : Nat))) ∧ w' = w := by
  go_enter Try.func20, Try.ntmps20
  go_wp2_with fail
  refine (parts_at x m e false _ hx.out fx.out pm'.out pe'.out hn.out).mono ?_
  rintro e w' ⟨rfl, rfl⟩
  go_wp2_with fail
  refine (S.out _).mono ?_
  rintro e w' ⟨rfl, rfl⟩
  go_wp2
  go_ret
  exact ⟨rfl, rfl⟩


theorem refTo32_at (x r : Nat) (w : World) (hx : x < 18446744073709551616) (hr : to32B x = r) :
    Calls Try.prog 20 #[.float .f64 x] w fun e w' => e = .returned (.int .u32 (r : Nat)) ∧ w' = w := by
  subst hr
  unfold to32B
  have wu : ∀ a : Nat, a < 4294967296 → IntKind.u32.wrap (a : Int) = (a : Int) := by
    intro a h
    simp [IntKind.wrap, IntKind.bits, IntKind.signed]; omega
  cases n : isN x
  · rw [if_neg (by decide)]
    have hle := isN_false.1 n
    have ht := t32_le x
    by_cases fx : mg x < 9218868437227405312
    · have hs := fun w => small23 (pm x) (pe x) (t32 x) w (pm_lt x) (pe_ge x) (pe_le x fx) (by rw [← mv_parts]; rfl)
      generalize t32 x = t at *
      cases hn : ng x
      · rw [if_neg (by decide)]
        exact r32_finfalse x w hx fx hn _ _ rfl rfl t (wu t (by omega)) hs
      · rw [if_pos rfl]
        exact r32_fintrue x w hx fx hn _ _ rfl rfl t (2147483648 + t) (by rw [wrap_id] <;> omega) (wu _ (by omega)) hs
    · have fi : mg x = 9218868437227405312 := by omega
      have e : t32 x = 2139095040 := t32_inf x (by omega)
      rw [e]
      cases hn : ng x
      · exact r32_inffalse x w hx fi hn
      · exact r32_inftrue x w hx fi hn
  · exact r32_nan x w hx _ n rfl
set_option maxHeartbeats 1000000 in
theorem w32_nantrue (b : Nat) (w : World) (c : (2139095040 : Int) < (b : Int)) :
    Calls Try.prog 44 #[.bool true, .int .u64 (b : Nat), .int .i64 23, .int .i64 (-149), .int .u64 2139095040] w fun e w' => e = .returned (.float .f64 (9221120237041090561)) ∧ w' = w := by
  go_enter Try.func44, Try.ntmps44
  go_wp2_with fail
  refine (from_at 9221120237041090561 9221120237041090561 _ (by decide)).mono ?_
  rintro e w' ⟨rfl, rfl⟩
  go_wp2
  go_ret
  exact ⟨rfl, rfl⟩

set_option maxHeartbeats 1000000 in
theorem w32_inftrue (b : Nat) (w : World) (c : b = 2139095040) :
    Calls Try.prog 44 #[.bool true, .int .u64 (b : Nat), .int .i64 23, .int .i64 (-149), .int .u64 2139095040] w fun e w' => e = .returned (.float .f64 (18442240474082181120)) ∧ w' = w := by
  subst c
  go_enter Try.func44, Try.ntmps44
  go_wp2_with fail
  refine (from_at 18442240474082181120 18442240474082181120 _ (by decide)).mono ?_
  rintro e w' ⟨rfl, rfl⟩
  go_wp2
  go_ret
  exact ⟨rfl, rfl⟩

set_option maxHeartbeats 1000000 in
theorem w32_lowtrue (b : Nat) (w : World) (c1 : decide ((2139095040 : Int) < (b : Int)) = false) (c2 : ((b : Int) == 2139095040) = false) (r t : Nat) (ht : IntKind.u64.wrap (9223372036854775808 + (r : Int)) = (t : Int)) (f : (b : Int) / 8388608 = 0) (f2 : (b : Int) % 8388608 = (b : Int)) (S : Hid (∀ w, Calls Try.prog 40 #[.int .u64 (b : Nat), .int .i64 (-149), .int .i64 52, .int .i64 (-1074), .int .u64 9218868437227405312] w fun e w' => e = .returned (.int .u64 (r : Nat)) ∧ w' = w)) :
    Calls Try.prog 44 #[.bool true, .int .u64 (b : Nat), .int .i64 23, .int .i64 (-149), .int .u64 2139095040] w fun e w' => e = .returned (.float .f64 (t)) ∧ w' = w := by
  go_enter Try.func44, Try.ntmps44
  go_wp2_with fail
  refine (S.out _).mono ?_
  rintro e w' ⟨rfl, rfl⟩
  go_wp2_with fail
  refine (from_at (t : Int) t _ (by omega)).mono ?_
  rintro e w' ⟨rfl, rfl⟩
  go_wp2
  go_ret
  exact ⟨rfl, rfl⟩

set_option maxHeartbeats 1000000 in
theorem w32_hightrue (b : Nat) (w : World) (c1 : decide ((2139095040 : Int) < (b : Int)) = false) (c2 : ((b : Int) == 2139095040) = false) (r t : Nat) (ht : IntKind.u64.wrap (9223372036854775808 + (r : Int)) = (t : Int)) (g : Int) (m : Nat) (f : (b : Int) / 8388608 = g) (g0 : 0 < g) (g1 : g < 5000) (q : Nat) (f2 : (b : Int) % 8388608 = (q : Int)) (f3 : IntKind.u64.wrap ((q : Int) + 8388608) = (m : Int)) (e : Int) (he : -149 + g - 1 = e) (S : Hid (∀ w, Calls Try.prog 40 #[.int .u64 (m : Nat), .int .i64 e, .int .i64 52, .int .i64 (-1074), .int .u64 9218868437227405312] w fun e w' => e = .returned (.int .u64 (r : Nat)) ∧ w' = w)) :
    Calls Try.prog 44 #[.bool true, .int .u64 (b : Nat), .int .i64 23, .int .i64 (-149), .int .u64 2139095040] w fun e w' => e = .returned (.float .f64 (t)) ∧ w' = w := by
  go_enter Try.func44, Try.ntmps44
  go_wp2_with fail
  refine (S.out _).mono ?_
  rintro e w' ⟨rfl, rfl⟩
  go_wp2_with fail
  refine (from_at (t : Int) t _ (by omega)).mono ?_
  rintro e w' ⟨rfl, rfl⟩
  go_wp2
  go_ret
  exact ⟨rfl, rfl⟩

set_option maxHeartbeats 1000000 in
theorem w32_nanfalse (b : Nat) (w : World) (c : (2139095040 : Int) < (b : Int)) :
    Calls Try.prog 44 #[.bool false, .int .u64 (b : Nat), .int .i64 23, .int .i64 (-149), .int .u64 2139095040] w fun e w' => e = .returned (.float .f64 (9221120237041090561)) ∧ w' = w := by
  go_enter Try.func44, Try.ntmps44
  go_wp2_with fail
  refine (from_at 9221120237041090561 9221120237041090561 _ (by decide)).mono ?_
  rintro e w' ⟨rfl, rfl⟩
  go_wp2
  go_ret
  exact ⟨rfl, rfl⟩

set_option maxHeartbeats 1000000 in
theorem w32_inffalse (b : Nat) (w : World) (c : b = 2139095040) :
    Calls Try.prog 44 #[.bool false, .int .u64 (b : Nat), .int .i64 23, .int .i64 (-149), .int .u64 2139095040] w fun e w' => e = .returned (.float .f64 (9218868437227405312)) ∧ w' = w := by
  subst c
  go_enter Try.func44, Try.ntmps44
  go_wp2_with fail
  refine (from_at 9218868437227405312 9218868437227405312 _ (by decide)).mono ?_
  rintro e w' ⟨rfl, rfl⟩
  go_wp2
  go_ret
  exact ⟨rfl, rfl⟩

set_option maxHeartbeats 1000000 in
theorem w32_lowfalse (b : Nat) (w : World) (c1 : decide ((2139095040 : Int) < (b : Int)) = false) (c2 : ((b : Int) == 2139095040) = false) (r t : Nat) (ht : IntKind.u64.wrap ((r : Int)) = (t : Int)) (f : (b : Int) / 8388608 = 0) (f2 : (b : Int) % 8388608 = (b : Int)) (S : Hid (∀ w, Calls Try.prog 40 #[.int .u64 (b : Nat), .int .i64 (-149), .int .i64 52, .int .i64 (-1074), .int .u64 9218868437227405312] w fun e w' => e = .returned (.int .u64 (r : Nat)) ∧ w' = w)) :
    Calls Try.prog 44 #[.bool false, .int .u64 (b : Nat), .int .i64 23, .int .i64 (-149), .int .u64 2139095040] w fun e w' => e = .returned (.float .f64 (t)) ∧ w' = w := by
  go_enter Try.func44, Try.ntmps44
  go_wp2_with fail
  refine (S.out _).mono ?_
  rintro e w' ⟨rfl, rfl⟩
  go_wp2_with fail
  refine (from_at (t : Int) t _ (by omega)).mono ?_
  rintro e w' ⟨rfl, rfl⟩
  go_wp2
  go_ret
  exact ⟨rfl, rfl⟩

set_option maxHeartbeats 1000000 in
theorem w32_highfalse (b : Nat) (w : World) (c1 : decide ((2139095040 : Int) < (b : Int)) = false) (c2 : ((b : Int) == 2139095040) = false) (r t : Nat) (ht : IntKind.u64.wrap ((r : Int)) = (t : Int)) (g : Int) (m : Nat) (f : (b : Int) / 8388608 = g) (g0 : 0 < g) (g1 : g < 5000) (q : Nat) (f2 : (b : Int) % 8388608 = (q : Int)) (f3 : IntKind.u64.wrap ((q : Int) + 8388608) = (m : Int)) (e : Int) (he : -149 + g - 1 = e) (S : Hid (∀ w, Calls Try.prog 40 #[.int .u64 (m : Nat), .int .i64 e, .int .i64 52, .int .i64 (-1074), .int .u64 9218868437227405312] w fun e w' => e = .returned (.int .u64 (r : Nat)) ∧ w' = w)) :
    Calls Try.prog 44 #[.bool false, .int .u64 (b : Nat), .int .i64 23, .int .i64 (-149), .int .u64 2139095040] w fun e w' => e = .returned (.float .f64 (t)) ∧ w' = w := by
  go_enter Try.func44, Try.ntmps44
  go_wp2_with fail
  refine (S.out _).mono ?_
  rintro e w' ⟨rfl, rfl⟩
  go_wp2_with fail
  refine (from_at (t : Int) t _ (by omega)).mono ?_
  rintro e w' ⟨rfl, rfl⟩
  go_wp2
  go_ret
  exact ⟨rfl, rfl⟩

set_option maxHeartbeats 1000000 in
theorem r16_nan (x : Nat) (w : World) (hx : Hid (x < 18446744073709551616)) (n : Bool) (fx : Hid (isN x = true)) (hn : Hid (ng x = n)) :
    Calls Try.prog 24 #[.float .f64 x] w fun e w' => e = .returned (.int .u16 (32256)) ∧ w' = w := by
  go_enter Try.func24, Try.ntmps24
  go_wp2_with fail
  refine (parts_nat x n _ hx.out fx.out hn.out).mono ?_
  rintro e w' ⟨rfl, rfl⟩
  go_wp2
  go_ret
  exact ⟨rfl, rfl⟩

set_option maxHeartbeats 1000000 in
theorem r16_inftrue (x : Nat) (w : World) (hx : Hid (x < 18446744073709551616)) (fx : Hid (mg x = 9218868437227405312)) (hn : Hid (ng x = true)) :
    Calls Try.prog 24 #[.float .f64 x] w fun e w' => e = .returned (.int .u16 (64512)) ∧ w' = w := by
  go_enter Try.func24, Try.ntmps24
  go_wp2_with fail
  refine (parts_iat x true _ hx.out fx.out hn.out).mono ?_
  rintro e w' ⟨rfl, rfl⟩
  go_wp2
  go_ret
  exact ⟨rfl, rfl⟩

set_option maxHeartbeats 1000000 in
theorem r16_fintrue (x : Nat) (w : World) (hx : Hid (x < 18446744073709551616)) (fx : Hid (mg x < 9218868437227405312)) (hn : Hid (ng x = true)) (m : Nat) (e : Int) (pm' : Hid (pm x = m)) (pe' : Hid (pe x = e)) (b c : Nat) (hb : IntKind.u64.wrap ((b : Int) + 32768) = (c : Int)) (hc : IntKind.u16.wrap (c : Int) = (c : Int)) (S : Hid (∀ w, Calls Try.prog 40 #[.int .u64 (m : Nat), .int .i64 e, .int .i64 10, .int .i64 (-24), .int .u64 31744] w fun e w' => e = .returned (.int .u64 (b : Nat)) ∧ w' = w)) :
    Calls Try.prog 24 #[.float .f64 x] w fun e w' => e = .returned (.int .u16 ((c : Nat))) ∧ w' = w := by
  go_enter Try.func24, Try.ntmps24
  go_wp2_with fail
  refine (parts_at x m e true _ hx.out fx.out pm'.out pe'.out hn.out).mono ?_
  rintro e w' ⟨rfl, rfl⟩
  go_wp2_with fail
  refine (S.out _).mono ?_
  rintro e w' ⟨rfl, rfl⟩
  go_wp2
  go_ret
  exact ⟨rfl, rfl⟩

set_option maxHeartbeats 1000000 in
theorem r16_inffalse (x : Nat) (w : World) (hx : Hid (x < 18446744073709551616)) (fx : Hid (mg x = 9218868437227405312)) (hn : Hid (ng x = false)) :
    Calls Try.prog 24 #[.float .f64 x] w fun e w' => e = .returned (.int .u16 (31744)) ∧ w' = w := by
  go_enter Try.func24, Try.ntmps24
  go_wp2_with fail
  refine (parts_iat x false _ hx.out fx.out hn.out).mono ?_
  rintro e w' ⟨rfl, rfl⟩
  go_wp2
  go_ret
  exact ⟨rfl, rfl⟩

set_option maxHeartbeats 1000000 in
theorem r16_finfalse (x : Nat) (w : World) (hx : Hid (x < 18446744073709551616)) (fx : Hid (mg x < 9218868437227405312)) (hn : Hid (ng x = false)) (m : Nat) (e : Int) (pm' : Hid (pm x = m)) (pe' : Hid (pe x = e)) (b : Nat) (hc : IntKind.u16.wrap (b : Int) = (b : Int)) (S : Hid (∀ w, Calls Try.prog 40 #[.int .u64 (m : Nat), .int .i64 e, .int .i64 10, .int .i64 (-24), .int .u64 31744] w fun e w' => e = .returned (.int .u64 (b : Nat)) ∧ w' = w)) :
    Calls Try.prog 24 #[.float .f64 x] w fun e w' => e = .returned (.int .u16 ((b : Nat))) ∧ w' = w := by
  go_enter Try.func24, Try.ntmps24
  go_wp2_with fail
  refine (parts_at x m e false _ hx.out fx.out pm'.out pe'.out hn.out).mono ?_
  rintro e w' ⟨rfl, rfl⟩
  go_wp2_with fail
  refine (S.out _).mono ?_
  rintro e w' ⟨rfl, rfl⟩
  go_wp2
  go_ret
  exact ⟨rfl, rfl⟩


theorem refTo16_at (x r : Nat) (w : World) (hx : x < 18446744073709551616) (hr : to16B x = r) :
    Calls Try.prog 24 #[.float .f64 x] w fun e w' => e = .returned (.int .u16 (r : Nat)) ∧ w' = w := by
  subst hr
  unfold to16B
  have wu : ∀ a : Nat, a < 65536 → IntKind.u16.wrap (a : Int) = (a : Int) := by
    intro a h
    simp [IntKind.wrap, IntKind.bits, IntKind.signed]; omega
  cases n : isN x
  · rw [if_neg (by decide)]
    have hle := isN_false.1 n
    have ht := t16_le x
    by_cases fx : mg x < 9218868437227405312
    · have hs := fun w => small10 (pm x) (pe x) (t16 x) w (pm_lt x) (pe_ge x) (pe_le x fx) (by rw [← mv_parts]; rfl)
      generalize t16 x = t at *
      cases hn : ng x
      · rw [if_neg (by decide)]
        exact r16_finfalse x w hx fx hn _ _ rfl rfl t (wu t (by omega)) hs
      · rw [if_pos rfl]
        exact r16_fintrue x w hx fx hn _ _ rfl rfl t (32768 + t) (by rw [wrap_id] <;> omega) (wu _ (by omega)) hs
    · have fi : mg x = 9218868437227405312 := by omega
      have e : t16 x = 31744 := t16_inf x (by omega)
      rw [e]
      cases hn : ng x
      · exact r16_inffalse x w hx fi hn
      · exact r16_inftrue x w hx fi hn
  · exact r16_nan x w hx _ n rfl
set_option maxHeartbeats 1000000 in
theorem w16_nantrue (b : Nat) (w : World) (c : (31744 : Int) < (b : Int)) :
    Calls Try.prog 44 #[.bool true, .int .u64 (b : Nat), .int .i64 10, .int .i64 (-24), .int .u64 31744] w fun e w' => e = .returned (.float .f64 (9221120237041090561)) ∧ w' = w := by
  go_enter Try.func44, Try.ntmps44
  go_wp2_with fail
  refine (from_at 9221120237041090561 9221120237041090561 _ (by decide)).mono ?_
  rintro e w' ⟨rfl, rfl⟩
  go_wp2
  go_ret
  exact ⟨rfl, rfl⟩

set_option maxHeartbeats 1000000 in
theorem w16_inftrue (b : Nat) (w : World) (c : b = 31744) :
    Calls Try.prog 44 #[.bool true, .int .u64 (b : Nat), .int .i64 10, .int .i64 (-24), .int .u64 31744] w fun e w' => e = .returned (.float .f64 (18442240474082181120)) ∧ w' = w := by
  subst c
  go_enter Try.func44, Try.ntmps44
  go_wp2_with fail
  refine (from_at 18442240474082181120 18442240474082181120 _ (by decide)).mono ?_
  rintro e w' ⟨rfl, rfl⟩
  go_wp2
  go_ret
  exact ⟨rfl, rfl⟩

set_option maxHeartbeats 1000000 in
theorem w16_lowtrue (b : Nat) (w : World) (c1 : decide ((31744 : Int) < (b : Int)) = false) (c2 : ((b : Int) == 31744) = false) (r t : Nat) (ht : IntKind.u64.wrap (9223372036854775808 + (r : Int)) = (t : Int)) (f : (b : Int) / 1024 = 0) (f2 : (b : Int) % 1024 = (b : Int)) (S : Hid (∀ w, Calls Try.prog 40 #[.int .u64 (b : Nat), .int .i64 (-24), .int .i64 52, .int .i64 (-1074), .int .u64 9218868437227405312] w fun e w' => e = .returned (.int .u64 (r : Nat)) ∧ w' = w)) :
    Calls Try.prog 44 #[.bool true, .int .u64 (b : Nat), .int .i64 10, .int .i64 (-24), .int .u64 31744] w fun e w' => e = .returned (.float .f64 (t)) ∧ w' = w := by
  go_enter Try.func44, Try.ntmps44
  go_wp2_with fail
  refine (S.out _).mono ?_
  rintro e w' ⟨rfl, rfl⟩
  go_wp2_with fail
  refine (from_at (t : Int) t _ (by omega)).mono ?_
  rintro e w' ⟨rfl, rfl⟩
  go_wp2
  go_ret
  exact ⟨rfl, rfl⟩

set_option maxHeartbeats 1000000 in
theorem w16_hightrue (b : Nat) (w : World) (c1 : decide ((31744 : Int) < (b : Int)) = false) (c2 : ((b : Int) == 31744) = false) (r t : Nat) (ht : IntKind.u64.wrap (9223372036854775808 + (r : Int)) = (t : Int)) (g : Int) (m : Nat) (f : (b : Int) / 1024 = g) (g0 : 0 < g) (g1 : g < 5000) (q : Nat) (f2 : (b : Int) % 1024 = (q : Int)) (f3 : IntKind.u64.wrap ((q : Int) + 1024) = (m : Int)) (e : Int) (he : -24 + g - 1 = e) (S : Hid (∀ w, Calls Try.prog 40 #[.int .u64 (m : Nat), .int .i64 e, .int .i64 52, .int .i64 (-1074), .int .u64 9218868437227405312] w fun e w' => e = .returned (.int .u64 (r : Nat)) ∧ w' = w)) :
    Calls Try.prog 44 #[.bool true, .int .u64 (b : Nat), .int .i64 10, .int .i64 (-24), .int .u64 31744] w fun e w' => e = .returned (.float .f64 (t)) ∧ w' = w := by
  go_enter Try.func44, Try.ntmps44
  go_wp2_with fail
  refine (S.out _).mono ?_
  rintro e w' ⟨rfl, rfl⟩
  go_wp2_with fail
  refine (from_at (t : Int) t _ (by omega)).mono ?_
  rintro e w' ⟨rfl, rfl⟩
  go_wp2
  go_ret
  exact ⟨rfl, rfl⟩

set_option maxHeartbeats 1000000 in
theorem w16_nanfalse (b : Nat) (w : World) (c : (31744 : Int) < (b : Int)) :
    Calls Try.prog 44 #[.bool false, .int .u64 (b : Nat), .int .i64 10, .int .i64 (-24), .int .u64 31744] w fun e w' => e = .returned (.float .f64 (9221120237041090561)) ∧ w' = w := by
  go_enter Try.func44, Try.ntmps44
  go_wp2_with fail
  refine (from_at 9221120237041090561 9221120237041090561 _ (by decide)).mono ?_
  rintro e w' ⟨rfl, rfl⟩
  go_wp2
  go_ret
  exact ⟨rfl, rfl⟩

set_option maxHeartbeats 1000000 in
theorem w16_inffalse (b : Nat) (w : World) (c : b = 31744) :
    Calls Try.prog 44 #[.bool false, .int .u64 (b : Nat), .int .i64 10, .int .i64 (-24), .int .u64 31744] w fun e w' => e = .returned (.float .f64 (9218868437227405312)) ∧ w' = w := by
  subst c
  go_enter Try.func44, Try.ntmps44
  go_wp2_with fail
  refine (from_at 9218868437227405312 9218868437227405312 _ (by decide)).mono ?_
  rintro e w' ⟨rfl, rfl⟩
  go_wp2
  go_ret
  exact ⟨rfl, rfl⟩

set_option maxHeartbeats 1000000 in
theorem w16_lowfalse (b : Nat) (w : World) (c1 : decide ((31744 : Int) < (b : Int)) = false) (c2 : ((b : Int) == 31744) = false) (r t : Nat) (ht : IntKind.u64.wrap ((r : Int)) = (t : Int)) (f : (b : Int) / 1024 = 0) (f2 : (b : Int) % 1024 = (b : Int)) (S : Hid (∀ w, Calls Try.prog 40 #[.int .u64 (b : Nat), .int .i64 (-24), .int .i64 52, .int .i64 (-1074), .int .u64 9218868437227405312] w fun e w' => e = .returned (.int .u64 (r : Nat)) ∧ w' = w)) :
    Calls Try.prog 44 #[.bool false, .int .u64 (b : Nat), .int .i64 10, .int .i64 (-24), .int .u64 31744] w fun e w' => e = .returned (.float .f64 (t)) ∧ w' = w := by
  go_enter Try.func44, Try.ntmps44
  go_wp2_with fail
  refine (S.out _).mono ?_
  rintro e w' ⟨rfl, rfl⟩
  go_wp2_with fail
  refine (from_at (t : Int) t _ (by omega)).mono ?_
  rintro e w' ⟨rfl, rfl⟩
  go_wp2
  go_ret
  exact ⟨rfl, rfl⟩

set_option maxHeartbeats 1000000 in
theorem w16_highfalse (b : Nat) (w : World) (c1 : decide ((31744 : Int) < (b : Int)) = false) (c2 : ((b : Int) == 31744) = false) (r t : Nat) (ht : IntKind.u64.wrap ((r : Int)) = (t : Int)) (g : Int) (m : Nat) (f : (b : Int) / 1024 = g) (g0 : 0 < g) (g1 : g < 5000) (q : Nat) (f2 : (b : Int) % 1024 = (q : Int)) (f3 : IntKind.u64.wrap ((q : Int) + 1024) = (m : Int)) (e : Int) (he : -24 + g - 1 = e) (S : Hid (∀ w, Calls Try.prog 40 #[.int .u64 (m : Nat), .int .i64 e, .int .i64 52, .int .i64 (-1074), .int .u64 9218868437227405312] w fun e w' => e = .returned (.int .u64 (r : Nat)) ∧ w' = w)) :
    Calls Try.prog 44 #[.bool false, .int .u64 (b : Nat), .int .i64 10, .int .i64 (-24), .int .u64 31744] w fun e w' => e = .returned (.float .f64 (t)) ∧ w' = w := by
  go_enter Try.func44, Try.ntmps44
  go_wp2_with fail
  refine (S.out _).mono ?_
  rintro e w' ⟨rfl, rfl⟩
  go_wp2_with fail
  refine (from_at (t : Int) t _ (by omega)).mono ?_
  rintro e w' ⟨rfl, rfl⟩
  go_wp2
  go_ret
  exact ⟨rfl, rfl⟩

end Go.Proofs.Ytpncpbpdbdlamaa.Ref2
