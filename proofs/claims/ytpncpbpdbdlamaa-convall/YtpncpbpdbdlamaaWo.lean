/-
  From32 and From16 of the reference of layer 2 answer what the code's do: walks over the program.
-/
import Derived.Test.YtpncpbpdbdlamaaWu
namespace Go.Proofs.Ytpncpbpdbdlamaa.Ref2
open Go.RowKit Tf
attribute [local go_sem] run_bits run_from raw_feq raw_fne raw_flt raw_fgt run_neg

theorem w32_at (n : Bool) (b : Nat) (w : World) (hb : b < 2147483648) :
    Calls Try.prog 44 #[.bool n, .int .u64 (b : Nat), .int .i64 23, .int .i64 (-149), .int .u64 2139095040] w fun e w' => e = .returned (.float .f64 (if 2139095040 < b then quiet else if n then 9223372036854775808 + (if b = 2139095040 then 9218868437227405312 else D32 b) else (if b = 2139095040 then 9218868437227405312 else D32 b))) ∧ w' = w := by
  by_cases c : 2139095040 < b
  · rw [if_pos c]
    cases n
    · exact w32_nanfalse b w (by omega)
    · exact w32_nantrue b w (by omega)
  · rw [if_neg c]
    by_cases c2 : b = 2139095040
    · rw [if_pos c2]
      cases n
      · exact w32_inffalse b w c2
      · exact w32_inftrue b w c2
    · rw [if_neg c2]
      have hl := D32_lt b (by omega)
      have d1 : decide ((2139095040 : Int) < (b : Int)) = false := decide_eq_false (by omega)
      have d2 : ((b : Int) == 2139095040) = false := by simp; omega
      have hp : (2 : Nat) ^ 23 = 8388608 := by decide
      have hK : (-149 + 1074 : Int) = (K2 : Int) := by rw [K2_eq]; decide
      have ht : ∀ y : Nat, y < 18446744073709551616 → IntKind.u64.wrap (y : Int) = (y : Int) := fun y h => by rw [wrap_id] <;> omega
      by_cases f : b < 8388608
      · have S := fun w => small52 b (-149) (D32 b) w (by omega) (by decide) (by decide) (by
          have e : (-149 + 1074 : Int).toNat = K2 := by rw [hK]; simp
          have em : mag 23 b = b := by unfold mag; rw [hp, if_pos f]
          rw [e]
          unfold D32 at hl ⊢
          rw [em] at hl ⊢
          exact Nat.min_eq_left (by omega))
        generalize D32 b = y at *
        cases n
        · exact w32_lowfalse b w d1 d2 y y (ht y (by omega)) (by omega) (by omega) S
        · exact w32_lowtrue b w d1 d2 y (9223372036854775808 + y) (by rw [wrap_id] <;> omega) (by omega) (by omega) S
      · have S := fun w => small52 (b % 8388608 + 8388608) (-149 + ((b / 8388608 : Nat) : Int) - 1) (D32 b) w (by omega) (by omega) (by omega) (by
          have e : (-149 + ((b / 8388608 : Nat) : Int) - 1 + 1074 : Int).toNat = (b / 8388608 - 1) + K2 := by have := K2_eq; omega
          have em : mag 23 b = (b % 8388608 + 8388608) * 2 ^ (b / 8388608 - 1) := by unfold mag; rw [hp, if_neg f, Nat.add_comm]
          rw [e, Nat.pow_add, ← Nat.mul_assoc, ← em]
          unfold D32 at hl ⊢
          exact Nat.min_eq_left (by omega))
        generalize D32 b = y at *
        cases n
        · exact w32_highfalse b w d1 d2 y y (ht y (by omega)) _ _ rfl (by omega) (by omega) (b % 8388608) (by omega) (by rw [wrap_id] <;> omega) _ rfl S
        · exact w32_hightrue b w d1 d2 y (9223372036854775808 + y) (by rw [wrap_id] <;> omega) _ _ rfl (by omega) (by omega) (b % 8388608) (by omega) (by rw [wrap_id] <;> omega) _ rfl S
set_option maxHeartbeats 1000000 in
theorem rf32_w (b m : Nat) (n : Bool) (y : Nat) (w : World) (hn : ((b : Int) / 2147483648 == 1) = n) (hm : (b : Int) % 2147483648 = (m : Int)) (W : Hid (∀ w, Calls Try.prog 44 #[.bool n, .int .u64 (m : Nat), .int .i64 23, .int .i64 (-149), .int .u64 2139095040] w fun e w' => e = .returned (.float .f64 y) ∧ w' = w)) :
    Calls Try.prog 22 #[.int .u32 (b : Nat)] w fun e w' => e = .returned (.float .f64 y) ∧ w' = w := by
  go_enter Try.func22, Try.ntmps22
  go_wp2_with fail
  refine (W.out _).mono ?_
  rintro e w' ⟨rfl, rfl⟩
  go_wp2
  go_ret
  exact ⟨rfl, rfl⟩

theorem refFrom32_at (b r : Nat) (w : World) (hb : b < 4294967296) (hr : from32B b = r) :
    Calls Try.prog 22 #[.int .u32 (b : Nat)] w fun e w' => e = .returned (.float .f64 r) ∧ w' = w := by
  subst hr
  have hn : ((b : Int) / 2147483648 == 1) = ng32 b := by
    unfold ng32
    by_cases c : 2147483648 ≤ b
    · rw [decide_eq_true c]; simp; omega
    · rw [decide_eq_false c]; simp; omega
  have hm : (b : Int) % 2147483648 = ((mg32 b : Nat) : Int) := by unfold mg32; omega
  refine rf32_w b (mg32 b) _ _ w hn hm (fun w => ?_)
  have h := w32_at (ng32 b) (mg32 b) w (by unfold mg32; omega)
  unfold from32B
  exact h

theorem w16_at (n : Bool) (b : Nat) (w : World) (hb : b < 32768) :
    Calls Try.prog 44 #[.bool n, .int .u64 (b : Nat), .int .i64 10, .int .i64 (-24), .int .u64 31744] w fun e w' => e = .returned (.float .f64 (if 31744 < b then quiet else if n then 9223372036854775808 + (if b = 31744 then 9218868437227405312 else D16 b) else (if b = 31744 then 9218868437227405312 else D16 b))) ∧ w' = w := by
  by_cases c : 31744 < b
  · rw [if_pos c]
    cases n
    · exact w16_nanfalse b w (by omega)
    · exact w16_nantrue b w (by omega)
  · rw [if_neg c]
    by_cases c2 : b = 31744
    · rw [if_pos c2]
      cases n
      · exact w16_inffalse b w c2
      · exact w16_inftrue b w c2
    · rw [if_neg c2]
      have hl := D16_lt b (by omega)
      have d1 : decide ((31744 : Int) < (b : Int)) = false := decide_eq_false (by omega)
      have d2 : ((b : Int) == 31744) = false := by simp; omega
      have hp : (2 : Nat) ^ 10 = 1024 := by decide
      have hK : (-24 + 1074 : Int) = (H2 : Int) := by rw [H2_eq]; decide
      have ht : ∀ y : Nat, y < 18446744073709551616 → IntKind.u64.wrap (y : Int) = (y : Int) := fun y h => by rw [wrap_id] <;> omega
      by_cases f : b < 1024
      · have S := fun w => small52 b (-24) (D16 b) w (by omega) (by decide) (by decide) (by
          have e : (-24 + 1074 : Int).toNat = H2 := by rw [hK]; simp
          have em : mag 10 b = b := by unfold mag; rw [hp, if_pos f]
          rw [e]
          unfold D16 at hl ⊢
          rw [em] at hl ⊢
          exact Nat.min_eq_left (by omega))
        generalize D16 b = y at *
        cases n
        · exact w16_lowfalse b w d1 d2 y y (ht y (by omega)) (by omega) (by omega) S
        · exact w16_lowtrue b w d1 d2 y (9223372036854775808 + y) (by rw [wrap_id] <;> omega) (by omega) (by omega) S
      · have S := fun w => small52 (b % 1024 + 1024) (-24 + ((b / 1024 : Nat) : Int) - 1) (D16 b) w (by omega) (by omega) (by omega) (by
          have e : (-24 + ((b / 1024 : Nat) : Int) - 1 + 1074 : Int).toNat = (b / 1024 - 1) + H2 := by have := H2_eq; omega
          have em : mag 10 b = (b % 1024 + 1024) * 2 ^ (b / 1024 - 1) := by unfold mag; rw [hp, if_neg f, Nat.add_comm]
          rw [e, Nat.pow_add, ← Nat.mul_assoc, ← em]
          unfold D16 at hl ⊢
          exact Nat.min_eq_left (by omega))
        generalize D16 b = y at *
        cases n
        · exact w16_highfalse b w d1 d2 y y (ht y (by omega)) _ _ rfl (by omega) (by omega) (b % 1024) (by omega) (by rw [wrap_id] <;> omega) _ rfl S
        · exact w16_hightrue b w d1 d2 y (9223372036854775808 + y) (by rw [wrap_id] <;> omega) _ _ rfl (by omega) (by omega) (b % 1024) (by omega) (by rw [wrap_id] <;> omega) _ rfl S
set_option maxHeartbeats 1000000 in
theorem rf16_w (b m : Nat) (n : Bool) (y : Nat) (w : World) (hn : ((b : Int) / 32768 == 1) = n) (hm : (b : Int) % 32768 = (m : Int)) (W : Hid (∀ w, Calls Try.prog 44 #[.bool n, .int .u64 (m : Nat), .int .i64 10, .int .i64 (-24), .int .u64 31744] w fun e w' => e = .returned (.float .f64 y) ∧ w' = w)) :
    Calls Try.prog 26 #[.int .u16 (b : Nat)] w fun e w' => e = .returned (.float .f64 y) ∧ w' = w := by
  go_enter Try.func26, Try.ntmps26
  go_wp2_with fail
  refine (W.out _).mono ?_
  rintro e w' ⟨rfl, rfl⟩
  go_wp2
  go_ret
  exact ⟨rfl, rfl⟩

theorem refFrom16_at (b r : Nat) (w : World) (hb : b < 65536) (hr : from16B b = r) :
    Calls Try.prog 26 #[.int .u16 (b : Nat)] w fun e w' => e = .returned (.float .f64 r) ∧ w' = w := by
  subst hr
  have hn : ((b : Int) / 32768 == 1) = ng16 b := by
    unfold ng16
    by_cases c : 32768 ≤ b
    · rw [decide_eq_true c]; simp; omega
    · rw [decide_eq_false c]; simp; omega
  have hm : (b : Int) % 32768 = ((b % 32768 : Nat) : Int) := by omega
  refine rf16_w b (b % 32768) _ _ w hn hm (fun w => ?_)
  have h := w16_at (ng16 b) (b % 32768) w (by omega)
  unfold from16B
  exact h
end Go.Proofs.Ytpncpbpdbdlamaa.Ref2
