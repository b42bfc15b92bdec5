/-
  What the first calls of the reference of layer 2 return: walks over the program.
-/
import Derived.Test.YtpncpbpdbdlamaaWk
import Derived.Test.YtpncpbpdbdlamaaPo
namespace Go.Proofs.Ytpncpbpdbdlamaa.Ref2
open Go.RowKit Tf
attribute [local go_sem] run_bits run_from raw_feq raw_fne raw_flt raw_fgt run_neg

set_option maxHeartbeats 400000 in
theorem rawBits_any (x : Nat) (w : World) :
    Calls Try.prog 27 #[.float .f64 x] w fun e w' => e = .returned (.int .u64 (x : Nat)) ∧ w' = w := by
  go_enter Try.func27, Try.ntmps27
  go_wp2
  go_ret
  exact ⟨rfl, rfl⟩

theorem from_at (a : Int) (r : Nat) (w : World) (hr : a.toNat = r) :
    Calls Try.prog 28 #[.int .u64 a] w fun e w' => e = .returned (.float .f64 r) ∧ w' = w := by
  subst hr; exact from_any a w

/-- a float's parts -/
def pm (x : Nat) : Nat := if mg x / 4503599627370496 = 0 then mg x else mg x % 4503599627370496 + 4503599627370496
def pe (x : Nat) : Int := if mg x / 4503599627370496 = 0 then -1074 else ((mg x / 4503599627370496 : Nat) : Int) - 1075
theorem pm_lt (x : Nat) : pm x < 9007199254740992 := by unfold pm; split <;> omega
theorem pe_ge (x : Nat) : -1074 ≤ pe x := by unfold pe; split <;> omega
theorem pe_le (x : Nat) (h : mg x < 9218868437227405312) : pe x ≤ 971 := by unfold pe; split <;> omega
theorem mv_parts (x : Nat) : mv (mg x) = pm x * 2 ^ (pe x + 1074).toNat := by
  have e : (2 : Nat) ^ 52 = 4503599627370496 := by decide
  unfold mv mag pm pe
  rw [e]
  by_cases h : mg x / 4503599627370496 = 0
  · rw [if_pos h, if_pos h, if_pos (by omega)]; simp
  · rw [if_neg h, if_neg h, if_neg (by omega)]
    have e2 : (((mg x / 4503599627370496 : Nat) : Int) - 1075 + 1074).toNat = mg x / 4503599627370496 - 1 := by omega
    rw [e2, Nat.add_comm]
set_option maxHeartbeats 1000000 in
theorem parts_inf (x : Nat) (n : Bool) (w : World) (hn : ((x : Int) / 9223372036854775808 == 1) = n) (h1 : (x : Int) / 4503599627370496 % 2048 = 2047) (h2 : ((x : Int) % 4503599627370496 == 0) = true) :
    Calls Try.prog 32 #[.float .f64 x] w fun e w' => e = .returned (.tuple #[.bool n, .int .u64 0, .int .i64 0, .int .i64 1]) ∧ w' = w := by
  go_enter Try.func32, Try.ntmps32
  go_wp2_with fail
  refine (rawBits_any x _).mono ?_
  rintro e w' ⟨rfl, rfl⟩
  go_wp2
  refine bodyPost_ret (v := .tuple #[.bool n, .int .u64 0, .int .i64 0, .int .i64 1]) (by simp [results, Try.results32, go_sem]) rfl ⟨rfl, rfl⟩

set_option maxHeartbeats 1000000 in
theorem parts_nan (x : Nat) (n : Bool) (w : World) (hn : ((x : Int) / 9223372036854775808 == 1) = n) (h1 : (x : Int) / 4503599627370496 % 2048 = 2047) (h2 : ((x : Int) % 4503599627370496 == 0) = false) :
    Calls Try.prog 32 #[.float .f64 x] w fun e w' => e = .returned (.tuple #[.bool n, .int .u64 0, .int .i64 0, .int .i64 2]) ∧ w' = w := by
  go_enter Try.func32, Try.ntmps32
  go_wp2_with fail
  refine (rawBits_any x _).mono ?_
  rintro e w' ⟨rfl, rfl⟩
  go_wp2
  refine bodyPost_ret (v := .tuple #[.bool n, .int .u64 0, .int .i64 0, .int .i64 2]) (by simp [results, Try.results32, go_sem]) rfl ⟨rfl, rfl⟩

set_option maxHeartbeats 1000000 in
theorem parts_sub (x : Nat) (n : Bool) (w : World) (hn : ((x : Int) / 9223372036854775808 == 1) = n) (h1 : (x : Int) / 4503599627370496 % 2048 = 0) (m : Nat) (h2 : (x : Int) % 4503599627370496 = m) :
    Calls Try.prog 32 #[.float .f64 x] w fun e w' => e = .returned (.tuple #[.bool n, .int .u64 (m : Nat), .int .i64 (-1074), .int .i64 0]) ∧ w' = w := by
  go_enter Try.func32, Try.ntmps32
  go_wp2_with fail
  refine (rawBits_any x _).mono ?_
  rintro e w' ⟨rfl, rfl⟩
  go_wp2
  refine bodyPost_ret (v := .tuple #[.bool n, .int .u64 (m : Nat), .int .i64 (-1074), .int .i64 0]) (by simp [results, Try.results32, go_sem, h2]) rfl ⟨rfl, rfl⟩

set_option maxHeartbeats 1000000 in
theorem parts_nor (x : Nat) (n : Bool) (w : World) (hn : ((x : Int) / 9223372036854775808 == 1) = n) (f : Int) (h1 : (x : Int) / 4503599627370496 % 2048 = f) (h3 : (f == 2047) = false) (h4 : (f == 0) = false) (m : Nat) (h2 : (x : Int) % 4503599627370496 = m) :
    Calls Try.prog 32 #[.float .f64 x] w fun e w' => e = .returned (.tuple #[.bool n, .int .u64 ((m : Nat) + 4503599627370496), .int .i64 (f - 1075), .int .i64 0]) ∧ w' = w := by
  go_enter Try.func32, Try.ntmps32
  go_wp2_with fail
  refine (rawBits_any x _).mono ?_
  rintro e w' ⟨rfl, rfl⟩
  go_wp2
  refine bodyPost_ret (v := .tuple #[.bool n, .int .u64 ((m : Nat) + 4503599627370496), .int .i64 (f - 1075), .int .i64 0]) (by simp [results, Try.results32, go_sem]) rfl ⟨rfl, rfl⟩


/-- what kind: 0 finite, 1 an infinity, 2 a NaN -/
theorem parts_fin (x : Nat) (w : World) (hx : x < 18446744073709551616) (fx : mg x < 9218868437227405312) :
    Calls Try.prog 32 #[.float .f64 x] w fun e w' => e = .returned (.tuple #[.bool (ng x), .int .u64 (pm x : Nat), .int .i64 (pe x), .int .i64 0]) ∧ w' = w := by
  have hn : ((x : Int) / 9223372036854775808 == 1) = ng x := by
    unfold ng
    by_cases c : 9223372036854775808 ≤ x
    · rw [decide_eq_true c]; simp; omega
    · rw [decide_eq_false c]; simp; omega
  have hf : (x : Int) / 4503599627370496 % 2048 = ((mg x / 4503599627370496 : Nat) : Int) := by unfold mg; omega
  have hm : (x : Int) % 4503599627370496 = ((mg x % 4503599627370496 : Nat) : Int) := by unfold mg; omega
  unfold pm pe
  by_cases c : mg x / 4503599627370496 = 0
  · rw [if_pos c, if_pos c]
    have e : mg x % 4503599627370496 = mg x := by omega
    rw [e] at hm
    exact parts_sub x _ w hn (by rw [hf, c]; rfl) _ hm
  · rw [if_neg c, if_neg c]
    have := parts_nor x _ w hn _ hf (by simp; omega) (by simp; omega) _ hm
    have e : ((mg x % 4503599627370496 + 4503599627370496 : Nat) : Int) = ((mg x % 4503599627370496 : Nat) : Int) + 4503599627370496 := by omega
    rw [e]; exact this
theorem parts_i (x : Nat) (w : World) (hx : x < 18446744073709551616) (fx : mg x = 9218868437227405312) :
    Calls Try.prog 32 #[.float .f64 x] w fun e w' => e = .returned (.tuple #[.bool (ng x), .int .u64 0, .int .i64 0, .int .i64 1]) ∧ w' = w := by
  have hn : ((x : Int) / 9223372036854775808 == 1) = ng x := by
    unfold ng
    by_cases c : 9223372036854775808 ≤ x
    · rw [decide_eq_true c]; simp; omega
    · rw [decide_eq_false c]; simp; omega
  unfold mg at fx
  exact parts_inf x _ w hn (by omega) (by simp; omega)
theorem parts_n (x : Nat) (w : World) (hx : x < 18446744073709551616) (n : isN x = true) :
    Calls Try.prog 32 #[.float .f64 x] w fun e w' => e = .returned (.tuple #[.bool (ng x), .int .u64 0, .int .i64 0, .int .i64 2]) ∧ w' = w := by
  have hn : ((x : Int) / 9223372036854775808 == 1) = ng x := by
    unfold ng
    by_cases c : 9223372036854775808 ≤ x
    · rw [decide_eq_true c]; simp; omega
    · rw [decide_eq_false c]; simp; omega
  have h := isN_true.1 n
  unfold mg at h
  exact parts_nan x _ w hn (by omega) (by simp; omega)

/-- what is left behind a shift: 0 nothing, 1 less than a half, 2 a half, 3 more -/
def rc (m k : Nat) : Int := if m % 2 ^ k = 0 then 0 else if 2 * (m % 2 ^ k) < 2 ^ k then 1 else if 2 * (m % 2 ^ k) = 2 ^ k then 2 else 3
set_option maxHeartbeats 1000000 in
theorem down_g0 (m k : Nat) (w : World) (h : (63 : Int) < k) (h0 : m = 0) :
    Calls Try.prog 37 #[.int .u64 (m : Nat), .int .i64 (k : Nat)] w fun e w' => e = .returned (.tuple #[.int .u64 0, .int .i64 0]) ∧ w' = w := by
  subst h0
  go_enter Try.func37, Try.ntmps37
  go_wp2
  go_ret2
  exact ⟨rfl, rfl⟩

set_option maxHeartbeats 1000000 in
theorem down_g1 (m k : Nat) (w : World) (h : (63 : Int) < k) (h0 : ((m : Int) == 0) = false) :
    Calls Try.prog 37 #[.int .u64 (m : Nat), .int .i64 (k : Nat)] w fun e w' => e = .returned (.tuple #[.int .u64 0, .int .i64 1]) ∧ w' = w := by
  go_enter Try.func37, Try.ntmps37
  go_wp2
  go_ret2
  exact ⟨rfl, rfl⟩

set_option maxHeartbeats 1000000 in
theorem down_0 (m k : Nat) (w : World) (h : ¬ (63 : Int) < k) (k1 : (1 : Int) ≤ k) (q p r g : Nat) (q1 : (m : Int) / 2 ^ k = (q : Int)) (q2 : IntKind.u64.wrap ((q : Int) * 2 ^ k) = (p : Int)) (q3 : IntKind.u64.wrap ((m : Int) - (p : Int)) = (r : Int)) (q4 : IntKind.u64.wrap (2 ^ (k - 1)) = (g : Int)) (c : ((r : Int) == 0) = true) :
    Calls Try.prog 37 #[.int .u64 (m : Nat), .int .i64 (k : Nat)] w fun e w' => e = .returned (.tuple #[.int .u64 (q : Nat), .int .i64 0]) ∧ w' = w := by
  go_enter Try.func37, Try.ntmps37
  go_wp2
  go_ret2
  exact ⟨rfl, rfl⟩

set_option maxHeartbeats 1000000 in
theorem down_1 (m k : Nat) (w : World) (h : ¬ (63 : Int) < k) (k1 : (1 : Int) ≤ k) (q p r g : Nat) (q1 : (m : Int) / 2 ^ k = (q : Int)) (q2 : IntKind.u64.wrap ((q : Int) * 2 ^ k) = (p : Int)) (q3 : IntKind.u64.wrap ((m : Int) - (p : Int)) = (r : Int)) (q4 : IntKind.u64.wrap (2 ^ (k - 1)) = (g : Int)) (c : ((r : Int) == 0) = false) (c1 : r < g) :
    Calls Try.prog 37 #[.int .u64 (m : Nat), .int .i64 (k : Nat)] w fun e w' => e = .returned (.tuple #[.int .u64 (q : Nat), .int .i64 1]) ∧ w' = w := by
  go_enter Try.func37, Try.ntmps37
  go_wp2
  go_ret2
  exact ⟨rfl, rfl⟩

set_option maxHeartbeats 1000000 in
theorem down_2 (m k : Nat) (w : World) (h : ¬ (63 : Int) < k) (k1 : (1 : Int) ≤ k) (q p r g : Nat) (q1 : (m : Int) / 2 ^ k = (q : Int)) (q2 : IntKind.u64.wrap ((q : Int) * 2 ^ k) = (p : Int)) (q3 : IntKind.u64.wrap ((m : Int) - (p : Int)) = (r : Int)) (q4 : IntKind.u64.wrap (2 ^ (k - 1)) = (g : Int)) (c : ((r : Int) == 0) = false) (c1 : ¬ r < g) (c2 : ((r : Int) == (g : Int)) = true) :
    Calls Try.prog 37 #[.int .u64 (m : Nat), .int .i64 (k : Nat)] w fun e w' => e = .returned (.tuple #[.int .u64 (q : Nat), .int .i64 2]) ∧ w' = w := by
  go_enter Try.func37, Try.ntmps37
  go_wp2
  go_ret2
  exact ⟨rfl, rfl⟩

set_option maxHeartbeats 1000000 in
theorem down_3 (m k : Nat) (w : World) (h : ¬ (63 : Int) < k) (k1 : (1 : Int) ≤ k) (q p r g : Nat) (q1 : (m : Int) / 2 ^ k = (q : Int)) (q2 : IntKind.u64.wrap ((q : Int) * 2 ^ k) = (p : Int)) (q3 : IntKind.u64.wrap ((m : Int) - (p : Int)) = (r : Int)) (q4 : IntKind.u64.wrap (2 ^ (k - 1)) = (g : Int)) (c : ((r : Int) == 0) = false) (c1 : ¬ r < g) (c2 : ((r : Int) == (g : Int)) = false) :
    Calls Try.prog 37 #[.int .u64 (m : Nat), .int .i64 (k : Nat)] w fun e w' => e = .returned (.tuple #[.int .u64 (q : Nat), .int .i64 3]) ∧ w' = w := by
  go_enter Try.func37, Try.ntmps37
  go_wp2
  go_ret2
  exact ⟨rfl, rfl⟩


theorem wrap_id (a : Int) (h0 : 0 ≤ a) (h1 : a < 18446744073709551616) : IntKind.u64.wrap a = a := by
  simp [IntKind.wrap, IntKind.bits, IntKind.signed]; omega
/-- what the shift serves -/
def okm (m k : Nat) : Prop := m ≤ 9223372036854775808 ∧ (63 < k → m < 9223372036854775808)
theorem okm_of (m k : Nat) (h : m < 9223372036854775808) : okm m k := ⟨by omega, fun _ => h⟩
theorem down_any (m k : Nat) (w : World) (hm' : okm m k) (hk : 1 ≤ k) :
    Calls Try.prog 37 #[.int .u64 (m : Nat), .int .i64 (k : Nat)] w fun e w' => e = .returned (.tuple #[.int .u64 ((m / 2 ^ k : Nat) : Int), .int .i64 (rc m k)]) ∧ w' = w := by
  have hm : m ≤ 9223372036854775808 := hm'.1
  by_cases c : 63 < k
  · have hm2 := hm'.2 c
    have hp : 2 ^ 64 ≤ 2 ^ k := Nat.pow_le_pow_right (by omega) (by omega)
    have e1 : m / 2 ^ k = 0 := Nat.div_eq_of_lt (by omega)
    have e2 : m % 2 ^ k = m := Nat.mod_eq_of_lt (by omega)
    unfold rc
    rw [e1, e2]
    by_cases z : m = 0
    · rw [if_pos z]; exact down_g0 m k w (by omega) z
    · rw [if_neg z, if_pos (by omega)]; exact down_g1 m k w (by omega) (by simp; omega)
  · have hp0 := pow_pos k
    have hp : 2 ^ k ≤ 2 ^ 63 := Nat.pow_le_pow_right (by omega) (by omega)
    have hd := Nat.div_add_mod m (2 ^ k)
    have hr := Nat.mod_lt m hp0
    obtain ⟨j, rfl⟩ : ∃ j, k = j + 1 := ⟨k - 1, by omega⟩
    have hj : 2 ^ (j + 1) = 2 * 2 ^ j := by rw [Nat.pow_succ]; omega
    have hj0 := pow_pos j
    have q1 : (m : Int) / 2 ^ (j + 1) = ((m / 2 ^ (j + 1) : Nat) : Int) := by
      rw [Int.natCast_ediv]; rfl
    have q2 : IntKind.u64.wrap (((m / 2 ^ (j + 1) : Nat) : Int) * 2 ^ (j + 1)) = ((m / 2 ^ (j + 1) * 2 ^ (j + 1) : Nat) : Int) := by
      have e : ((m / 2 ^ (j + 1) : Nat) : Int) * 2 ^ (j + 1) = ((m / 2 ^ (j + 1) * 2 ^ (j + 1) : Nat) : Int) := by
        rw [Int.natCast_mul]; rfl
      rw [e, wrap_id]
      · omega
      · rw [Nat.mul_comm]; omega
    have q3 : IntKind.u64.wrap ((m : Int) - ((m / 2 ^ (j + 1) * 2 ^ (j + 1) : Nat) : Int)) = ((m % 2 ^ (j + 1) : Nat) : Int) := by
      rw [Nat.mul_comm, wrap_id] <;> omega
    have q4 : IntKind.u64.wrap (2 ^ (j + 1 - 1)) = ((2 ^ j : Nat) : Int) := by
      rw [show j + 1 - 1 = j by omega]
      have e : (2 : Int) ^ j = ((2 ^ j : Nat) : Int) := by rw [Int.natCast_pow]; rfl
      rw [e, wrap_id] <;> omega
    unfold rc
    rw [hj] at *
    generalize m / (2 * 2 ^ j) = q at *
    generalize m % (2 * 2 ^ j) = r at *
    rw [hj] at *
    by_cases z : r = 0
    · rw [if_pos z]; exact down_0 m (j + 1) w (by omega) (by omega) q _ r _ q1 q2 q3 q4 (by simp; omega)
    · have z' : ((r : Int) == 0) = false := by simp; omega
      rw [if_neg z]
      by_cases c1 : r < 2 ^ j
      · rw [if_pos (by omega)]; exact down_1 m (j + 1) w (by omega) (by omega) q _ r _ q1 q2 q3 q4 z' c1
      · rw [if_neg (by omega)]
        by_cases c2 : r = 2 ^ j
        · rw [if_pos (by omega)]; exact down_2 m (j + 1) w (by omega) (by omega) q _ r _ q1 q2 q3 q4 z' c1 (by rw [c2]; simp)
        · rw [if_neg (by omega)]; exact down_3 m (j + 1) w (by omega) (by omega) q _ r _ q1 q2 q3 q4 z' c1 (by
            have : ¬ (r : Int) = ((2 ^ j : Nat) : Int) := by omega
            simp only [beq_eq_false_iff_ne, ne_eq, this, not_false_eq_true])
end Go.Proofs.Ytpncpbpdbdlamaa.Ref2
