/-
  Some of the texts of this proof, one behind the other.
-/
import Derived.Test.YthdcfhaeiekpcaaY03
import Derived.Test.YthdcfhaeiekpcaaRows
import Derived.Test.YthdcfhaeiekpcaaY00
import Derived.Test.YthdcfhaeiekpcaaY02
import Derived.Deep.Draws
import Derived.Below
import Derived.Deep.RegionWith
import Derived.BigQuiet
import Derived.Deep.QuietTactic
import Derived.Deep.Quiet
import Derived.Deep.MidRow
import Derived.Deep.Cut
import Derived.Deep.CutRange
/-
  Square roots, held against halfway points, by plain numbers (no program).
-/
namespace Go.Proofs.Ythdcfhaeiekpcaa
open Tf Ieee
/-- the whole root twice, and one more where that isn't all -/
def stW (n : Nat) : Nat := 2 * isq n + (isq n * isq n != n).toNat
theorem st_lt {n y : Nat} (h : y * y < n) : 2 * y < stW n := by
  obtain ⟨a, b⟩ := isq_spec n
  unfold stW
  generalize isq n = q at *
  have h1 : y ≤ q := by
    rcases Nat.lt_or_ge q y with k | k
    · have := Nat.mul_le_mul (show q + 1 ≤ y by omega) (show q + 1 ≤ y by omega)
      omega
    · exact k
  by_cases c : y = q
  · subst c
    have : (y * y != n) = true := by simp; omega
    rw [this]; simp
  · have : (q * q != n).toNat ≤ 1 := by cases (q * q != n) <;> decide
    omega
theorem st_gt {n y : Nat} (h : n < y * y) : stW n < 2 * y := by
  obtain ⟨a, b⟩ := isq_spec n
  unfold stW
  generalize isq n = q at *
  have h1 : q < y := by
    rcases Nat.lt_or_ge q y with k | k
    · exact k
    · have := Nat.mul_le_mul k k
      omega
  have : (q * q != n).toNat ≤ 1 := by cases (q * q != n) <;> decide
  omega
theorem st_le {n y : Nat} (h : y * y ≤ n) : 2 * y ≤ stW n := by
  obtain ⟨a, b⟩ := isq_spec n
  unfold stW
  generalize isq n = q at *
  have h1 : y ≤ q := by
    rcases Nat.lt_or_ge q y with k | k
    · have := Nat.mul_le_mul (show q + 1 ≤ y by omega) (show q + 1 ≤ y by omega)
      omega
    · exact k
  omega
theorem mv_parts {r : Nat} (h : 4503599627370496 ≤ r) : mv r = (4503599627370496 + r % 4503599627370496) * 2 ^ (r / 4503599627370496 - 1) := by
  unfold mv mag
  have e : (2 : Nat) ^ 52 = 4503599627370496 := by decide
  rw [if_neg (by omega), e]
theorem mv_next (r : Nat) : mv (r + 1) = mv r + 2 ^ (r / 4503599627370496 - 1) := by
  have e : (2 : Nat) ^ 52 = 4503599627370496 := by decide
  have h := mag_succ 52 r
  unfold gap at h
  rw [e] at h
  exact h
/-- two numbers side by side that are great enough: their sum is a multiple of 2 ^ (d + 2) -/
theorem mid_mult {r d : Nat} (h : (d + 3) * 4503599627370496 ≤ r) : ∃ y, mv r + mv (r + 1) = y * 2 ^ (d + 2) := by
  rw [mv_next, mv_parts (by omega)]
  obtain ⟨j, hj⟩ : ∃ j, r / 4503599627370496 - 1 = d + 2 + j := by
    have : d + 3 ≤ r / 4503599627370496 := (Nat.le_div_iff_mul_le (by omega)).2 h
    exact ⟨r / 4503599627370496 - 1 - (d + 2), by omega⟩
  rw [hj]
  refine ⟨(2 * (4503599627370496 + r % 4503599627370496) + 1) * 2 ^ j, ?_⟩
  rw [Nat.pow_add 2 (d + 2) j]
  generalize 4503599627370496 + r % 4503599627370496 = a
  generalize 2 ^ (d + 2) = b
  generalize 2 ^ j = c
  rw [show a * (b * c) + (a * (b * c) + b * c) = (2 * a + 1) * (b * c) by rw [Nat.add_mul, Nat.mul_assoc 2, Nat.one_mul]; omega, Nat.mul_comm b c, Nat.mul_assoc]
theorem one_mult {r d : Nat} (h : (d + 3) * 4503599627370496 ≤ r) : ∃ y, 2 * mv r = y * 2 ^ (d + 2) := by
  rw [mv_parts (by omega)]
  obtain ⟨j, hj⟩ : ∃ j, r / 4503599627370496 - 1 = d + 2 + j := by
    have : d + 3 ≤ r / 4503599627370496 := (Nat.le_div_iff_mul_le (by omega)).2 h
    exact ⟨r / 4503599627370496 - 1 - (d + 2), by omega⟩
  rw [hj]
  refine ⟨2 * (4503599627370496 + r % 4503599627370496) * 2 ^ j, ?_⟩
  rw [Nat.pow_add 2 (d + 2) j]
  generalize 4503599627370496 + r % 4503599627370496 = a
  generalize 2 ^ (d + 2) = b
  generalize 2 ^ j = c
  rw [Nat.mul_comm b c, ← Nat.mul_assoc, ← Nat.mul_assoc]
theorem great_rung {r d W : Nat} (hW : 18014398509481984 ≤ W) (h : W * 2 ^ d < mv r) : (d + 3) * 4503599627370496 < r := by
  have e2 := mv_two_pow (d + 2) ((d + 3) * 4503599627370496) (by
    have e : (2 : Nat) ^ 52 = 4503599627370496 := by decide
    rw [e])
  have e3 : 2 ^ (52 + (d + 2)) = 18014398509481984 * 2 ^ d := by
    rw [show 52 + (d + 2) = 54 + d by omega, Nat.pow_add]
  have h1 : 18014398509481984 * 2 ^ d ≤ W * 2 ^ d := Nat.mul_le_mul_right _ hW
  have : mv ((d + 3) * 4503599627370496) < mv r := by omega
  exact mv_lt.1 this
theorem sq_scale (y d : Nat) : (y * 2 ^ (d + 2)) * (y * 2 ^ (d + 2)) = y * y * 2 ^ (2 * d + 4) := by
  rw [show 2 * d + 4 = (d + 2) + (d + 2) by omega, Nat.pow_add 2 (d + 2) (d + 2)]
  generalize 2 ^ (d + 2) = b
  rw [Nat.mul_mul_mul_comm]
theorem four_scale (n d : Nat) : 4 * (n * 2 ^ (2 * d + 2)) = n * 2 ^ (2 * d + 4) := by
  rw [show 2 * d + 4 = (2 * d + 2) + 2 by omega, Nat.pow_add 2 (2 * d + 2) 2]
  generalize 2 ^ (2 * d + 2) = b
  rw [show (2 : Nat) ^ 2 = 4 by decide, Nat.mul_comm b 4, Nat.mul_left_comm]
/-- above halfway: the root is at least the upper one -/
theorem rt_low {n d r : Nat} (hW : 18014398509481984 ≤ stW n) (h : (mv r + mv (r + 1)) * (mv r + mv (r + 1)) < 4 * (n * 2 ^ (2 * d + 2))) : r + 1 ≤ rung 52 0 (stW n * 2 ^ d) := by
  rcases Nat.lt_or_ge (stW n * 2 ^ d) (mv (r + 1)) with c | c
  · have hr := great_rung hW c
    obtain ⟨y, hy⟩ := mid_mult (r := r) (d := d) (by omega)
    rw [hy, sq_scale, four_scale] at h
    have h1 : y * y < n := Nat.lt_of_mul_lt_mul_right h
    have h2 := st_lt h1
    have h3 : mv r + mv (r + 1) < 2 * (stW n * 2 ^ d) := by
      rw [hy, show d + 2 = d + 1 + 1 by omega, Nat.pow_succ, Nat.pow_succ]
      have := (Nat.mul_lt_mul_right (Nat.two_pow_pos d)).2 h2
      generalize 2 ^ d = b at *
      generalize stW n = W at *
      have e1 : y * (b * 2 * 2) = 2 * (2 * y * b) := by rw [show b * 2 * 2 = b * 4 by omega, show 2 * (2 * y * b) = y * b * 4 by rw [Nat.mul_assoc 2 y b]; omega, Nat.mul_assoc]
      omega
    have hlow : mv r ≤ stW n * 2 ^ d := by
      have := mv_le (r := r) (r' := r + 1)
      omega
    have := rung_between 52 0 r (stW n * 2 ^ d) (by omega) (by rw [Nat.pow_zero, Nat.mul_one]; exact hlow) (by rw [Nat.pow_zero, Nat.mul_one]; exact c)
    rw [if_pos (.inl (by rw [Nat.pow_zero, Nat.mul_one]; exact h3))] at this
    omega
  · exact rung_ge (by omega) (by rw [Nat.pow_zero, Nat.mul_one]; exact c)
/-- below halfway: the root is at most the lower one -/
theorem rt_up {n d r : Nat} (hW : 18014398509481984 ≤ stW n) (h : 4 * (n * 2 ^ (2 * d + 2)) < (mv r + mv (r + 1)) * (mv r + mv (r + 1))) : rung 52 0 (stW n * 2 ^ d) ≤ r := by
  rcases Nat.lt_or_ge (stW n * 2 ^ d) (mv (r + 1)) with c | c
  · rcases Nat.lt_or_ge (mv r) (stW n * 2 ^ d) with c2 | c2
    · have hr := great_rung hW c
      obtain ⟨y, hy⟩ := mid_mult (r := r) (d := d) (by omega)
      rw [hy, sq_scale, four_scale] at h
      have h1 : n < y * y := Nat.lt_of_mul_lt_mul_right h
      have h2 := st_gt h1
      have h3 : 2 * (stW n * 2 ^ d) < mv r + mv (r + 1) := by
        rw [hy, show d + 2 = d + 1 + 1 by omega, Nat.pow_succ, Nat.pow_succ]
        have := (Nat.mul_lt_mul_right (Nat.two_pow_pos d)).2 h2
        generalize 2 ^ d = b at *
        generalize stW n = W at *
        have e1 : y * (b * 2 * 2) = 2 * (2 * y * b) := by rw [show b * 2 * 2 = b * 4 by omega, show 2 * (2 * y * b) = y * b * 4 by rw [Nat.mul_assoc 2 y b]; omega, Nat.mul_assoc]
        omega
      have := rung_between 52 0 r (stW n * 2 ^ d) (by omega) (by rw [Nat.pow_zero, Nat.mul_one]; exact Nat.le_of_lt c2) (by rw [Nat.pow_zero, Nat.mul_one]; exact c)
      rw [if_neg (by rw [Nat.pow_zero, Nat.mul_one]; show ¬ (mv r + mv (r + 1) < _ ∨ (mv r + mv (r + 1) = _ ∧ _)); omega)] at this
      omega
    · exact rung_le (by omega) (by rw [Nat.pow_zero, Nat.mul_one]; exact c2)
  · exfalso
    have hr : 2 * mv (r + 1) ≤ 2 * (stW n * 2 ^ d) := by omega
    have hn := (mv_le (r := r) (r' := r + 1)).2 (by omega)
    have c3 : mv r + mv (r + 1) ≤ 2 * mv (r + 1) := by omega
    -- the root is no less than the upper one, so halfway is below it
    by_cases g : (d + 3) * 4503599627370496 ≤ r
    · obtain ⟨y, hy⟩ := mid_mult (r := r) (d := d) g
      rw [hy, sq_scale, four_scale] at h
      have h1 : n < y * y := Nat.lt_of_mul_lt_mul_right h
      have h2 := st_gt h1
      have := (Nat.mul_lt_mul_right (Nat.two_pow_pos d)).2 h2
      rw [hy, show d + 2 = d + 1 + 1 by omega, Nat.pow_succ, Nat.pow_succ] at c3
      generalize 2 ^ d = b at *
      generalize stW n = W at *
      have e1 : y * (b * 2 * 2) = 2 * (2 * y * b) := by rw [show b * 2 * 2 = b * 4 by omega, show 2 * (2 * y * b) = y * b * 4 by rw [Nat.mul_assoc 2 y b]; omega, Nat.mul_assoc]
      omega
    · -- both are small: twice the upper one is at most 2 ^ (55 + d), and the root is at least that half
      have e2 := mv_two_pow (d + 2) ((d + 3) * 4503599627370496) (by
        have e : (2 : Nat) ^ 52 = 4503599627370496 := by decide
        rw [e])
      have hle : mv (r + 1) ≤ mv ((d + 3) * 4503599627370496) := mv_le.2 (by omega)
      have h5 : (mv r + mv (r + 1)) * (mv r + mv (r + 1)) ≤ (2 * 2 ^ (52 + (d + 2))) * (2 * 2 ^ (52 + (d + 2))) := Nat.mul_le_mul (by omega) (by omega)
      have h6 : (2 * 2 ^ (52 + (d + 2))) * (2 * 2 ^ (52 + (d + 2))) = 9007199254740992 * 9007199254740992 * 2 ^ (2 * d + 4) := by
        rw [show 2 * 2 ^ (52 + (d + 2)) = 9007199254740992 * 2 ^ (d + 2) by rw [Nat.pow_add 2 52 (d + 2), ← Nat.mul_assoc], sq_scale]
      rw [four_scale] at h
      have h7 : n < 9007199254740992 * 9007199254740992 := by
        refine Nat.lt_of_mul_lt_mul_right (a := 2 ^ (2 * d + 4)) ?_
        omega
      have := st_gt h7
      omega
/-- what the root of a number is -/
theorem sqrt_core {T : Nat} (hT : T < 18446744073709551616) (hn : ng T = false) (h1 : 4503599627370496 ≤ mg T) (h2 : mg T < 9218868437227405312) :
    ∃ n d, mv (mg T) * 2 ^ K = n * 2 ^ (2 * d + 2) ∧ 18014398509481984 ≤ stW n ∧ rtB T = rung 52 0 (stW n * 2 ^ d) ∧ 4503599627370496 ≤ rtB T ∧ rtB T ≤ 6976075822796898304 := by
  have e1 := sqrt_eq hT hn h1 h2
  have hp := mv_parts h1
  have hq : mg T % 4503599627370496 < 4503599627370496 := Nat.mod_lt _ (by omega)
  generalize hm : 4503599627370496 + mg T % 4503599627370496 = m at e1 hp
  have hl : m.log2 = 52 := by rw [← hm]; exact log_m _ hq
  have hk : mg T / 4503599627370496 - 1 ≤ 2045 := by omega
  generalize mg T / 4503599627370496 - 1 = k at e1 hp hk
  have hlp := d_lp
  generalize hi : double.leastPlace + (k : Int) = i at e1
  obtain ⟨m1, m2, m3, m4⟩ := rtM_val i hl
  generalize rtM m i = s at *
  obtain ⟨w1, w2⟩ := rtW_val (m := m) (s := s) (by omega) (by omega) ⟨m1, m2⟩
  have hst : rtW m s = stW (m <<< s) := rfl
  obtain ⟨d, hd⟩ : ∃ d : Nat, (i - (s : Int)) / 2 - 1 = double.leastPlace + (d : Int) := ⟨((i - (s : Int)) / 2 - 1 - double.leastPlace).toNat, by omega⟩
  have hdle : d ≤ 1531 := by omega
  have hks : k + K = s + (2 * d + 2) := by
    have : K = 1074 := rfl
    omega
  rw [nearest_up double false (rtW m s) d _ hd, d_word, d_inf] at e1
  generalize rtW m s = W at *
  have h0 : W * 2 ^ d ≠ 0 := Nat.mul_ne_zero (by omega) (by have := Nat.two_pow_pos d; omega)
  have hlog : 52 + 0 ≤ (W * 2 ^ d).log2 := by
    refine (Nat.le_log2 h0).2 ?_
    have e : (2 : Nat) ^ (52 + 0) = 4503599627370496 := by decide
    rw [e]
    have := Nat.two_pow_pos d
    exact Nat.le_trans (by omega) (Nat.le_mul_of_pos_right W this)
  have hb := rung_big hlog h0
  have hW57 : W ≤ 2 ^ 57 := by
    have e : (2 : Nat) ^ 57 = 144115188075855872 := by decide
    omega
  have hle := rung_E16 (le_E16 hW57 hdle)
  have hfb : double.fractionBits = 52 := rfl
  rw [hfb] at e1
  refine ⟨m <<< s, d, ?_, by omega, ?_⟩
  · rw [hp, Nat.shiftLeft_eq, Nat.mul_assoc, ← Nat.pow_add, hks, Nat.pow_add, ← Nat.mul_assoc]
  · rw [← hst]
    generalize rung 52 0 (W * 2 ^ d) = r at *
    simp only [Bool.false_eq_true, if_false] at e1
    rw [Nat.min_eq_left (by omega)] at e1
    have hmr : mg r = r := mg_of_lt (by omega)
    have c1 : canonB r = r := by unfold canonB; rw [if_neg (by rw [isN_true]; omega), if_neg (by omega)]
    rw [rtB_some e1, c1]
    exact ⟨rfl, hb, hle⟩
end Go.Proofs.Ythdcfhaeiekpcaa

/-
  What the calls of package bits, and the small helpers of the statements, return: walks over the program.
-/
namespace Go.Proofs.Ythdcfhaeiekpcaa
open Go.RowKit Tf

theorem run_bits (b : Nat) (w : World) : (callFunc 16 #[.float .f64 b]).run Try.prog w = .ok (.value (.int .u64 b)) w := by
  rw [run_callFunc_extern (e := Extern.MathFloatBits.float64bits) Try.func16 (by kernel_rfl) (by kernel_rfl) (by kernel_rfl) (by kernel_rfl)]
  rfl
theorem run_from (n : Int) (w : World) : (callFunc 35 #[.int .u64 n]).run Try.prog w = .ok (.value (.float .f64 n.toNat)) w := by
  rw [run_callFunc_extern (e := Extern.MathFloatBits.float64frombits) Try.func35 (by kernel_rfl) (by kernel_rfl) (by kernel_rfl) (by kernel_rfl)]
  rfl
theorem raw_feq (a b : Nat) : (FloatKind.f64.format.order a b == some Ordering.eq) = feq a b := rfl
theorem raw_fne (a b : Nat) : (FloatKind.f64.format.order a b != some Ordering.eq) = !feq a b := rfl
theorem raw_flt (a b : Nat) : (FloatKind.f64.format.order a b == some Ordering.lt) = flt a b := rfl
theorem raw_fgt (a b : Nat) : (FloatKind.f64.format.order a b == some Ordering.gt) = fgt a b := rfl
attribute [local go_sem] run_bits run_from raw_feq raw_fne raw_flt raw_fgt

theorem ret_int {k : IntKind} {a b : Int} (h : a = b) : Ending.returned (.int k a) = .returned (.int k b) := by rw [h]
theorem ret_bool {a b : Bool} (h : a = b) : Ending.returned (.bool a) = .returned (.bool b) := by rw [h]
theorem ret_flt {a b : Nat} (h : a = b) : Ending.returned (.float .f64 a) = .returned (.float .f64 b) := by rw [h]

set_option maxHeartbeats 400000 in
theorem magnitudeBits_any (x : Nat) (w : World) (hx : x < 18446744073709551616) :
    Calls Try.prog 37 #[.float .f64 x] w fun e w' => e = .returned (.int .u64 (mg x : Nat)) ∧ w' = w := by
  go_enter Try.func37, Try.ntmps37
  go_wp2
  go_ret
  exact ⟨ret_int (andNot_sign x hx), rfl⟩
set_option maxHeartbeats 400000 in
theorem isNaN_any (x : Nat) (w : World) (hx : x < 18446744073709551616) :
    Calls Try.prog 25 #[.float .f64 x] w fun e w' => e = .returned (.bool (isN x)) ∧ w' = w := by
  go_enter Try.func25, Try.ntmps25
  go_wp2_with (go_at_call 37; refine (magnitudeBits_any _ _ hx).mono ?_; rintro e w' ⟨rfl, rfl⟩)
  go_ret
  exact ⟨ret_bool (by unfold isN; exact decide_eq_decide.2 (by omega)), rfl⟩
set_option maxHeartbeats 400000 in
theorem quietNaN_any (w : World) :
    Calls Try.prog 26 #[] w fun e w' => e = .returned (.float .f64 quiet) ∧ w' = w := by
  go_enter Try.func26, Try.ntmps26
  go_wp2
  go_ret
  exact ⟨rfl, rfl⟩

theorem feq_zero (x : Nat) (hx : x < 18446744073709551616) : feq x 0 = decide (mg x = 0) := by
  have h := feq_rk x 0 hx (by omega)
  have e : rk 0 = 0 := by decide
  have n : isN 0 = false := by decide
  rw [h, e, n]
  cases hN : isN x
  · unfold rk
    cases ng x <;> simp
  · have := isN_true.1 hN
    have : ¬ mg x = 0 := by omega
    simp [this]

theorem magnitudeBits_at (x m : Nat) (w : World) (hx : x < 18446744073709551616) (hm : Hid (mg x = m)) :
    Calls Try.prog 37 #[.float .f64 x] w fun e w' => e = .returned (.int .u64 (m : Nat)) ∧ w' = w := by
  have := magnitudeBits_any x w hx
  rwa [hm.out] at this
set_option maxHeartbeats 1000000 in
set_option maxRecDepth 100000 in
theorem class_at (x m : Nat) (c : Int) (w : World) (hx : x < 18446744073709551616) (hm : Hid (mg x = m)) (hc : Hid ((if m = 0 then 0 else if m < 4503599627370496 then 1 else if m < 9218868437227405312 then 2 else if m = 9218868437227405312 then 3 else 4) = c)) :
    Calls Try.prog 38 #[.float .f64 x] w fun e w' => e = .returned (.int .i64 c) ∧ w' = w := by
  by_cases c0 : m = 0
  · subst c0
    go_enter Try.func38, Try.ntmps38
    go_wp2_with (go_at_call 37; refine (magnitudeBits_at x _ _ hx hm).mono ?_; rintro e w' ⟨rfl, rfl⟩)
    go_ret
    exact ⟨ret_int hc.out, rfl⟩
  · have e0 : ((m : Int) == 0) = false := by simp; omega
    by_cases c1 : m < 4503599627370496
    · have h := hc.out
      rw [if_neg c0, if_pos c1] at h
      subst h
      have e1 : decide ((m : Int) < 4503599627370496) = true := by simp; omega
      clear hc c0 c1
      go_enter Try.func38, Try.ntmps38
      go_wp2_with (go_at_call 37; refine (magnitudeBits_at x _ _ hx hm).mono ?_; rintro e w' ⟨rfl, rfl⟩)
      go_ret
      exact ⟨rfl, rfl⟩
    · by_cases c2 : m < 9218868437227405312
      · have h := hc.out
        rw [if_neg c0, if_neg c1, if_pos c2] at h
        subst h
        have e1 : decide ((m : Int) < 4503599627370496) = false := by simp; omega
        have e2 : decide ((m : Int) < 9218868437227405312) = true := by simp; omega
        clear hc c0 c1 c2
        go_enter Try.func38, Try.ntmps38
        go_wp2_with (go_at_call 37; refine (magnitudeBits_at x _ _ hx hm).mono ?_; rintro e w' ⟨rfl, rfl⟩)
        go_ret
        exact ⟨rfl, rfl⟩
      · by_cases c3 : m = 9218868437227405312
        · have h := hc.out
          rw [if_neg c0, if_neg c1, if_neg c2, if_pos c3] at h
          subst h
          clear hc
          subst c3
          go_enter Try.func38, Try.ntmps38
          go_wp2_with (go_at_call 37; refine (magnitudeBits_at x _ _ hx hm).mono ?_; rintro e w' ⟨rfl, rfl⟩)
          go_ret
          exact ⟨rfl, rfl⟩
        · have e3 : ((m : Int) == 9218868437227405312) = false := by simp; omega
          have h := hc.out
          rw [if_neg c0, if_neg c1, if_neg c2, if_neg c3] at h
          subst h
          have e1 : decide ((m : Int) < 4503599627370496) = false := by simp; omega
          have e2 : decide ((m : Int) < 9218868437227405312) = false := by simp; omega
          clear hc c0 c1 c2 c3
          go_enter Try.func38, Try.ntmps38
          go_wp2_with (go_at_call 37; refine (magnitudeBits_at x _ _ hx hm).mono ?_; rintro e w' ⟨rfl, rfl⟩)
          go_ret
          exact ⟨rfl, rfl⟩
theorem class_any (x : Nat) (w : World) (hx : x < 18446744073709551616) :
    Calls Try.prog 38 #[.float .f64 x] w fun e w' => e = .returned (.int .i64 (classB x)) ∧ w' = w :=
  class_at x (mg x) (classB x) w hx rfl rfl
set_option maxHeartbeats 1000000 in
set_option maxRecDepth 100000 in
theorem canon_any (x : Nat) (w : World) (hx : x < 18446744073709551616) :
    Calls Try.prog 19 #[.float .f64 x] w fun e w' => e = .returned (.float .f64 (canonB x)) ∧ w' = w := by
  have hc : Hid (canonB x = if isN x then quiet else if mg x = 0 then 0 else x) := rfl
  have hz := feq_zero x hx
  cases hN : isN x
  · have HN := hid hN
    by_cases c : mg x = 0
    · have H : Hid (mg x = 0) := c
      rw [c] at hz; simp only [decide_true] at hz
      clear c
      go_enter Try.func19, Try.ntmps19
      go_wp2_with (first | (go_at_call 25; refine (isNaN_any _ _ hx).mono ?_; rintro e w' ⟨rfl, rfl⟩) | (go_at_call 26; refine (quietNaN_any _).mono ?_; rintro e w' ⟨rfl, rfl⟩))
      go_ret
      exact ⟨ret_flt (by rw [hc.out, HN.out, H.out]; rfl), rfl⟩
    · simp only [c, decide_false] at hz
      go_enter Try.func19, Try.ntmps19
      go_wp2_with (first | (go_at_call 25; refine (isNaN_any _ _ hx).mono ?_; rintro e w' ⟨rfl, rfl⟩) | (go_at_call 26; refine (quietNaN_any _).mono ?_; rintro e w' ⟨rfl, rfl⟩))
      go_ret
      exact ⟨ret_flt (by rw [hc.out, HN.out, if_neg c]; rfl), rfl⟩
  · have HN := hid hN
    go_enter Try.func19, Try.ntmps19
    go_wp2_with (first | (go_at_call 25; refine (isNaN_any _ _ hx).mono ?_; rintro e w' ⟨rfl, rfl⟩) | (go_at_call 26; refine (quietNaN_any _).mono ?_; rintro e w' ⟨rfl, rfl⟩))
    go_ret
    exact ⟨ret_flt (by rw [hc.out, HN.out]; rfl), rfl⟩

end Go.Proofs.Ythdcfhaeiekpcaa

/-
  What Down, Ulp, Order, Max, Min and Between of package bits return, and the small helpers of the statements: walks over the program.
-/
namespace Go.Proofs.Ythdcfhaeiekpcaa
open Go.RowKit Tf
attribute [local go_sem] run_bits run_from raw_feq raw_fne raw_flt raw_fgt

theorem xor_lt (x : Nat) (h : x < 2 ^ 63) : x ^^^ 2 ^ 63 = x + 2 ^ 63 := by
  apply Nat.eq_of_testBit_eq
  intro i
  rw [Nat.testBit_xor, Nat.testBit_two_pow, Nat.add_comm x]
  by_cases c : i = 63
  · subst c
    rw [Nat.testBit_two_pow_add_eq]
    have : x.testBit 63 = false := Nat.testBit_lt_two_pow h
    simp [this]
  · by_cases c2 : i < 63
    · rw [Nat.testBit_two_pow_add_gt c2]
      have : ¬ 63 = i := by omega
      simp [this]
    · have h1 : x.testBit i = false := Nat.testBit_lt_two_pow (Nat.lt_of_lt_of_le h (Nat.pow_le_pow_right (by omega) (by omega)))
      have h2 : (2 ^ 63 + x).testBit i = false := Nat.testBit_lt_two_pow (Nat.lt_of_lt_of_le (show 2 ^ 63 + x < 2 ^ 64 by omega) (Nat.pow_le_pow_right (by omega) (by omega)))
      have : ¬ 63 = i := by omega
      rw [h1, h2]; simp [this]
theorem negFloat_eq (x : Nat) (hx : x < 18446744073709551616) : Op.negFloat .f64 x = negB x := by
  unfold Op.negFloat negB
  rw [show FloatKind.f64.format.exponentBits + FloatKind.f64.format.fractionBits = 63 from rfl]
  cases h : ng x
  · have := lt_of_ng h
    rw [xor_lt x (by omega)]; simp only [Bool.false_eq_true, if_false]
  · have := ge_of_ng h
    have e := xor_lt (x - 9223372036854775808) (by omega)
    rw [show x - 9223372036854775808 + 2 ^ 63 = x by omega] at e
    have e2 : x ^^^ 2 ^ 63 = x - 9223372036854775808 := by
      rw (occs := .pos [1]) [← e]
      rw [Nat.xor_assoc, Nat.xor_self, Nat.xor_zero]
    rw [e2]; simp only [if_true]
theorem run_neg (b : Nat) : Op.unary .neg (.float .f64 b) = pure (.float .f64 (Op.negFloat .f64 b)) := rfl
attribute [local go_sem] run_neg

theorem isN_negB (x : Nat) (hx : x < 18446744073709551616) : isN (negB x) = isN x := by
  unfold isN negB
  cases h : ng x
  · have := lt_of_ng h
    have e : mg (x + 9223372036854775808) = mg x := by unfold mg; omega
    simp [e]
  · have := ge_of_ng h
    have e : mg (x - 9223372036854775808) = mg x := by unfold mg; omega
    simp [e]

theorem feq_self_succ (m : Nat) (h : m < 9218868437227405312) : feq (m + 1) m = false := by
  rw [feq_rk (m + 1) m (by omega) (by omega)]
  unfold rk
  rw [ng_of_lt (show m + 1 < 9223372036854775808 by omega), ng_of_lt (show m < 9223372036854775808 by omega), mg_of_lt (show m + 1 < 9223372036854775808 by omega), mg_of_lt (show m < 9223372036854775808 by omega)]
  have : decide (((m + 1 : Nat) : Int) = (m : Int)) = false := by simp; omega
  simp only [Bool.false_eq_true, if_false, this, Bool.and_false]
theorem sub_top : Ieee.double.sub 9218868437227405312 9218868437227405311 = some 9218868437227405312 :=
  sub_inf_fin _ _ (by decide) (by decide) (by decide)

end Go.Proofs.Ythdcfhaeiekpcaa

/-
  What Order, Max, Min and Between of package bits return, and the small helpers of the statements: walks over the program.
-/
namespace Go.Proofs.Ythdcfhaeiekpcaa
open Go.RowKit Tf
attribute [local go_sem] run_bits run_from raw_feq raw_fne raw_flt raw_fgt run_neg

def sameB (a b : Nat) : Bool := decide (a = b)

set_option maxHeartbeats 400000 in
theorem rawSame_any (a b : Nat) (w : World) :
    Calls Try.prog 8 #[.float .f64 a, .float .f64 b] w fun e w' => e = .returned (.bool (sameB a b)) ∧ w' = w := by
  go_enter Try.func8, Try.ntmps8
  go_wp2
  go_ret
  refine ⟨ret_bool ?_, rfl⟩
  unfold sameB
  by_cases h : a = b
  · subst h; simp
  · have : ¬ (a : Int) = (b : Int) := by omega
    simp only [h, decide_false, beq_eq_false_iff_ne, ne_eq, this, not_false_eq_true]
set_option maxHeartbeats 400000 in
theorem from_any (a : Int) (w : World) :
    Calls Try.prog 23 #[.int .u64 a] w fun e w' => e = .returned (.float .f64 a.toNat) ∧ w' = w := by
  go_enter Try.func23, Try.ntmps23
  go_wp2
  go_ret
  exact ⟨rfl, rfl⟩
theorem orderB_lt (a b : Nat) : orderB a b < 0 ↔ placeB a < placeB b := by
  unfold orderB; split
  · simp_all
  · split <;> simp_all
theorem orderB_gt (a b : Nat) : 0 < orderB a b ↔ placeB b < placeB a := by
  unfold orderB; split
  · simp; omega
  · split <;> simp_all


theorem rk_bound (x : Nat) (h : isN x = false) : -9218868437227405312 ≤ rk x ∧ rk x ≤ 9218868437227405312 := by
  have := isN_false.1 h
  unfold rk; split <;> omega
theorem bet_none (a b : Nat) (h : isN a = true ∨ isN b = true) : betOk a b = false ∧ betB a b = 0 := by
  have : betOk a b = false := by unfold betOk; rcases h with h | h <;> simp [h]
  exact ⟨this, by unfold betB; rw [this]; rfl⟩
theorem bet_yes (a b : Nat) (ha : isN a = false) (hb : isN b = false) (h1 : -9223372036854775808 ≤ rk b - rk a) (h2 : rk b - rk a < 9223372036854775808) : betOk a b = true ∧ betB a b = rk b - rk a := by
  have : betOk a b = true := by unfold betOk betD; simp [ha, hb]; omega
  exact ⟨this, by unfold betB; rw [this]; rfl⟩
theorem bet_no (a b : Nat) (h1 : rk b - rk a < -9223372036854775808 ∨ 9223372036854775808 ≤ rk b - rk a) : betOk a b = false ∧ betB a b = 0 := by
  have : betOk a b = false := by unfold betOk betD; simp; omega
  exact ⟨this, by unfold betB; rw [this]; rfl⟩

/-- the NaN that an operation without an answer gives: its bits are drawn -/
def nanOf (w : World) (x y : Nat) : Nat := (Question.nanBits .f64 x y).cut (w.tape w.drawn (.nanBits .f64 x y))
theorem nanOf_lt (w : World) (x y : Nat) : nanOf w x y < 18446744073709551616 := by
  unfold nanOf Question.cut
  simp only []
  omega
theorem isN_nanOf (w : World) (x y : Nat) : isN (nanOf w x y) = true := by
  rw [isN_true]
  unfold nanOf Question.cut mg
  simp only []
  generalize w.tape w.drawn (Question.nanBits FloatKind.f64 x y) = t
  have hb : t / 2 % (2 ^ 52 - 1) < 2 ^ 52 - 1 := Nat.mod_lt _ (by omega)
  generalize t / 2 % (2 ^ 52 - 1) = b at *
  have ha : t % 2 = 0 ∨ t % 2 = 1 := by omega
  rcases ha with h | h <;> rw [h] <;> omega
theorem run_nan_sub {P : Program} (w : World) (t : TypeId) (x y : Nat) (h : Ieee.double.sub x y = none) :
    (binOp .sub t (.float .f64 x) (.float .f64 y)).run P w = .ok (.float .f64 (nanOf w x y)) w.drew := by
  have h' : FloatKind.f64.format.sub x y = none := h
  simp [binOp, Op.floatArith, h', nanOf, Question.forced]
theorem feq_nan (a b : Nat) (h : isN a = true ∨ isN b = true) : feq a b = false := by unfold feq; rw [order_nan a b h]; rfl
theorem flt_nan (a b : Nat) (h : isN a = true ∨ isN b = true) : flt a b = false := by unfold flt; rw [order_nan a b h]; rfl
theorem fgt_nan (a b : Nat) (h : isN a = true ∨ isN b = true) : fgt a b = false := by unfold fgt; rw [order_nan a b h]; rfl

end Go.Proofs.Ythdcfhaeiekpcaa

/-
  What Sum of package twin returns: walks over the program.
-/
namespace Go.Proofs.Ythdcfhaeiekpcaa
open Go.RowKit Tf
attribute [local go_sem] run_bits run_from raw_feq raw_fne raw_flt raw_fgt

theorem run_nan_add {P : Program} (w : World) (t : TypeId) (x y : Nat) (h : Ieee.double.add x y = none) :
    (binOp .add t (.float .f64 x) (.float .f64 y)).run P w = .ok (.float .f64 (nanOf w x y)) w.drew := by
  have h' : FloatKind.f64.format.add x y = none := h
  simp [binOp, Op.floatArith, h', nanOf, Question.forced]
theorem run_nan_mul {P : Program} (w : World) (t : TypeId) (x y : Nat) (h : Ieee.double.mul x y = none) :
    (binOp .mul t (.float .f64 x) (.float .f64 y)).run P w = .ok (.float .f64 (nanOf w x y)) w.drew := by
  have h' : FloatKind.f64.format.mul x y = none := h
  simp [binOp, Op.floatArith, h', nanOf, Question.forced]

theorem rk_pos (m : Nat) (h : m < 9223372036854775808) : rk m = m := by
  unfold rk; rw [ng_of_lt h, if_neg (by decide), mg_of_lt h]
/-- a magnitude against a finite one -/
theorem fle_mg (m c : Nat) (h : m < 9223372036854775808) (hc : c < 9218868437227405312) : (flt m c || feq m c) = decide (m ≤ c) := by
  rw [flt_rk m c (by omega) (by omega), feq_rk m c (by omega) (by omega), rk_pos m h, rk_pos c (by omega)]
  have h2 : isN c = false := isN_false.2 (by rw [mg_of_lt (by omega)]; omega)
  rw [h2]
  by_cases n : isN m = true
  · have := isN_true.1 n
    rw [mg_of_lt h] at this
    rw [n, Bool.eq_iff_iff]; simp; omega
  · have n' : isN m = false := by simpa using n
    rw [n', Bool.eq_iff_iff]; simp; omega
theorem fge_mg (m c : Nat) (h : m < 9223372036854775808) (hc : c < 9218868437227405312) : (fgt m c || feq m c) = (!isN m && decide (c ≤ m)) := by
  rw [fgt_rk m c (by omega) (by omega), feq_rk m c (by omega) (by omega), rk_pos m h, rk_pos c (by omega)]
  have h2 : isN c = false := isN_false.2 (by rw [mg_of_lt (by omega)]; omega)
  rw [h2]
  cases isN m
  · rw [Bool.eq_iff_iff]; simp; omega
  · simp
theorem flt_mg (a b : Nat) (ha : a < 9223372036854775808) (hb : b < 9223372036854775808) (na : isN a = false) (nb : isN b = false) : flt a b = decide (a < b) := by
  rw [flt_rk a b (by omega) (by omega), rk_pos a ha, rk_pos b hb, na, nb, Bool.eq_iff_iff]; simp

theorem canon_to (x r : Nat) (w : World) (hx : x < 18446744073709551616) (hr : canonB x = r) :
    Calls Try.prog 19 #[.float .f64 x] w fun e w' => e = .returned (.float .f64 r) ∧ w' = w := by
  subst hr; exact canon_any x w hx

theorem addB_comm_fin (a b : Nat) (ha : a < 18446744073709551616) (hb : b < 18446744073709551616) (fa : mg a < 9218868437227405312) (fb : mg b < 9218868437227405312) : Ieee.double.add a b = Ieee.double.add b a := by
  rw [add_d a b ha hb fa fb, add_d b a hb ha fb fa, Int.add_comm, Bool.and_comm]

end Go.Proofs.Ythdcfhaeiekpcaa

/-
  That the statements' own test of life answers true; each contract once more at a named answer: walks over the program.
-/
namespace Go.Proofs.Ythdcfhaeiekpcaa
open Go.RowKit Tf
attribute [local go_sem] run_bits run_from raw_feq raw_fne raw_flt raw_fgt run_neg

theorem canon_at (x : Nat) (r : Nat) (w : World) (hx : x < 18446744073709551616) (hr : canonB x = r) :
    Calls Try.prog 19 #[.float .f64 x] w fun e w' => e = .returned (.float .f64 r) ∧ w' = w := by
  subst hr; exact canon_any x w hx
theorem classB_at (x : Nat) (r : Int) (w : World) (hx : x < 18446744073709551616) (hr : classB x = r) :
    Calls Try.prog 38 #[.float .f64 x] w fun e w' => e = .returned (.int .i64 r) ∧ w' = w := by
  subst hr; exact class_any x w hx
theorem fromW_at (a : Int) (r : Nat) (w : World) (hr : a.toNat = r) :
    Calls Try.prog 23 #[.int .u64 a] w fun e w' => e = .returned (.float .f64 r) ∧ w' = w := by
  subst hr; exact from_any a w

end Go.Proofs.Ythdcfhaeiekpcaa

/-
  Sums from the left: walks over the program.
-/
namespace Go.Proofs.Ythdcfhaeiekpcaa
open Go.RowKit Tf
attribute [local go_sem] run_bits run_from raw_feq raw_fne raw_flt raw_fgt run_neg

/-- one addition, whatever comes of it -/
theorem add_any {P : Program} (w : World) (s q x y : Nat) (h : IsQ s q) (k : IsQ x y) : ∃ r n, (∀ t, (binOp .add t (.float .f64 s) (.float .f64 x)).run P w = .ok (.float .f64 r) (w.drewN n)) ∧ IsQ r (plB q y) := by
  cases e : Ieee.double.add s x with
  | none => exact ⟨nanOf w s x, 1, fun t => run_nan_add w t s x e, h.nan k e (nanOf_lt _ _ _) (isN_nanOf _ _ _)⟩
  | some r => exact ⟨r, 0, fun t => run_float_arith w .add t .f64 s x r e, h.add k e⟩
theorem feq_selfq (x : Nat) (hx : x < 18446744073709551616) : feq x x = !isN x := by
  rw [feq_rk x x hx hx]
  cases isN x <;> simp
/-- A LIST OF FLOATS -/
def IsFl (w : World) (a0 : Option Addr) (len : Nat) (xs : Nat → Nat) : Prop := ∀ k, k < len → xs k < 18446744073709551616 ∧ ∃ b o, a0 = some ⟨b, o, none⟩ ∧ b < w.heap.size ∧ w.cell? ⟨b, o + k, none⟩ = some (.float .f64 (xs k))
theorem IsFl.below {w w' : World} {a0 : Option Addr} {len : Nat} {xs : Nat → Nat} (h : IsFl w a0 len xs) (hb : Below w.heap.size w w') : IsFl w' a0 len xs := by
  intro k hk
  obtain ⟨h1, b, o, h2, h3, h4⟩ := h k hk
  exact ⟨h1, b, o, h2, Nat.lt_of_lt_of_le h3 hb.size, by rw [hb.cell (p := ⟨b, o + k, none⟩) h3]; exact h4⟩
end Go.Proofs.Ythdcfhaeiekpcaa

/-
  Sums by pairs: walks over the program.
-/
namespace Go.Proofs.Ythdcfhaeiekpcaa
open Go.RowKit Tf
attribute [local go_sem] run_bits run_from raw_feq raw_fne raw_flt raw_fgt run_neg

/-- a list that was laid just now -/
theorem fl_new (w : World) (T : TypeId) (c : Array Value) (xs : Nat → Nat) (n : Nat) (h : ∀ k, k < n → xs k < 18446744073709551616 ∧ c[k]? = some (.float .f64 (xs k))) : IsFl (w.alloc (.cells c T)) (some ⟨w.heap.size, 0, none⟩) n xs := by
  intro k hk
  refine ⟨(h k hk).1, w.heap.size, 0, rfl, by simp, ?_⟩
  rw [Nat.zero_add]
  have := (h k hk).2
  simp [this]
end Go.Proofs.Ythdcfhaeiekpcaa

/-
  Careful sums, and sums of three: walks over the program.
-/
namespace Go.Proofs.Ythdcfhaeiekpcaa
open Go.RowKit Tf
attribute [local go_sem] run_bits run_from raw_feq raw_fne raw_flt raw_fgt run_neg

theorem place_mg (x : Nat) : placeB (mg x) = mg x + 9223372036854775808 := by
  unfold placeB; rw [ng_of_lt (mg_lt x)]; rfl
theorem order_mg (a b : Nat) : orderB (mg a) (mg b) = if mg a < mg b then -1 else if mg b < mg a then 1 else 0 := by
  unfold orderB
  rw [place_mg, place_mg]
  by_cases h1 : mg a < mg b
  · rw [if_pos (by omega), if_pos h1]
  · rw [if_neg (by omega), if_neg h1]
    by_cases h2 : mg b < mg a
    · rw [if_pos (by omega), if_pos h2]
    · rw [if_neg (by omega), if_neg h2]
theorem key_lt (a b : Nat) (ha : a < 18446744073709551616) (hb : b < 18446744073709551616) : key b < key a ↔ mg b < mg a ∨ (mg a = mg b ∧ placeB b < placeB a) := by
  have h1 := word_eq a ha
  have h2 := word_eq b hb
  have h3 := mg_lt a
  have h4 := mg_lt b
  unfold key placeB
  revert h1 h2
  cases ng a <;> cases ng b <;> simp <;> omega
theorem lo_lt {a b : Nat} (ha : a < 18446744073709551616) (hb : b < 18446744073709551616) : loB a b < 18446744073709551616 := by unfold loB; split <;> assumption
theorem hi_lt {a b : Nat} (ha : a < 18446744073709551616) (hb : b < 18446744073709551616) : hiB a b < 18446744073709551616 := by unfold hiB; split <;> assumption
end Go.Proofs.Ythdcfhaeiekpcaa

/-
  What Split, Product and Add of package twin return: walks over the program.
-/
namespace Go.Proofs.Ythdcfhaeiekpcaa
open Go.RowKit Tf
attribute [local go_sem] run_bits run_from raw_feq raw_fne raw_flt raw_fgt

theorem mul_ok (a b p : Nat) (ha : a < 18446744073709551616) (hb : b < 18446744073709551616) (h : Ieee.double.mul a b = some p) : p < 18446744073709551616 ∧ isN p = false := by
  rcases mul_cases a b ha hb with ⟨fa, fb⟩ | h' | ⟨s, h'⟩
  · have hm := mul_d a b ha hb fa fb
    rw [h] at hm
    have hm := Option.some.inj hm
    have hl : min (rung 52 1074 (mv (mg a) * mv (mg b))) 9218868437227405312 ≤ 9218868437227405312 := Nat.min_le_right _ _
    generalize min (rung 52 1074 (mv (mg a) * mv (mg b))) 9218868437227405312 = q at *
    rw [hm, isN_false]
    cases (ng a ^^ ng b)
    · simp only [Bool.false_eq_true, if_false]; exact ⟨by omega, by rw [mg_of_lt (by omega)]; exact hl⟩
    · simp only [if_true]; exact ⟨by omega, by rw [mg_of_ge (by omega) (by omega)]; omega⟩
  · rw [h] at h'; cases h'
  · rw [h] at h'
    obtain rfl := Option.some.inj h'
    exact ⟨infW_lt s, isN_false.2 (by rw [infW_mg]; omega)⟩
theorem mg_canon (s : Nat) (n : isN s = false) : mg (canonB s) = mg s := by
  unfold canonB
  rw [n, if_neg (by decide)]
  by_cases c : mg s = 0
  · rw [if_pos c, c]; rfl
  · rw [if_neg c]

end Go.Proofs.Ythdcfhaeiekpcaa

/-
  The small helpers of the statements on twin, and that their own test of life answers true: walks over the program.
-/
namespace Go.Proofs.Ythdcfhaeiekpcaa
open Go.RowKit Tf
attribute [local go_sem] run_bits run_from raw_feq raw_fne raw_flt raw_fgt run_neg

set_option maxHeartbeats 400000 in
theorem rawBits_any (x : Nat) (w : World) :
    Calls Try.prog 15 #[.float .f64 x] w fun e w' => e = .returned (.int .u64 (x : Nat)) ∧ w' = w := by
  go_enter Try.func15, Try.ntmps15
  go_wp2
  go_ret
  exact ⟨rfl, rfl⟩
theorem aw1 : addB 4591870180066957722 4596373779694328218 = 4599075939470750516 := by decide +kernel
theorem aw2 : sumE 4591870180066957722 4596373779694328218 = 13582856476149415936 := by decide +kernel
theorem aw3 : splitH 4728779608772575232 = 4728779608739020800 := by decide +kernel
theorem aw4 : splitL 4728779608772575232 = 4607182418800017408 := by decide +kernel
theorem aw5 : mulB 4591870180066957722 4613937818241073152 = 4599075939470750516 := by decide +kernel
theorem aw6 : prodE 4591870180066957722 4613937818241073152 = 13582856476149415936 := by decide +kernel
theorem rawSame_refl (x : Nat) (w : World) :
    Calls Try.prog 8 #[.float .f64 x, .float .f64 x] w fun e w' => e = .returned (.bool true) ∧ w' = w := by
  have h := rawSame_any x x w
  have hs : sameB x x = true := by unfold sameB; simp
  rwa [hs] at h
theorem canon_canon (x : Nat) (_hx : x < 18446744073709551616) : canonB (canonB x) = canonB x := by
  unfold canonB
  by_cases c : isN x = true
  · rw [if_pos c]; decide
  · rw [if_neg c]
    by_cases c2 : mg x = 0
    · rw [if_pos c2]; decide
    · rw [if_neg c2, if_neg c, if_neg c2]
theorem canon_rnf (v : Int) : canonB (rn false v) = rn false v := canon_rn false v
theorem canon_addB (a b : Nat) (ha : a < 18446744073709551616) (hb : b < 18446744073709551616) : canonB (addB a b) = addB a b := by
  rcases add_cases a b ha hb with ⟨h1, h2⟩ | h | ⟨s, h⟩
  · rw [addB_fin a b ha hb h1 h2, canon_rnf]
  · rw [addB_none h]; decide
  · rw [addB_some h, infW_canon, infW_canon]
theorem canon_zero : canonB 0 = 0 := by decide
theorem canon_sumE (a b : Nat) : canonB (sumE a b) = sumE a b := by
  unfold sumE; split
  · exact canon_rnf _
  · exact canon_zero
theorem canon_mulB (a b : Nat) (ha : a < 18446744073709551616) (hb : b < 18446744073709551616) : canonB (mulB a b) = mulB a b := by
  cases h : Ieee.double.mul a b with
  | none => rw [mulB_none h]; decide
  | some p => rw [mulB_some h, canon_canon p (mul_ok a b p ha hb h).1]
theorem canon_prodE (a b : Nat) : canonB (prodE a b) = prodE a b := by
  unfold prodE; split
  · exact canon_rnf _
  · exact canon_zero
theorem mulB_lt (a b : Nat) (ha : a < 18446744073709551616) (hb : b < 18446744073709551616) : mulB a b < 18446744073709551616 := by
  cases h : Ieee.double.mul a b with
  | none => rw [mulB_none h]; decide
  | some p => rw [mulB_some h]; exact canonB_lt (mul_ok a b p ha hb h).1
end Go.Proofs.Ythdcfhaeiekpcaa

/-
  What the reference's calls of layer 1 return: walks over the program.
-/
namespace Go.Proofs.Ythdcfhaeiekpcaa
open Go.RowKit Tf
attribute [local go_sem] run_bits run_from raw_feq raw_fne raw_flt raw_fgt run_neg
theorem from_at (n : Int) (r : Nat) (w : World) (h : n.toNat = r) :
    Calls Try.prog 23 #[.int .u64 n] w fun e w' => e = .returned (.float .f64 r) ∧ w' = w := by
  subst h; exact from_any n w
set_option maxHeartbeats 1000000 in
set_option maxRecDepth 100000 in
theorem refMag_any (x : Nat) (w : World) :
    Calls Try.prog 29 #[.float .f64 x] w fun e w' => e = .returned (.int .u64 (mg x : Nat)) ∧ w' = w := by
  go_enter Try.func29, Try.ntmps29
  go_wp2_with fail
  refine (rawBits_any x _).mono ?_
  rintro e w' ⟨rfl, rfl⟩
  go_wp2
  go_ret
  exact ⟨ret_int (by unfold mg; omega), rfl⟩

theorem refMag_at (x m : Nat) (w : World) (hm : Hid (mg x = m)) :
    Calls Try.prog 29 #[.float .f64 x] w fun e w' => e = .returned (.int .u64 (m : Nat)) ∧ w' = w := by
  rw [← hm.out]; exact refMag_any x w
set_option maxHeartbeats 1000000 in
set_option maxRecDepth 100000 in
theorem refNone_any (x : Nat) (w : World) :
    Calls Try.prog 27 #[.float .f64 x] w fun e w' => e = .returned (.bool (isN x)) ∧ w' = w := by
  go_enter Try.func27, Try.ntmps27
  go_wp2_with fail
  refine (refMag_any x _).mono ?_
  rintro e w' ⟨rfl, rfl⟩
  go_wp2
  go_ret
  exact ⟨ret_bool (by unfold isN; exact decide_eq_decide.2 (by omega)), rfl⟩

set_option maxHeartbeats 1000000 in
set_option maxRecDepth 100000 in
theorem refQuiet_any (w : World) :
    Calls Try.prog 28 #[] w fun e w' => e = .returned (.float .f64 quiet) ∧ w' = w := by
  go_enter Try.func28, Try.ntmps28
  go_wp2_with fail
  refine (from_at 9221120237041090561 9221120237041090561 _ (by decide)).mono ?_
  rintro e w' ⟨rfl, rfl⟩
  go_wp2
  go_ret
  exact ⟨rfl, rfl⟩

set_option maxHeartbeats 1000000 in
set_option maxRecDepth 100000 in
theorem refCanon_any (x : Nat) (w : World) :
    Calls Try.prog 20 #[.float .f64 x] w fun e w' => e = .returned (.float .f64 (canonB x)) ∧ w' = w := by
  obtain ⟨m, hm⟩ : ∃ m, mg x = m := ⟨_, rfl⟩
  obtain ⟨r, hr⟩ : ∃ r, canonB x = r := ⟨_, rfl⟩
  have HM := hid hm
  have HR : Hid (r = if isN x then quiet else if m = 0 then 0 else x) := by show r = _; rw [← hr, ← hm]; rfl
  rw [hr]
  clear hr hm
  cases nN : isN x
  · have h := HR.out
    rw [nN, if_neg (by decide)] at h
    by_cases c : m = 0
    · rw [if_pos c] at h
      subst h
      subst c
      clear HR
      go_enter Try.func20, Try.ntmps20
      go_wp2_with fail
      refine (refNone_any x _).mono ?_
      rintro e w' ⟨rfl, rfl⟩
      go_wp2_with fail
      refine (refMag_at x _ _ HM).mono ?_
      rintro e w' ⟨rfl, rfl⟩
      go_wp2_with fail
      refine (from_at 0 0 _ (by decide)).mono ?_
      rintro e w' ⟨rfl, rfl⟩
      go_wp2
      go_ret
      exact ⟨rfl, rfl⟩
    · rw [if_neg c] at h
      rw [h]
      have e0 : ((m : Int) == 0) = false := by simp; omega
      clear HR h
      go_enter Try.func20, Try.ntmps20
      go_wp2_with fail
      refine (refNone_any x _).mono ?_
      rintro e w' ⟨rfl, rfl⟩
      go_wp2_with fail
      refine (refMag_at x _ _ HM).mono ?_
      rintro e w' ⟨rfl, rfl⟩
      go_wp2
      go_ret
      exact ⟨rfl, rfl⟩
  · have h := HR.out
    rw [nN, if_pos rfl] at h
    rw [h]
    clear HR h
    go_enter Try.func20, Try.ntmps20
    go_wp2_with fail
    refine (refNone_any x _).mono ?_
    rintro e w' ⟨rfl, rfl⟩
    go_wp2_with fail
    refine (refQuiet_any _).mono ?_
    rintro e w' ⟨rfl, rfl⟩
    go_wp2
    go_ret
    exact ⟨rfl, rfl⟩

end Go.Proofs.Ythdcfhaeiekpcaa

/-
  The reference's order of floats and its sum of three: walks over the program.
-/
namespace Go.Proofs.Ythdcfhaeiekpcaa
open Go.RowKit Tf
attribute [local go_sem] run_bits run_from raw_feq raw_fne raw_flt raw_fgt run_neg

end Go.Proofs.Ythdcfhaeiekpcaa

/-
  One operation on floats, whatever comes of it; squares, areas, roots, and vectors in the one form: walks over the program.
-/
namespace Go.Proofs.Ythdcfhaeiekpcaa
open Go.RowKit Tf
theorem run_store_float {P : Program} {w : World} {a : Addr} {m : Mode} (k : FloatKind) (x : Nat) : (store a (.float k x) m).run P w = stored P w a (.float k x) m := run_store P w a _ m rfl
attribute [local go_sem] run_bits run_from raw_feq raw_fne raw_flt raw_fgt run_neg run_store_float
theorem mul_ql (a b : Nat) : Ieee.double.mul (qB a) b = Ieee.double.mul a b := by
  cases h : isN a
  · rw [qB_of h]
  · rw [mul_nan a b (.inl h), mul_nan _ _ (.inl (by rw [qB_isN]; exact h))]
theorem mul_qr (a b : Nat) : Ieee.double.mul a (qB b) = Ieee.double.mul a b := by rw [Go.Proofs.Ythdcfhaeiekpcaa.mul_comm, mul_ql, Go.Proofs.Ythdcfhaeiekpcaa.mul_comm]
theorem mul_any {P : Program} (w : World) (s q x y : Nat) (h : IsQ s q) (k : IsQ x y) : ∃ r n, (∀ t, (binOp .mul t (.float .f64 s) (.float .f64 x)).run P w = .ok (.float .f64 r) (w.drewN n)) ∧ IsQ r (mlB q y) := by
  have e0 : mlB q y = mlB s x := by unfold mlB; rw [← h.2, ← k.2, mul_ql, mul_qr]
  rw [e0]
  cases e : Ieee.double.mul s x with
  | none => exact ⟨nanOf w s x, 1, fun t => run_nan_mul w t s x e, nanOf_lt _ _ _, by rw [mlB_none e]; exact qB_N (isN_nanOf _ _ _)⟩
  | some r => exact ⟨r, 0, fun t => run_float_arith w .mul t .f64 s x r e, (mul_fact e h.1 k.1).1, by rw [mlB_some e]; exact qB_of (mul_fact e h.1 k.1).2⟩
theorem negB_q {x : Nat} (hx : x < 18446744073709551616) (h : isN x = false) : isN (negB x) = false := by rw [negB_isN hx]; exact h
theorem addB_q {a b c d : Nat} (hb : b < 18446744073709551616) (hd : d < 18446744073709551616) (h : qB a = qB c) (k : qB b = qB d) : addB a (negB b) = addB c (negB d) := by
  cases h1 : isN a
  · have h2 : isN c = false := by rw [← qB_isN, ← h, qB_isN]; exact h1
    rw [qB_of h1, qB_of h2] at h
    subst h
    cases h3 : isN b
    · have h4 : isN d = false := by rw [← qB_isN, ← k, qB_isN]; exact h3
      rw [qB_of h3, qB_of h4] at k
      rw [k]
    · have h4 : isN d = true := by rw [← qB_isN, ← k, qB_isN]; exact h3
      rw [addB_none (add_nan _ _ (.inr (by rw [negB_isN hb]; exact h3))), addB_none (add_nan _ _ (.inr (by rw [negB_isN hd]; exact h4)))]
  · have h2 : isN c = true := by rw [← qB_isN, ← h, qB_isN]; exact h1
    rw [addB_none (add_nan _ _ (.inl h1)), addB_none (add_nan _ _ (.inl h2))]
/-- a word whose one form is q -/
def IsC (s q : Nat) : Prop := s < 18446744073709551616 ∧ canonB s = q
theorem sub_any {P : Program} (w : World) (s q x y : Nat) (h : IsQ s q) (k : IsQ x y) : ∃ r n, (∀ t, (binOp .sub t (.float .f64 s) (.float .f64 x)).run P w = .ok (.float .f64 r) (w.drewN n)) ∧ IsC r (sbB q y) := by
  have e0 : sbB q y = addB s (negB x) := addB_q k.lt k.1 (by rw [← h.2, qB_qB]) (by rw [← k.2, qB_qB])
  rw [e0]
  have ea := sub_add s x k.1
  cases e : Ieee.double.sub s x with
  | none =>
    refine ⟨nanOf w s x, 1, fun t => run_nan_sub w t s x e, nanOf_lt _ _ _, ?_⟩
    rw [addB_none (by rw [← ea]; exact e)]
    unfold canonB; rw [if_pos (isN_nanOf _ _ _)]
  | some r =>
    rw [e] at ea
    exact ⟨r, 0, fun t => run_float_arith w .sub t .f64 s x r e, (add_facts h.1 (negB_lt' k.1) ea.symm).1, by rw [addB_some ea.symm]⟩
theorem run_nan_div {P : Program} (w : World) (t : TypeId) (x y : Nat) (h : Ieee.double.div x y = none) :
    (binOp .quo t (.float .f64 x) (.float .f64 y)).run P w = .ok (.float .f64 (nanOf w x y)) w.drew := by
  have h' : FloatKind.f64.format.div x y = none := h
  simp [binOp, Op.floatArith, h', nanOf, Question.forced]
theorem div_lt {x y r : Nat} (h : Ieee.double.div x y = some r) : r < 18446744073709551616 := Ieee.Format.div_lt Ieee.double h
theorem div_any {P : Program} (w : World) (s x : Nat) : ∃ r n, (∀ t, (binOp .quo t (.float .f64 s) (.float .f64 x)).run P w = .ok (.float .f64 r) (w.drewN n)) ∧ IsC r (dvB s x) := by
  cases e : Ieee.double.div s x with
  | none => exact ⟨nanOf w s x, 1, fun t => run_nan_div w t s x e, nanOf_lt _ _ _, by rw [dvB_none e]; unfold canonB; rw [if_pos (isN_nanOf _ _ _)]⟩
  | some r => exact ⟨r, 0, fun t => run_float_arith w .quo t .f64 s x r e, div_lt e, by rw [dvB_some e]⟩
theorem sqrt_lt {x r : Nat} (h : Ieee.double.sqrt x = some r) : r < 18446744073709551616 := Ieee.Format.sqrt_lt Ieee.double h
end Go.Proofs.Ythdcfhaeiekpcaa

/-
  Differences, cross products, lengths, units and gaps of vectors: walks over the program.
-/
namespace Go.Proofs.Ythdcfhaeiekpcaa
open Go.RowKit Tf
attribute [local go_sem] run_bits run_from raw_feq raw_fne raw_flt raw_fgt run_neg run_store_float
theorem sbB_q {a b : Nat} (hb : b < 18446744073709551616) : sbB (qB a) (qB b) = sbB a b := addB_q (qB_lt hb) hb (qB_qB a) (qB_qB b)
theorem Abx.drewN {W w : World} {g n : Nat} {T : TypeId} (h : Abx W g n T w) (k : Nat) : Abx W g n T (w.drewN k) := h
theorem W3rows (w : World) (A B C : Obj) : (((w.alloc A).alloc B).alloc C).heap[w.heap.size]? = some A ∧ (((w.alloc A).alloc B).alloc C).heap[w.heap.size + 1]? = some B ∧ (((w.alloc A).alloc B).alloc C).heap[w.heap.size + 1 + 1]? = some C := by
  refine ⟨?_, ?_, heap_alloc3_new _ _ _ _⟩
  · rw [Below.heap_alloc _ _ _ (by simp; omega)]; exact heap_alloc2_old _ _ _
  · rw [Below.heap_alloc _ _ _ (by simp)]; exact heap_alloc2_new _ _ _
end Go.Proofs.Ythdcfhaeiekpcaa

/-
  Units of vectors: walks over the program.
-/
namespace Go.Proofs.Ythdcfhaeiekpcaa
open Go.RowKit Tf
attribute [local go_sem] run_bits run_from raw_feq raw_fne raw_flt raw_fgt run_neg run_store_float
/-- is it a length by which a vector is divided? -/
def lvB (l : Nat) : Bool := fgt l 0 && !fgt l 9218868437227405311
def unB (l x : Nat) : Nat := if lvB l = true then dvB x l else 0
theorem unB_lt (l x : Nat) : unB l x < 18446744073709551616 := by
  unfold unB
  split
  · unfold dvB
    split
    · next r h => exact canon_lt (div_lt h)
    · decide
  · decide
theorem unB_canon (l x : Nat) : canonB (unB l x) = unB l x := by
  unfold unB
  split
  · exact dvB_canon x l
  · decide
end Go.Proofs.Ythdcfhaeiekpcaa

/-
  A region that draws its order and holds calls that make memory: one walk for all orders (no program).
-/
namespace Go.Proofs.Ythdcfhaeiekpcaa
open Go.RowKit
/-- the worlds in which all blocks of w are as they were, under one name -/
theorem cls (w : World) : ∃ (U : Type) (F : U → World), (∀ u, Ab w (F u)) ∧ (∀ w', Ab w w' → ∃ u, w' = F u) :=
  ⟨{u : World // Ab w u}, Subtype.val, fun u => u.2, fun w' h => ⟨⟨w', h⟩, rfl⟩⟩
theorem region_cls {P : Program} {id : Nat} {Q : Exit → Act → World → Prop} {a : Act} {w : World} {l : List Oper} {U : Type} (F : U → World) (hm : P.follows .mixedOrders = true) (hB : Region.lexB .any l.toArray = true)
    (hC : ∃ u, w.drew = F u)
    (h : wpQuiet P l.toArray (fun w' => ∃ u, w' = F u) (fun a' => ∀ w', (∃ u, w' = F u) → Q .normal a' w') l a) : (Code.region id l.toArray true).wp P Q a w :=
  wp_region_quiet (C := fun w' => ∃ u, w' = F u) hm hB hC (by simpa using h)
/-- a callee's contract, met in such a world -/
theorem calls_cls {P : Program} {f : FuncId} {args : Array Value} {U : Type} {F : U → World} {u : U} {v : Value} {w0 : World} (hF : Hid (∀ w', Ab w0 w' → ∃ u, w' = F u)) (hF1 : Hid (∀ u, Ab w0 (F u)))
    (h : Calls P f args (F u) fun e w' => e = .returned v ∧ Below (F u).heap.size (F u) w') : Calls P f args (F u) fun e w'' => e = .returned v ∧ ∃ u, w'' = F u :=
  h.mono fun _ _ ⟨he, hb⟩ => ⟨he, hF.out _ ((hF1.out u).call hb)⟩
end Go.Proofs.Ythdcfhaeiekpcaa

/-
  The small helpers of the statements on vectors: walks over the program.
-/
namespace Go.Proofs.Ythdcfhaeiekpcaa
open Go.RowKit Tf
attribute [local go_sem] run_bits run_from raw_feq raw_fne raw_flt raw_fgt run_neg run_store_float
end Go.Proofs.Ythdcfhaeiekpcaa

/-
  The program is awake: a walk over it.
-/
namespace Go.Proofs.Ythdcfhaeiekpcaa
open Go.RowKit Tf
theorem lv_v1 : lnB 4613937818241073152 4616189618054758400 0 = 4617315517961601024 := by decide +kernel
theorem lv_v2 : sbB (mlB 0 0) (mlB 0 4607182418800017408) = 0 := by decide +kernel
theorem lv_v3 : sbB (mlB 0 0) (mlB 4607182418800017408 0) = 0 := by decide +kernel
theorem lv_v4 : sbB (mlB 4607182418800017408 4607182418800017408) (mlB 0 0) = 4607182418800017408 := by decide +kernel
theorem lv_v5 : unB (lnB 13835058055282163712 0 0) 13835058055282163712 = 13830554455654793216 := by decide +kernel
theorem lv_v6 : unB (lnB 13835058055282163712 0 0) 0 = 0 := by decide +kernel
theorem lv_v7 : lnB (sbB 4607182418800017408 4607182418800017408) (sbB 4611686018427387904 4611686018427387904) (sbB 4613937818241073152 4617315517961601024) = 4611686018427387904 := by decide +kernel
theorem lv_v8 : sbB 4607182418800017408 4613937818241073152 = 13835058055282163712 := by decide +kernel
theorem lv_v9 : sbB 4611686018427387904 4611686018427387904 = 0 := by decide +kernel
theorem lv_v10 : sbB 4613937818241073152 4607182418800017408 = 4611686018427387904 := by decide +kernel
end Go.Proofs.Ythdcfhaeiekpcaa

/-
  The reference's differences, cross products, lengths, units and gaps of vectors: walks over the program.
-/
namespace Go.Proofs.Ythdcfhaeiekpcaa
open Go.RowKit Tf
attribute [local go_sem] run_bits run_from raw_feq raw_fne raw_flt raw_fgt run_neg run_store_float
theorem rcanon_any (x : Nat) (w : World) : Calls Try.prog 20 #[.float .f64 x] w fun e w' => e = .returned (.float .f64 (canonB x)) ∧ w' = w := refCanon_any x w
end Go.Proofs.Ythdcfhaeiekpcaa

/-
  The reference's units of vectors, and lengths that a vector is divided by: walks over the program.
-/
namespace Go.Proofs.Ythdcfhaeiekpcaa
open Go.RowKit Tf
attribute [local go_sem] run_bits run_from raw_feq raw_fne raw_flt raw_fgt run_neg run_store_float
open Ieee in
theorem rtB_ng (x : Nat) : ng (rtB x) = false := by
  have key : ∀ r, double.sqrt x = some r → ng (canonB r) = false := by
    intro r h
    unfold Format.sqrt at h
    cases e : double.read x with
    | nan s f => rw [e] at h; simp [Datum.root] at h
    | infinity s =>
      rw [e] at h
      cases s
      · simp [Datum.root, Format.write] at h; subst h; decide
      · simp [Datum.root] at h
    | number s m i =>
      rw [e] at h
      unfold Datum.root at h
      dsimp only at h
      by_cases hm : m = 0
      · rw [if_pos hm] at h
        simp only [Option.map_some, Option.some.injEq, Format.write, Format.nearest, hm, if_true] at h
        subst h
        cases s <;> decide
      · rw [if_neg hm] at h
        cases s
        · simp only [Bool.false_eq_true, if_false, Option.map_some, Option.some.injEq, Format.write] at h
          subst h
          have hw : ∀ a b, double.nearest false a b ≤ 9218868437227405312 := by
            intro a b
            unfold Format.nearest
            split
            · rw [d_word]; simp
            · rw [d_word, d_inf]; simp only [Bool.false_eq_true, if_false]; exact Nat.min_le_right _ _
          generalize hq : double.nearest false _ _ = q
          have hle : q ≤ 9218868437227405312 := by rw [← hq]; exact hw _ _
          unfold canonB
          split
          · decide
          · split
            · decide
            · exact ng_of_lt (by omega)
        · simp at h
  cases h : double.sqrt x with
  | none => rw [rtB_none h]; decide
  | some r => rw [rtB_some h]; exact key r h
theorem rtB_lt (x : Nat) : rtB x < 18446744073709551616 := by
  cases h : Ieee.double.sqrt x with
  | none => rw [rtB_none h]; decide
  | some r => rw [rtB_some h]; exact canon_lt (sqrt_lt h)
/-- of a length: lives, or what class it has -/
theorem lv_class {l : Nat} (hl : l < 18446744073709551616) (hn : ng l = false) : lvB l = (classB l == 1 || classB l == 2) := by
  unfold lvB
  rw [fgt_rk l 0 hl (by decide), fgt_rk l _ hl (by decide)]
  have e1 : rk 0 = 0 := by decide
  have e2 : rk 9218868437227405311 = 9218868437227405311 := by decide
  have e3 : isN 0 = false := by decide
  have e4 : isN 9218868437227405311 = false := by decide
  have e5 : rk l = (mg l : Int) := by unfold rk; rw [hn]; rfl
  rw [e1, e2, e3, e4, e5]
  unfold classB isN
  by_cases a : mg l = 0
  · simp [a]
  · rw [if_neg a]
    by_cases b : mg l < 4503599627370496
    · rw [if_pos b]
      have : ¬ 9218868437227405312 < mg l := by omega
      simp [this]; omega
    · rw [if_neg b]
      by_cases c : mg l < 9218868437227405312
      · rw [if_pos c]
        have : ¬ 9218868437227405312 < mg l := by omega
        simp [this]; omega
      · rw [if_neg c]
        by_cases d : mg l = 9218868437227405312
        · rw [if_pos d]; simp [d]
        · rw [if_neg d]
          have : 9218868437227405312 < mg l := by omega
          simp [this]
end Go.Proofs.Ythdcfhaeiekpcaa
