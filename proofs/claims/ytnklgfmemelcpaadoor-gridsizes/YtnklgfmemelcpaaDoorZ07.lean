/-
  Some of the texts of this proof, one behind the other.
-/
import Derived.Test.YtnklgfmemelcpaaDoorZ06
import Derived.Test.YtnklgfmemelcpaaDoorRows
import Derived.Test.YtnklgfmemelcpaaDoorZ04
import Derived.Test.YtnklgfmemelcpaaDoorZ00
import Derived.Test.YtnklgfmemelcpaaDoorZ05
import Derived.Deep.Draws
import Derived.Below
import Derived.Deep.RegionWith
import Derived.BigQuiet
/-
  Square roots, held against halfway points, by plain numbers (no program).
-/
namespace Go.Proofs.YtnklgfmemelcpaaDoor
open Tf Ieee
/-- the whole root twice, and one more where that isn't all -/
def stW (n : Nat) : Nat := 2 * isq n + (isq n * isq n != n).toNat
theorem st_lt {n y : Nat} (h : y * y < n) : 2 * y < stW n := by
  obtain ⟨a, b⟩ := isq_spec n
  unfold stW
  generalize isq n = q at *
  have h1 : y ≤ q := by
    rcases Nat.lt_or_ge q y with k | k
    · have := Nat.mul_le_mul (show q + 1 ≤ y by omega) (show q + 1 ≤ y by omega)
      omega
    · exact k
  by_cases c : y = q
  · subst c
    have : (y * y != n) = true := by simp; omega
    rw [this]; simp
  · have : (q * q != n).toNat ≤ 1 := by cases (q * q != n) <;> decide
    omega
theorem st_gt {n y : Nat} (h : n < y * y) : stW n < 2 * y := by
  obtain ⟨a, b⟩ := isq_spec n
  unfold stW
  generalize isq n = q at *
  have h1 : q < y := by
    rcases Nat.lt_or_ge q y with k | k
    · exact k
    · have := Nat.mul_le_mul k k
      omega
  have : (q * q != n).toNat ≤ 1 := by cases (q * q != n) <;> decide
  omega
theorem st_le {n y : Nat} (h : y * y ≤ n) : 2 * y ≤ stW n := by
  obtain ⟨a, b⟩ := isq_spec n
  unfold stW
  generalize isq n = q at *
  have h1 : y ≤ q := by
    rcases Nat.lt_or_ge q y with k | k
    · have := Nat.mul_le_mul (show q + 1 ≤ y by omega) (show q + 1 ≤ y by omega)
      omega
    · exact k
  omega
theorem mv_parts {r : Nat} (h : 4503599627370496 ≤ r) : mv r = (4503599627370496 + r % 4503599627370496) * 2 ^ (r / 4503599627370496 - 1) := by
  unfold mv mag
  have e : (2 : Nat) ^ 52 = 4503599627370496 := by decide
  rw [if_neg (by omega), e]
theorem mv_next (r : Nat) : mv (r + 1) = mv r + 2 ^ (r / 4503599627370496 - 1) := by
  have e : (2 : Nat) ^ 52 = 4503599627370496 := by decide
  have h := mag_succ 52 r
  unfold gap at h
  rw [e] at h
  exact h
/-- two numbers side by side that are great enough: their sum is a multiple of 2 ^ (d + 2) -/
theorem mid_mult {r d : Nat} (h : (d + 3) * 4503599627370496 ≤ r) : ∃ y, mv r + mv (r + 1) = y * 2 ^ (d + 2) := by
  rw [mv_next, mv_parts (by omega)]
  obtain ⟨j, hj⟩ : ∃ j, r / 4503599627370496 - 1 = d + 2 + j := by
    have : d + 3 ≤ r / 4503599627370496 := (Nat.le_div_iff_mul_le (by omega)).2 h
    exact ⟨r / 4503599627370496 - 1 - (d + 2), by omega⟩
  rw [hj]
  refine ⟨(2 * (4503599627370496 + r % 4503599627370496) + 1) * 2 ^ j, ?_⟩
  rw [Nat.pow_add 2 (d + 2) j]
  generalize 4503599627370496 + r % 4503599627370496 = a
  generalize 2 ^ (d + 2) = b
  generalize 2 ^ j = c
  rw [show a * (b * c) + (a * (b * c) + b * c) = (2 * a + 1) * (b * c) by rw [Nat.add_mul, Nat.mul_assoc 2, Nat.one_mul]; omega, Nat.mul_comm b c, Nat.mul_assoc]
theorem one_mult {r d : Nat} (h : (d + 3) * 4503599627370496 ≤ r) : ∃ y, 2 * mv r = y * 2 ^ (d + 2) := by
  rw [mv_parts (by omega)]
  obtain ⟨j, hj⟩ : ∃ j, r / 4503599627370496 - 1 = d + 2 + j := by
    have : d + 3 ≤ r / 4503599627370496 := (Nat.le_div_iff_mul_le (by omega)).2 h
    exact ⟨r / 4503599627370496 - 1 - (d + 2), by omega⟩
  rw [hj]
  refine ⟨2 * (4503599627370496 + r % 4503599627370496) * 2 ^ j, ?_⟩
  rw [Nat.pow_add 2 (d + 2) j]
  generalize 4503599627370496 + r % 4503599627370496 = a
  generalize 2 ^ (d + 2) = b
  generalize 2 ^ j = c
  rw [Nat.mul_comm b c, ← Nat.mul_assoc, ← Nat.mul_assoc]
theorem great_rung {r d W : Nat} (hW : 18014398509481984 ≤ W) (h : W * 2 ^ d < mv r) : (d + 3) * 4503599627370496 < r := by
  have e2 := mv_two_pow (d + 2) ((d + 3) * 4503599627370496) (by
    have e : (2 : Nat) ^ 52 = 4503599627370496 := by decide
    rw [e])
  have e3 : 2 ^ (52 + (d + 2)) = 18014398509481984 * 2 ^ d := by
    rw [show 52 + (d + 2) = 54 + d by omega, Nat.pow_add]
  have h1 : 18014398509481984 * 2 ^ d ≤ W * 2 ^ d := Nat.mul_le_mul_right _ hW
  have : mv ((d + 3) * 4503599627370496) < mv r := by omega
  exact mv_lt.1 this
theorem sq_scale (y d : Nat) : (y * 2 ^ (d + 2)) * (y * 2 ^ (d + 2)) = y * y * 2 ^ (2 * d + 4) := by
  rw [show 2 * d + 4 = (d + 2) + (d + 2) by omega, Nat.pow_add 2 (d + 2) (d + 2)]
  generalize 2 ^ (d + 2) = b
  rw [Nat.mul_mul_mul_comm]
theorem four_scale (n d : Nat) : 4 * (n * 2 ^ (2 * d + 2)) = n * 2 ^ (2 * d + 4) := by
  rw [show 2 * d + 4 = (2 * d + 2) + 2 by omega, Nat.pow_add 2 (2 * d + 2) 2]
  generalize 2 ^ (2 * d + 2) = b
  rw [show (2 : Nat) ^ 2 = 4 by decide, Nat.mul_comm b 4, Nat.mul_left_comm]
/-- above halfway: the root is at least the upper one -/
theorem rt_low {n d r : Nat} (hW : 18014398509481984 ≤ stW n) (h : (mv r + mv (r + 1)) * (mv r + mv (r + 1)) < 4 * (n * 2 ^ (2 * d + 2))) : r + 1 ≤ rung 52 0 (stW n * 2 ^ d) := by
  rcases Nat.lt_or_ge (stW n * 2 ^ d) (mv (r + 1)) with c | c
  · have hr := great_rung hW c
    obtain ⟨y, hy⟩ := mid_mult (r := r) (d := d) (by omega)
    rw [hy, sq_scale, four_scale] at h
    have h1 : y * y < n := Nat.lt_of_mul_lt_mul_right h
    have h2 := st_lt h1
    have h3 : mv r + mv (r + 1) < 2 * (stW n * 2 ^ d) := by
      rw [hy, show d + 2 = d + 1 + 1 by omega, Nat.pow_succ, Nat.pow_succ]
      have := (Nat.mul_lt_mul_right (Nat.two_pow_pos d)).2 h2
      generalize 2 ^ d = b at *
      generalize stW n = W at *
      have e1 : y * (b * 2 * 2) = 2 * (2 * y * b) := by rw [show b * 2 * 2 = b * 4 by omega, show 2 * (2 * y * b) = y * b * 4 by rw [Nat.mul_assoc 2 y b]; omega, Nat.mul_assoc]
      omega
    have hlow : mv r ≤ stW n * 2 ^ d := by
      have := mv_le (r := r) (r' := r + 1)
      omega
    have := rung_between 52 0 r (stW n * 2 ^ d) (by omega) (by rw [Nat.pow_zero, Nat.mul_one]; exact hlow) (by rw [Nat.pow_zero, Nat.mul_one]; exact c)
    rw [if_pos (.inl (by rw [Nat.pow_zero, Nat.mul_one]; exact h3))] at this
    omega
  · exact rung_ge (by omega) (by rw [Nat.pow_zero, Nat.mul_one]; exact c)
/-- below halfway: the root is at most the lower one -/
theorem rt_up {n d r : Nat} (hW : 18014398509481984 ≤ stW n) (h : 4 * (n * 2 ^ (2 * d + 2)) < (mv r + mv (r + 1)) * (mv r + mv (r + 1))) : rung 52 0 (stW n * 2 ^ d) ≤ r := by
  rcases Nat.lt_or_ge (stW n * 2 ^ d) (mv (r + 1)) with c | c
  · rcases Nat.lt_or_ge (mv r) (stW n * 2 ^ d) with c2 | c2
    · have hr := great_rung hW c
      obtain ⟨y, hy⟩ := mid_mult (r := r) (d := d) (by omega)
      rw [hy, sq_scale, four_scale] at h
      have h1 : n < y * y := Nat.lt_of_mul_lt_mul_right h
      have h2 := st_gt h1
      have h3 : 2 * (stW n * 2 ^ d) < mv r + mv (r + 1) := by
        rw [hy, show d + 2 = d + 1 + 1 by omega, Nat.pow_succ, Nat.pow_succ]
        have := (Nat.mul_lt_mul_right (Nat.two_pow_pos d)).2 h2
        generalize 2 ^ d = b at *
        generalize stW n = W at *
        have e1 : y * (b * 2 * 2) = 2 * (2 * y * b) := by rw [show b * 2 * 2 = b * 4 by omega, show 2 * (2 * y * b) = y * b * 4 by rw [Nat.mul_assoc 2 y b]; omega, Nat.mul_assoc]
        omega
      have := rung_between 52 0 r (stW n * 2 ^ d) (by omega) (by rw [Nat.pow_zero, Nat.mul_one]; exact Nat.le_of_lt c2) (by rw [Nat.pow_zero, Nat.mul_one]; exact c)
      rw [if_neg (by rw [Nat.pow_zero, Nat.mul_one]; show ¬ (mv r + mv (r + 1) < _ ∨ (mv r + mv (r + 1) = _ ∧ _)); omega)] at this
      omega
    · exact rung_le (by omega) (by rw [Nat.pow_zero, Nat.mul_one]; exact c2)
  · exfalso
    have hr : 2 * mv (r + 1) ≤ 2 * (stW n * 2 ^ d) := by omega
    have hn := (mv_le (r := r) (r' := r + 1)).2 (by omega)
    have c3 : mv r + mv (r + 1) ≤ 2 * mv (r + 1) := by omega
    -- the root is no less than the upper one, so halfway is below it
    by_cases g : (d + 3) * 4503599627370496 ≤ r
    · obtain ⟨y, hy⟩ := mid_mult (r := r) (d := d) g
      rw [hy, sq_scale, four_scale] at h
      have h1 : n < y * y := Nat.lt_of_mul_lt_mul_right h
      have h2 := st_gt h1
      have := (Nat.mul_lt_mul_right (Nat.two_pow_pos d)).2 h2
      rw [hy, show d + 2 = d + 1 + 1 by omega, Nat.pow_succ, Nat.pow_succ] at c3
      generalize 2 ^ d = b at *
      generalize stW n = W at *
      have e1 : y * (b * 2 * 2) = 2 * (2 * y * b) := by rw [show b * 2 * 2 = b * 4 by omega, show 2 * (2 * y * b) = y * b * 4 by rw [Nat.mul_assoc 2 y b]; omega, Nat.mul_assoc]
      omega
    · -- both are small: twice the upper one is at most 2 ^ (55 + d), and the root is at least that half
      have e2 := mv_two_pow (d + 2) ((d + 3) * 4503599627370496) (by
        have e : (2 : Nat) ^ 52 = 4503599627370496 := by decide
        rw [e])
      have hle : mv (r + 1) ≤ mv ((d + 3) * 4503599627370496) := mv_le.2 (by omega)
      have h5 : (mv r + mv (r + 1)) * (mv r + mv (r + 1)) ≤ (2 * 2 ^ (52 + (d + 2))) * (2 * 2 ^ (52 + (d + 2))) := Nat.mul_le_mul (by omega) (by omega)
      have h6 : (2 * 2 ^ (52 + (d + 2))) * (2 * 2 ^ (52 + (d + 2))) = 9007199254740992 * 9007199254740992 * 2 ^ (2 * d + 4) := by
        rw [show 2 * 2 ^ (52 + (d + 2)) = 9007199254740992 * 2 ^ (d + 2) by rw [Nat.pow_add 2 52 (d + 2), ← Nat.mul_assoc], sq_scale]
      rw [four_scale] at h
      have h7 : n < 9007199254740992 * 9007199254740992 := by
        refine Nat.lt_of_mul_lt_mul_right (a := 2 ^ (2 * d + 4)) ?_
        omega
      have := st_gt h7
      omega
/-- what the root of a number is -/
theorem sqrt_core {T : Nat} (hT : T < 18446744073709551616) (hn : ng T = false) (h1 : 4503599627370496 ≤ mg T) (h2 : mg T < 9218868437227405312) :
    ∃ n d, mv (mg T) * 2 ^ K = n * 2 ^ (2 * d + 2) ∧ 18014398509481984 ≤ stW n ∧ rtB T = rung 52 0 (stW n * 2 ^ d) ∧ 4503599627370496 ≤ rtB T ∧ rtB T ≤ 6976075822796898304 := by
  have e1 := sqrt_eq hT hn h1 h2
  have hp := mv_parts h1
  have hq : mg T % 4503599627370496 < 4503599627370496 := Nat.mod_lt _ (by omega)
  generalize hm : 4503599627370496 + mg T % 4503599627370496 = m at e1 hp
  have hl : m.log2 = 52 := by rw [← hm]; exact log_m _ hq
  have hk : mg T / 4503599627370496 - 1 ≤ 2045 := by omega
  generalize mg T / 4503599627370496 - 1 = k at e1 hp hk
  have hlp := d_lp
  generalize hi : double.leastPlace + (k : Int) = i at e1
  obtain ⟨m1, m2, m3, m4⟩ := rtM_val i hl
  generalize rtM m i = s at *
  obtain ⟨w1, w2⟩ := rtW_val (m := m) (s := s) (by omega) (by omega) ⟨m1, m2⟩
  have hst : rtW m s = stW (m <<< s) := rfl
  obtain ⟨d, hd⟩ : ∃ d : Nat, (i - (s : Int)) / 2 - 1 = double.leastPlace + (d : Int) := ⟨((i - (s : Int)) / 2 - 1 - double.leastPlace).toNat, by omega⟩
  have hdle : d ≤ 1531 := by omega
  have hks : k + K = s + (2 * d + 2) := by
    have : K = 1074 := rfl
    omega
  rw [nearest_up double false (rtW m s) d _ hd, d_word, d_inf] at e1
  generalize rtW m s = W at *
  have h0 : W * 2 ^ d ≠ 0 := Nat.mul_ne_zero (by omega) (by have := Nat.two_pow_pos d; omega)
  have hlog : 52 + 0 ≤ (W * 2 ^ d).log2 := by
    refine (Nat.le_log2 h0).2 ?_
    have e : (2 : Nat) ^ (52 + 0) = 4503599627370496 := by decide
    rw [e]
    have := Nat.two_pow_pos d
    exact Nat.le_trans (by omega) (Nat.le_mul_of_pos_right W this)
  have hb := rung_big hlog h0
  have hW57 : W ≤ 2 ^ 57 := by
    have e : (2 : Nat) ^ 57 = 144115188075855872 := by decide
    omega
  have hle := rung_E16 (le_E16 hW57 hdle)
  have hfb : double.fractionBits = 52 := rfl
  rw [hfb] at e1
  refine ⟨m <<< s, d, ?_, by omega, ?_⟩
  · rw [hp, Nat.shiftLeft_eq, Nat.mul_assoc, ← Nat.pow_add, hks, Nat.pow_add, ← Nat.mul_assoc]
  · rw [← hst]
    generalize rung 52 0 (W * 2 ^ d) = r at *
    simp only [Bool.false_eq_true, if_false] at e1
    rw [Nat.min_eq_left (by omega)] at e1
    have hmr : mg r = r := mg_of_lt (by omega)
    have c1 : canonB r = r := by unfold canonB; rw [if_neg (by rw [isN_true]; omega), if_neg (by omega)]
    rw [rtB_some e1, c1]
    exact ⟨rfl, hb, hle⟩
end Go.Proofs.YtnklgfmemelcpaaDoor

/-
  What the calls of package bits, and the small helpers of the statements, return: walks over the program.
-/
namespace Go.Proofs.YtnklgfmemelcpaaDoor
open Go.RowKit Tf

theorem run_bits (b : Nat) (w : World) : (callFunc 43 #[.float .f64 b]).run Tryd.prog w = .ok (.value (.int .u64 b)) w := by
  rw [run_callFunc_extern (e := Extern.MathFloatBits.float64bits) Tryd.func43 (by kernel_rfl) (by kernel_rfl) (by kernel_rfl) (by kernel_rfl)]
  rfl
theorem run_from (n : Int) (w : World) : (callFunc 84 #[.int .u64 n]).run Tryd.prog w = .ok (.value (.float .f64 n.toNat)) w := by
  rw [run_callFunc_extern (e := Extern.MathFloatBits.float64frombits) Tryd.func84 (by kernel_rfl) (by kernel_rfl) (by kernel_rfl) (by kernel_rfl)]
  rfl
theorem raw_feq (a b : Nat) : (FloatKind.f64.format.order a b == some Ordering.eq) = feq a b := rfl
theorem raw_fne (a b : Nat) : (FloatKind.f64.format.order a b != some Ordering.eq) = !feq a b := rfl
theorem raw_flt (a b : Nat) : (FloatKind.f64.format.order a b == some Ordering.lt) = flt a b := rfl
theorem raw_fgt (a b : Nat) : (FloatKind.f64.format.order a b == some Ordering.gt) = fgt a b := rfl
attribute [local go_sem] run_bits run_from raw_feq raw_fne raw_flt raw_fgt

theorem ret_int {k : IntKind} {a b : Int} (h : a = b) : Ending.returned (.int k a) = .returned (.int k b) := by rw [h]
theorem ret_bool {a b : Bool} (h : a = b) : Ending.returned (.bool a) = .returned (.bool b) := by rw [h]
theorem ret_flt {a b : Nat} (h : a = b) : Ending.returned (.float .f64 a) = .returned (.float .f64 b) := by rw [h]

set_option maxHeartbeats 400000 in
theorem magnitudeBits_any (x : Nat) (w : World) (hx : x < 18446744073709551616) :
    Calls Tryd.prog 83 #[.float .f64 x] w fun e w' => e = .returned (.int .u64 (mg x : Nat)) ∧ w' = w := by
  go_enter Tryd.func83, Tryd.ntmps83
  go_wp2
  go_ret
  exact ⟨ret_int (andNot_sign x hx), rfl⟩
set_option maxHeartbeats 400000 in
theorem place_any (x : Nat) (w : World) (hx : x < 18446744073709551616) :
    Calls Tryd.prog 90 #[.float .f64 x] w fun e w' => e = .returned (.int .u64 (placeB x : Nat)) ∧ w' = w := by
  have hs := and_sign x hx
  cases hn : ng x
  · rw [hn] at hs
    have hl := lt_of_ng hn
    have ho : Hid (bits .or .u64 (x : Int) 9223372036854775808 = ((x + 9223372036854775808 : Nat) : Int)) := or_sign x hl
    have hp : Hid (placeB x = x + 9223372036854775808) := by unfold placeB; rw [hn]; rfl
    go_enter Tryd.func90, Tryd.ntmps90
    go_wp2
    go_ret
    exact ⟨ret_int (by rw [ho.out, hp.out]), rfl⟩
  · rw [hn] at hs
    have ho : Hid (bits .xor .u64 IntKind.u64.max (x : Int) = ((18446744073709551615 - x : Nat) : Int)) := not_all x hx
    have hp : Hid (placeB x = 18446744073709551615 - x) := by unfold placeB; rw [hn]; rfl
    go_enter Tryd.func90, Tryd.ntmps90
    go_wp2
    go_ret
    exact ⟨ret_int (by rw [hp.out]; exact ho.out), rfl⟩
set_option maxHeartbeats 400000 in
theorem isNaN_any (x : Nat) (w : World) (hx : x < 18446744073709551616) :
    Calls Tryd.prog 75 #[.float .f64 x] w fun e w' => e = .returned (.bool (isN x)) ∧ w' = w := by
  go_enter Tryd.func75, Tryd.ntmps75
  go_wp2_with (go_at_call 83; refine (magnitudeBits_any _ _ hx).mono ?_; rintro e w' ⟨rfl, rfl⟩)
  go_ret
  exact ⟨ret_bool (by unfold isN; exact decide_eq_decide.2 (by omega)), rfl⟩
set_option maxHeartbeats 400000 in
theorem quietNaN_any (w : World) :
    Calls Tryd.prog 76 #[] w fun e w' => e = .returned (.float .f64 quiet) ∧ w' = w := by
  go_enter Tryd.func76, Tryd.ntmps76
  go_wp2
  go_ret
  exact ⟨rfl, rfl⟩

theorem feq_zero (x : Nat) (hx : x < 18446744073709551616) : feq x 0 = decide (mg x = 0) := by
  have h := feq_rk x 0 hx (by omega)
  have e : rk 0 = 0 := by decide
  have n : isN 0 = false := by decide
  rw [h, e, n]
  cases hN : isN x
  · unfold rk
    cases ng x <;> simp
  · have := isN_true.1 hN
    have : ¬ mg x = 0 := by omega
    simp [this]

theorem magnitudeBits_at (x m : Nat) (w : World) (hx : x < 18446744073709551616) (hm : Hid (mg x = m)) :
    Calls Tryd.prog 83 #[.float .f64 x] w fun e w' => e = .returned (.int .u64 (m : Nat)) ∧ w' = w := by
  have := magnitudeBits_any x w hx
  rwa [hm.out] at this
set_option maxHeartbeats 1000000 in
set_option maxRecDepth 100000 in
theorem canon_any (x : Nat) (w : World) (hx : x < 18446744073709551616) :
    Calls Tryd.prog 61 #[.float .f64 x] w fun e w' => e = .returned (.float .f64 (canonB x)) ∧ w' = w := by
  have hc : Hid (canonB x = if isN x then quiet else if mg x = 0 then 0 else x) := rfl
  have hz := feq_zero x hx
  cases hN : isN x
  · have HN := hid hN
    by_cases c : mg x = 0
    · have H : Hid (mg x = 0) := c
      rw [c] at hz; simp only [decide_true] at hz
      clear c
      go_enter Tryd.func61, Tryd.ntmps61
      go_wp2_with (first | (go_at_call 75; refine (isNaN_any _ _ hx).mono ?_; rintro e w' ⟨rfl, rfl⟩) | (go_at_call 76; refine (quietNaN_any _).mono ?_; rintro e w' ⟨rfl, rfl⟩))
      go_ret
      exact ⟨ret_flt (by rw [hc.out, HN.out, H.out]; rfl), rfl⟩
    · simp only [c, decide_false] at hz
      go_enter Tryd.func61, Tryd.ntmps61
      go_wp2_with (first | (go_at_call 75; refine (isNaN_any _ _ hx).mono ?_; rintro e w' ⟨rfl, rfl⟩) | (go_at_call 76; refine (quietNaN_any _).mono ?_; rintro e w' ⟨rfl, rfl⟩))
      go_ret
      exact ⟨ret_flt (by rw [hc.out, HN.out, if_neg c]; rfl), rfl⟩
  · have HN := hid hN
    go_enter Tryd.func61, Tryd.ntmps61
    go_wp2_with (first | (go_at_call 75; refine (isNaN_any _ _ hx).mono ?_; rintro e w' ⟨rfl, rfl⟩) | (go_at_call 76; refine (quietNaN_any _).mono ?_; rintro e w' ⟨rfl, rfl⟩))
    go_ret
    exact ⟨ret_flt (by rw [hc.out, HN.out]; rfl), rfl⟩

end Go.Proofs.YtnklgfmemelcpaaDoor

/-
  What Down, Ulp, Order, Max, Min and Between of package bits return, and the small helpers of the statements: walks over the program.
-/
namespace Go.Proofs.YtnklgfmemelcpaaDoor
open Go.RowKit Tf
attribute [local go_sem] run_bits run_from raw_feq raw_fne raw_flt raw_fgt

theorem xor_lt (x : Nat) (h : x < 2 ^ 63) : x ^^^ 2 ^ 63 = x + 2 ^ 63 := by
  apply Nat.eq_of_testBit_eq
  intro i
  rw [Nat.testBit_xor, Nat.testBit_two_pow, Nat.add_comm x]
  by_cases c : i = 63
  · subst c
    rw [Nat.testBit_two_pow_add_eq]
    have : x.testBit 63 = false := Nat.testBit_lt_two_pow h
    simp [this]
  · by_cases c2 : i < 63
    · rw [Nat.testBit_two_pow_add_gt c2]
      have : ¬ 63 = i := by omega
      simp [this]
    · have h1 : x.testBit i = false := Nat.testBit_lt_two_pow (Nat.lt_of_lt_of_le h (Nat.pow_le_pow_right (by omega) (by omega)))
      have h2 : (2 ^ 63 + x).testBit i = false := Nat.testBit_lt_two_pow (Nat.lt_of_lt_of_le (show 2 ^ 63 + x < 2 ^ 64 by omega) (Nat.pow_le_pow_right (by omega) (by omega)))
      have : ¬ 63 = i := by omega
      rw [h1, h2]; simp [this]
theorem negFloat_eq (x : Nat) (hx : x < 18446744073709551616) : Op.negFloat .f64 x = negB x := by
  unfold Op.negFloat negB
  rw [show FloatKind.f64.format.exponentBits + FloatKind.f64.format.fractionBits = 63 from rfl]
  cases h : ng x
  · have := lt_of_ng h
    rw [xor_lt x (by omega)]; simp only [Bool.false_eq_true, if_false]
  · have := ge_of_ng h
    have e := xor_lt (x - 9223372036854775808) (by omega)
    rw [show x - 9223372036854775808 + 2 ^ 63 = x by omega] at e
    have e2 : x ^^^ 2 ^ 63 = x - 9223372036854775808 := by
      rw (occs := .pos [1]) [← e]
      rw [Nat.xor_assoc, Nat.xor_self, Nat.xor_zero]
    rw [e2]; simp only [if_true]
theorem run_neg (b : Nat) : Op.unary .neg (.float .f64 b) = pure (.float .f64 (Op.negFloat .f64 b)) := rfl
attribute [local go_sem] run_neg

theorem isN_negB (x : Nat) (hx : x < 18446744073709551616) : isN (negB x) = isN x := by
  unfold isN negB
  cases h : ng x
  · have := lt_of_ng h
    have e : mg (x + 9223372036854775808) = mg x := by unfold mg; omega
    simp [e]
  · have := ge_of_ng h
    have e : mg (x - 9223372036854775808) = mg x := by unfold mg; omega
    simp [e]

theorem feq_self_succ (m : Nat) (h : m < 9218868437227405312) : feq (m + 1) m = false := by
  rw [feq_rk (m + 1) m (by omega) (by omega)]
  unfold rk
  rw [ng_of_lt (show m + 1 < 9223372036854775808 by omega), ng_of_lt (show m < 9223372036854775808 by omega), mg_of_lt (show m + 1 < 9223372036854775808 by omega), mg_of_lt (show m < 9223372036854775808 by omega)]
  have : decide (((m + 1 : Nat) : Int) = (m : Int)) = false := by simp; omega
  simp only [Bool.false_eq_true, if_false, this, Bool.and_false]
theorem sub_top : Ieee.double.sub 9218868437227405312 9218868437227405311 = some 9218868437227405312 :=
  sub_inf_fin _ _ (by decide) (by decide) (by decide)

end Go.Proofs.YtnklgfmemelcpaaDoor

/-
  What Order, Max, Min and Between of package bits return, and the small helpers of the statements: walks over the program.
-/
namespace Go.Proofs.YtnklgfmemelcpaaDoor
open Go.RowKit Tf
attribute [local go_sem] run_bits run_from raw_feq raw_fne raw_flt raw_fgt run_neg

def sameB (a b : Nat) : Bool := decide (a = b)

set_option maxHeartbeats 400000 in
theorem rawSame_any (a b : Nat) (w : World) :
    Calls Tryd.prog 22 #[.float .f64 a, .float .f64 b] w fun e w' => e = .returned (.bool (sameB a b)) ∧ w' = w := by
  go_enter Tryd.func22, Tryd.ntmps22
  go_wp2
  go_ret
  refine ⟨ret_bool ?_, rfl⟩
  unfold sameB
  by_cases h : a = b
  · subst h; simp
  · have : ¬ (a : Int) = (b : Int) := by omega
    simp only [h, decide_false, beq_eq_false_iff_ne, ne_eq, this, not_false_eq_true]
set_option maxHeartbeats 400000 in
theorem order_at (a b p q : Nat) (w : World) (ha : a < 18446744073709551616) (hb : b < 18446744073709551616) (hp : Hid (placeB a = p)) (hq : Hid (placeB b = q)) :
    Calls Tryd.prog 88 #[.float .f64 a, .float .f64 b] w fun e w' => e = .returned (.int .i64 (if p < q then -1 else if q < p then 1 else 0)) ∧ w' = w := by
  have pa : ∀ w, Calls Tryd.prog 90 #[.float .f64 a] w fun e w' => e = .returned (.int .u64 (p : Nat)) ∧ w' = w := by
    intro w; rw [← hp.out]; exact place_any a w ha
  have pb : ∀ w, Calls Tryd.prog 90 #[.float .f64 b] w fun e w' => e = .returned (.int .u64 (q : Nat)) ∧ w' = w := by
    intro w; rw [← hq.out]; exact place_any b w hb
  have PA := hid pa
  have PB := hid pb
  clear pa pb
  by_cases c1 : p < q
  · rw [if_pos c1]
    go_enter Tryd.func88, Tryd.ntmps88
    go_wp2_with fail
    refine (PA.out _).mono ?_
    rintro e w' ⟨rfl, rfl⟩
    go_wp2_with fail
    refine (PB.out _).mono ?_
    rintro e w' ⟨rfl, rfl⟩
    go_wp2
    go_ret
    exact ⟨rfl, rfl⟩
  · rw [if_neg c1]
    by_cases c2 : q < p
    · rw [if_pos c2]
      go_enter Tryd.func88, Tryd.ntmps88
      go_wp2_with fail
      refine (PA.out _).mono ?_
      rintro e w' ⟨rfl, rfl⟩
      go_wp2_with fail
      refine (PB.out _).mono ?_
      rintro e w' ⟨rfl, rfl⟩
      go_wp2
      go_ret
      exact ⟨rfl, rfl⟩
    · rw [if_neg c2]
      go_enter Tryd.func88, Tryd.ntmps88
      go_wp2_with fail
      refine (PA.out _).mono ?_
      rintro e w' ⟨rfl, rfl⟩
      go_wp2_with fail
      refine (PB.out _).mono ?_
      rintro e w' ⟨rfl, rfl⟩
      go_wp2
      go_ret
      exact ⟨rfl, rfl⟩
theorem order_any (a b : Nat) (w : World) (ha : a < 18446744073709551616) (hb : b < 18446744073709551616) :
    Calls Tryd.prog 88 #[.float .f64 a, .float .f64 b] w fun e w' => e = .returned (.int .i64 (orderB a b)) ∧ w' = w :=
  order_at a b (placeB a) (placeB b) w ha hb rfl rfl
theorem orderB_at (a b : Nat) (o : Int) (w : World) (ha : a < 18446744073709551616) (hb : b < 18446744073709551616) (ho : Hid (orderB a b = o)) :
    Calls Tryd.prog 88 #[.float .f64 a, .float .f64 b] w fun e w' => e = .returned (.int .i64 o) ∧ w' = w := by
  rw [← ho.out]; exact order_any a b w ha hb

theorem orderB_lt (a b : Nat) : orderB a b < 0 ↔ placeB a < placeB b := by
  unfold orderB; split
  · simp_all
  · split <;> simp_all
theorem orderB_gt (a b : Nat) : 0 < orderB a b ↔ placeB b < placeB a := by
  unfold orderB; split
  · simp; omega
  · split <;> simp_all


theorem rk_bound (x : Nat) (h : isN x = false) : -9218868437227405312 ≤ rk x ∧ rk x ≤ 9218868437227405312 := by
  have := isN_false.1 h
  unfold rk; split <;> omega
theorem bet_none (a b : Nat) (h : isN a = true ∨ isN b = true) : betOk a b = false ∧ betB a b = 0 := by
  have : betOk a b = false := by unfold betOk; rcases h with h | h <;> simp [h]
  exact ⟨this, by unfold betB; rw [this]; rfl⟩
theorem bet_yes (a b : Nat) (ha : isN a = false) (hb : isN b = false) (h1 : -9223372036854775808 ≤ rk b - rk a) (h2 : rk b - rk a < 9223372036854775808) : betOk a b = true ∧ betB a b = rk b - rk a := by
  have : betOk a b = true := by unfold betOk betD; simp [ha, hb]; omega
  exact ⟨this, by unfold betB; rw [this]; rfl⟩
theorem bet_no (a b : Nat) (h1 : rk b - rk a < -9223372036854775808 ∨ 9223372036854775808 ≤ rk b - rk a) : betOk a b = false ∧ betB a b = 0 := by
  have : betOk a b = false := by unfold betOk betD; simp; omega
  exact ⟨this, by unfold betB; rw [this]; rfl⟩

/-- the NaN that an operation without an answer gives: its bits are drawn -/
def nanOf (w : World) (x y : Nat) : Nat := (Question.nanBits .f64 x y).cut (w.tape w.drawn (.nanBits .f64 x y))
theorem nanOf_lt (w : World) (x y : Nat) : nanOf w x y < 18446744073709551616 := by
  unfold nanOf Question.cut
  simp only []
  omega
theorem isN_nanOf (w : World) (x y : Nat) : isN (nanOf w x y) = true := by
  rw [isN_true]
  unfold nanOf Question.cut mg
  simp only []
  generalize w.tape w.drawn (Question.nanBits FloatKind.f64 x y) = t
  have hb : t / 2 % (2 ^ 52 - 1) < 2 ^ 52 - 1 := Nat.mod_lt _ (by omega)
  generalize t / 2 % (2 ^ 52 - 1) = b at *
  have ha : t % 2 = 0 ∨ t % 2 = 1 := by omega
  rcases ha with h | h <;> rw [h] <;> omega
theorem run_nan_sub {P : Program} (w : World) (t : TypeId) (x y : Nat) (h : Ieee.double.sub x y = none) :
    (binOp .sub t (.float .f64 x) (.float .f64 y)).run P w = .ok (.float .f64 (nanOf w x y)) w.drew := by
  have h' : FloatKind.f64.format.sub x y = none := h
  simp [binOp, Op.floatArith, h', nanOf, Question.forced]
theorem feq_nan (a b : Nat) (h : isN a = true ∨ isN b = true) : feq a b = false := by unfold feq; rw [order_nan a b h]; rfl
theorem flt_nan (a b : Nat) (h : isN a = true ∨ isN b = true) : flt a b = false := by unfold flt; rw [order_nan a b h]; rfl
theorem fgt_nan (a b : Nat) (h : isN a = true ∨ isN b = true) : fgt a b = false := by unfold fgt; rw [order_nan a b h]; rfl

end Go.Proofs.YtnklgfmemelcpaaDoor

/-
  What Sum of package twin returns: walks over the program.
-/
namespace Go.Proofs.YtnklgfmemelcpaaDoor
open Go.RowKit Tf
attribute [local go_sem] run_bits run_from raw_feq raw_fne raw_flt raw_fgt

theorem run_nan_add {P : Program} (w : World) (t : TypeId) (x y : Nat) (h : Ieee.double.add x y = none) :
    (binOp .add t (.float .f64 x) (.float .f64 y)).run P w = .ok (.float .f64 (nanOf w x y)) w.drew := by
  have h' : FloatKind.f64.format.add x y = none := h
  simp [binOp, Op.floatArith, h', nanOf, Question.forced]
theorem run_nan_mul {P : Program} (w : World) (t : TypeId) (x y : Nat) (h : Ieee.double.mul x y = none) :
    (binOp .mul t (.float .f64 x) (.float .f64 y)).run P w = .ok (.float .f64 (nanOf w x y)) w.drew := by
  have h' : FloatKind.f64.format.mul x y = none := h
  simp [binOp, Op.floatArith, h', nanOf, Question.forced]

set_option maxHeartbeats 400000 in
theorem abs_any (x : Nat) (w : World) (hx : x < 18446744073709551616) :
    Calls Tryd.prog 89 #[.float .f64 x] w fun e w' => e = .returned (.float .f64 (mg x)) ∧ w' = w := by
  go_enter Tryd.func89, Tryd.ntmps89
  go_wp2
  go_ret
  refine ⟨ret_flt ?_, rfl⟩
  rw [andNot_sign x hx]; rfl

theorem rk_pos (m : Nat) (h : m < 9223372036854775808) : rk m = m := by
  unfold rk; rw [ng_of_lt h, if_neg (by decide), mg_of_lt h]
/-- a magnitude against a finite one -/
theorem fle_mg (m c : Nat) (h : m < 9223372036854775808) (hc : c < 9218868437227405312) : (flt m c || feq m c) = decide (m ≤ c) := by
  rw [flt_rk m c (by omega) (by omega), feq_rk m c (by omega) (by omega), rk_pos m h, rk_pos c (by omega)]
  have h2 : isN c = false := isN_false.2 (by rw [mg_of_lt (by omega)]; omega)
  rw [h2]
  by_cases n : isN m = true
  · have := isN_true.1 n
    rw [mg_of_lt h] at this
    rw [n, Bool.eq_iff_iff]; simp; omega
  · have n' : isN m = false := by simpa using n
    rw [n', Bool.eq_iff_iff]; simp; omega
theorem fge_mg (m c : Nat) (h : m < 9223372036854775808) (hc : c < 9218868437227405312) : (fgt m c || feq m c) = (!isN m && decide (c ≤ m)) := by
  rw [fgt_rk m c (by omega) (by omega), feq_rk m c (by omega) (by omega), rk_pos m h, rk_pos c (by omega)]
  have h2 : isN c = false := isN_false.2 (by rw [mg_of_lt (by omega)]; omega)
  rw [h2]
  cases isN m
  · rw [Bool.eq_iff_iff]; simp; omega
  · simp
theorem flt_mg (a b : Nat) (ha : a < 9223372036854775808) (hb : b < 9223372036854775808) (na : isN a = false) (nb : isN b = false) : flt a b = decide (a < b) := by
  rw [flt_rk a b (by omega) (by omega), rk_pos a ha, rk_pos b hb, na, nb, Bool.eq_iff_iff]; simp

theorem canon_to (x r : Nat) (w : World) (hx : x < 18446744073709551616) (hr : canonB x = r) :
    Calls Tryd.prog 61 #[.float .f64 x] w fun e w' => e = .returned (.float .f64 r) ∧ w' = w := by
  subst hr; exact canon_any x w hx

theorem addB_comm_fin (a b : Nat) (ha : a < 18446744073709551616) (hb : b < 18446744073709551616) (fa : mg a < 9218868437227405312) (fb : mg b < 9218868437227405312) : Ieee.double.add a b = Ieee.double.add b a := by
  rw [add_d a b ha hb fa fb, add_d b a hb ha fb fa, Int.add_comm, Bool.and_comm]

end Go.Proofs.YtnklgfmemelcpaaDoor

/-
  That the statements' own test of life answers true; each contract once more at a named answer: walks over the program.
-/
namespace Go.Proofs.YtnklgfmemelcpaaDoor
open Go.RowKit Tf
attribute [local go_sem] run_bits run_from raw_feq raw_fne raw_flt raw_fgt run_neg

theorem canon_at (x : Nat) (r : Nat) (w : World) (hx : x < 18446744073709551616) (hr : canonB x = r) :
    Calls Tryd.prog 61 #[.float .f64 x] w fun e w' => e = .returned (.float .f64 r) ∧ w' = w := by
  subst hr; exact canon_any x w hx
theorem ord_at (a b : Nat) (r : Int) (w : World) (ha : a < 18446744073709551616) (hb : b < 18446744073709551616) (hr : orderB a b = r) :
    Calls Tryd.prog 88 #[.float .f64 a, .float .f64 b] w fun e w' => e = .returned (.int .i64 r) ∧ w' = w := by
  subst hr; exact order_any a b w ha hb
end Go.Proofs.YtnklgfmemelcpaaDoor

/-
  Sums from the left: walks over the program.
-/
namespace Go.Proofs.YtnklgfmemelcpaaDoor
open Go.RowKit Tf
attribute [local go_sem] run_bits run_from raw_feq raw_fne raw_flt raw_fgt run_neg

/-- one addition, whatever comes of it -/
theorem add_any {P : Program} (w : World) (s q x y : Nat) (h : IsQ s q) (k : IsQ x y) : ∃ r n, (∀ t, (binOp .add t (.float .f64 s) (.float .f64 x)).run P w = .ok (.float .f64 r) (w.drewN n)) ∧ IsQ r (plB q y) := by
  cases e : Ieee.double.add s x with
  | none => exact ⟨nanOf w s x, 1, fun t => run_nan_add w t s x e, h.nan k e (nanOf_lt _ _ _) (isN_nanOf _ _ _)⟩
  | some r => exact ⟨r, 0, fun t => run_float_arith w .add t .f64 s x r e, h.add k e⟩
theorem feq_selfq (x : Nat) (hx : x < 18446744073709551616) : feq x x = !isN x := by
  rw [feq_rk x x hx hx]
  cases isN x <;> simp
set_option maxHeartbeats 1000000 in
theorem oneNaN_at (x q : Nat) (w : World) (h : IsQ x q) :
    Calls Tryd.prog 86 #[.float .f64 x] w fun e w' => e = .returned (.float .f64 q) ∧ w' = w := by
  obtain ⟨h1, h2⟩ := h
  have C := hid (fun w => canon_at x _ w h1 rfl)
  have hf := feq_selfq x h1
  cases hN : isN x
  · rw [hN] at hf
    rw [qB_of hN] at h2
    subst h2
    clear hN h1
    go_enter Tryd.func86, Tryd.ntmps86
    go_wp2
    go_ret
    exact ⟨rfl, rfl⟩
  · rw [hN] at hf
    have hc : canonB x = q := by rw [← h2, qB_N hN]; unfold canonB; rw [hN]; rfl
    rw [hc] at C
    clear hN h1 h2 hc
    go_enter Tryd.func86, Tryd.ntmps86
    go_wp2_with fail
    refine (C.out _).mono ?_
    rintro e w' ⟨rfl, rfl⟩
    go_wp2
    go_ret
    exact ⟨rfl, rfl⟩
/-- A LIST OF FLOATS -/
def IsFl (w : World) (a0 : Option Addr) (len : Nat) (xs : Nat → Nat) : Prop := ∀ k, k < len → xs k < 18446744073709551616 ∧ ∃ b o, a0 = some ⟨b, o, none⟩ ∧ b < w.heap.size ∧ w.cell? ⟨b, o + k, none⟩ = some (.float .f64 (xs k))
theorem IsFl.below {w w' : World} {a0 : Option Addr} {len : Nat} {xs : Nat → Nat} (h : IsFl w a0 len xs) (hb : Below w.heap.size w w') : IsFl w' a0 len xs := by
  intro k hk
  obtain ⟨h1, b, o, h2, h3, h4⟩ := h k hk
  exact ⟨h1, b, o, h2, Nat.lt_of_lt_of_le h3 hb.size, by rw [hb.cell (p := ⟨b, o + k, none⟩) h3]; exact h4⟩
set_option maxHeartbeats 1000000 in
theorem inTurn_none (a0 : Option Addr) (cap : Nat) (w : World) :
    Calls Tryd.prog 79 #[.slice a0 0 cap] w fun e w' => e = .returned (.float .f64 0) ∧ w' = w := by
  go_enter Tryd.func79, Tryd.ntmps79
  go_wp2
  go_ret
  exact ⟨rfl, rfl⟩
set_option maxHeartbeats 2000000 in
theorem inTurn_one (b o cap x q : Nat) (w : World) (_hcap : (1 : Int) ≤ cap) (_hl : (cap : Int) ≤ 9223372036854775807) (h0 : w.cell? ⟨b, o, none⟩ = some (.float .f64 x)) (hx : Hid (IsQ x q)) :
    Calls Tryd.prog 79 #[.slice (some ⟨b, o, none⟩) 1 cap] w fun e w' => e = .returned (.float .f64 q) ∧ ∃ k, w' = w.drewN k := by
  have C := hid (fun w => oneNaN_at x q w hx.out)
  clear hx
  by_cases hc : cap = 1
  · go_enter Tryd.func79, Tryd.ntmps79
    go_wp2
    go_loopw [3, 15] (fun sv iv wr => sv = .float .f64 x ∧ iv = .int .i64 0 ∧ wr = w) (fun _ _ _ => 0)
    case atStart => exact ⟨rfl, rfl, rfl⟩
    case round =>
      obtain ⟨rfl, rfl, rfl⟩ := hrel
      go_wp2_with fail
      refine (C.out _).mono ?_
      rintro e w' ⟨rfl, rfl⟩
      go_wp2
      go_ret
      exact ⟨rfl, 0, rfl⟩
  · go_enter Tryd.func79, Tryd.ntmps79
    go_wp2
    go_loopw [3, 15] (fun sv iv wr => sv = .float .f64 x ∧ iv = .int .i64 0 ∧ wr = w) (fun _ _ _ => 0)
    case atStart => exact ⟨rfl, rfl, rfl⟩
    case round =>
      obtain ⟨rfl, rfl, rfl⟩ := hrel
      go_wp2_with fail
      refine (C.out _).mono ?_
      rintro e w' ⟨rfl, rfl⟩
      go_wp2
      go_ret
      exact ⟨rfl, 0, rfl⟩
set_option maxHeartbeats 4000000 in
theorem inTurn_more (b o n cap : Nat) (xs : Nat → Nat) (w : World) (hn : 1 ≤ n) (hcap : (n : Int) + 1 ≤ cap) (hl : (cap : Int) ≤ 9223372036854775807) (h : Hid (IsFl w (some ⟨b, o, none⟩) (n + 1) xs)) :
    Calls Tryd.prog 79 #[.slice (some ⟨b, o, none⟩) (n + 1 : Nat) cap] w fun e w' => e = .returned (.float .f64 (lfF xs n)) ∧ ∃ k, w' = w.drewN k := by
  have hc1 : ¬ cap = 1 := by omega
  have cells : ∀ k, k < n + 1 → ∀ j, (w.drewN j).cell? ⟨b, o + k, none⟩ = some (.float .f64 (xs k)) := by
    intro k hk j
    obtain ⟨_, b', o', e, _, h3⟩ := h.out k hk
    cases e; exact h3
  have h0 : w.cell? ⟨b, o, none⟩ = some (.float .f64 (xs 0)) := cells 0 (by omega) 0
  have HC := hid cells
  obtain ⟨x0, hx0⟩ : ∃ x, xs 0 = x := ⟨_, rfl⟩
  rw [hx0] at h0
  have HX := hid hx0
  have C := hid (fun x q w => oneNaN_at x q w)
  clear cells hx0
  go_enter Tryd.func79, Tryd.ntmps79
  go_wp2
  go_loopw [3, 15] (fun sv iv wr => ∃ k s j : Nat, k ≤ n ∧ sv = .float .f64 s ∧ iv = .int .i64 (k : Nat) ∧ wr = w.drewN j ∧ Hid (IsQ s (lfF xs k))) (fun _ iv _ => n - (intOf iv).toNat)
  case atStart => exact ⟨0, x0, 0, by omega, rfl, rfl, rfl, by rw [← HX.out]; exact IsQ.self (h.out 0 (by omega)).1⟩
  case round =>
    obtain ⟨k, s, j, hk, rfl, rfl, rfl, hq⟩ := hrel
    by_cases hlt : k < n
    · have cn := HC.out (k + 1) (by omega) j
      have cn' : (w.drewN j).cell? ⟨b, o + 1 + k, none⟩ = some (.float .f64 (xs (k + 1))) := by rw [show o + 1 + k = o + (k + 1) by omega]; exact cn
      obtain ⟨r, m, hr, hrq⟩ := add_any (P := Tryd.prog) (w.drewN j) s _ (xs (k + 1)) _ hq.out (IsQ.self (h.out (k + 1) (by omega)).1)
      rw [plB_qr] at hrq
      obtain ⟨x, hx⟩ : ∃ x, xs (k + 1) = x := ⟨_, rfl⟩
      rw [hx] at cn cn' hr
      have HQ := hid hrq
      have HL := hid hlt
      have kl : ((k : Nat) : Int) < n := by omega
      clear hx hrq hlt hq hk
      go_wp2
      refine ⟨⟨k + 1, r, _, HL.out, rfl, by simp, rfl, HQ.out⟩, by have := HL.out; simp [intOf]; omega⟩
    · have e : k = n := by omega
      subst e
      have kl : decide (((k : Nat) : Int) < (k : Nat)) = false := by simp
      have C' := hid (fun w => C.out s (lfF xs k) w hq.out)
      clear C hq hlt hk
      go_wp2_with fail
      refine (C'.out _).mono ?_
      rintro e w' ⟨rfl, rfl⟩
      go_wp2
      go_ret
      exact ⟨rfl, _, rfl⟩
/-- IN TURN -/
theorem inTurn_at (a0 : Option Addr) (len cap : Nat) (xs : Nat → Nat) (w : World) (hcap : len ≤ cap) (hl : (cap : Int) ≤ 9223372036854775807) (h : IsFl w a0 len xs) :
    Calls Tryd.prog 79 #[.slice a0 len cap] w fun e w' => e = .returned (.float .f64 (leftB xs len)) ∧ ∃ k, w' = w.drewN k := by
  by_cases h0 : len = 0
  · subst h0
    exact (inTurn_none a0 cap w).mono fun e w' ⟨he, hw⟩ => ⟨he, 0, hw⟩
  · obtain ⟨x1, b, o, rfl, _, x3⟩ := h 0 (by omega)
    have e : leftB xs len = lfF xs (len - 1) := by unfold leftB; rw [if_neg h0]
    rw [e]
    by_cases h1 : len = 1
    · subst h1
      exact inTurn_one b o cap (xs 0) _ w (by omega) hl x3 (IsQ.self x1)
    · have := inTurn_more b o (len - 1) cap xs w (by omega) (by omega) hl (by rw [show len - 1 + 1 = len by omega]; exact h)
      rw [show len - 1 + 1 = len by omega] at this
      exact this
end Go.Proofs.YtnklgfmemelcpaaDoor

/-
  Sums by pairs: walks over the program.
-/
namespace Go.Proofs.YtnklgfmemelcpaaDoor
open Go.RowKit Tf
attribute [local go_sem] run_bits run_from raw_feq raw_fne raw_flt raw_fgt run_neg

/-- a list that was laid just now -/
theorem fl_new (w : World) (T : TypeId) (c : Array Value) (xs : Nat → Nat) (n : Nat) (h : ∀ k, k < n → xs k < 18446744073709551616 ∧ c[k]? = some (.float .f64 (xs k))) : IsFl (w.alloc (.cells c T)) (some ⟨w.heap.size, 0, none⟩) n xs := by
  intro k hk
  refine ⟨(h k hk).1, w.heap.size, 0, rfl, by simp, ?_⟩
  rw [Nat.zero_add]
  have := (h k hk).2
  simp [this]
end Go.Proofs.YtnklgfmemelcpaaDoor

/-
  Careful sums, and sums of three: walks over the program.
-/
namespace Go.Proofs.YtnklgfmemelcpaaDoor
open Go.RowKit Tf
attribute [local go_sem] run_bits run_from raw_feq raw_fne raw_flt raw_fgt run_neg

theorem place_mg (x : Nat) : placeB (mg x) = mg x + 9223372036854775808 := by
  unfold placeB; rw [ng_of_lt (mg_lt x)]; rfl
theorem order_mg (a b : Nat) : orderB (mg a) (mg b) = if mg a < mg b then -1 else if mg b < mg a then 1 else 0 := by
  unfold orderB
  rw [place_mg, place_mg]
  by_cases h1 : mg a < mg b
  · rw [if_pos (by omega), if_pos h1]
  · rw [if_neg (by omega), if_neg h1]
    by_cases h2 : mg b < mg a
    · rw [if_pos (by omega), if_pos h2]
    · rw [if_neg (by omega), if_neg h2]
theorem key_lt (a b : Nat) (ha : a < 18446744073709551616) (hb : b < 18446744073709551616) : key b < key a ↔ mg b < mg a ∨ (mg a = mg b ∧ placeB b < placeB a) := by
  have h1 := word_eq a ha
  have h2 := word_eq b hb
  have h3 := mg_lt a
  have h4 := mg_lt b
  unfold key placeB
  revert h1 h2
  cases ng a <;> cases ng b <;> simp <;> omega
set_option maxHeartbeats 1000000 in
theorem behind_at (a b : Nat) (r : Bool) (w : World) (ha : a < 18446744073709551616) (hb : b < 18446744073709551616) (hr : decide (key b < key a) = r) :
    Calls Tryd.prog 85 #[.float .f64 a, .float .f64 b] w fun e w' => e = .returned (.bool r) ∧ w' = w := by
  have A := hid (fun w => abs_any a w ha)
  have B := hid (fun w => abs_any b w hb)
  have h3 := mg_lt a
  have h4 := mg_lt b
  have O := hid (fun o w h => orderB_at (mg a) (mg b) o w (by omega) (by omega) h)
  have O2 := hid (fun w => orderB_at a b _ w ha hb rfl)
  have hk := key_lt a b ha hb
  have ho := order_mg a b
  by_cases c1 : mg a < mg b
  · rw [if_pos c1] at ho
    have O' := hid (fun w => O.out _ w ho)
    have e : r = false := by rw [← hr]; exact decide_eq_false (fun x => by have := hk.1 x; omega)
    subst e
    clear O O2 hk hr ho c1 h3 h4 ha hb
    generalize mg a = ma at *
    generalize mg b = mb at *
    go_enter Tryd.func85, Tryd.ntmps85
    go_wp2_with fail
    refine (A.out _).mono ?_
    rintro e w' ⟨rfl, rfl⟩
    go_wp2_with fail
    refine (B.out _).mono ?_
    rintro e w' ⟨rfl, rfl⟩
    go_wp2_with fail
    refine (O'.out _).mono ?_
    rintro e w' ⟨rfl, rfl⟩
    go_wp2
    go_ret
    exact ⟨rfl, rfl⟩
  by_cases c2 : mg b < mg a
  · rw [if_neg c1, if_pos c2] at ho
    have O' := hid (fun w => O.out _ w ho)
    have e : r = true := by rw [← hr]; exact decide_eq_true (hk.2 (.inl c2))
    subst e
    clear O O2 hk hr ho c1 c2 h3 h4 ha hb
    generalize mg a = ma at *
    generalize mg b = mb at *
    go_enter Tryd.func85, Tryd.ntmps85
    go_wp2_with fail
    refine (A.out _).mono ?_
    rintro e w' ⟨rfl, rfl⟩
    go_wp2_with fail
    refine (B.out _).mono ?_
    rintro e w' ⟨rfl, rfl⟩
    go_wp2_with fail
    refine (O'.out _).mono ?_
    rintro e w' ⟨rfl, rfl⟩
    go_wp2
    go_ret
    exact ⟨rfl, rfl⟩
  · rw [if_neg c1, if_neg c2] at ho
    have O' := hid (fun w => O.out _ w ho)
    obtain ⟨o, ho2⟩ : ∃ o, orderB a b = o := ⟨_, rfl⟩
    have e : decide (0 < o) = r := by
      rw [← hr, ← ho2]
      refine decide_eq_decide.2 ?_
      rw [orderB_gt, hk]
      constructor
      · intro h; exact .inr ⟨by omega, h⟩
      · rintro (h | h)
        · omega
        · exact h.2
    rw [ho2] at O2
    clear O hk hr ho c1 c2 h3 h4 ha hb ho2
    generalize mg a = ma at *
    generalize mg b = mb at *
    go_enter Tryd.func85, Tryd.ntmps85
    go_wp2_with fail
    refine (A.out _).mono ?_
    rintro e w' ⟨rfl, rfl⟩
    go_wp2_with fail
    refine (B.out _).mono ?_
    rintro e w' ⟨rfl, rfl⟩
    go_wp2_with fail
    refine (O'.out _).mono ?_
    rintro e w' ⟨rfl, rfl⟩
    go_wp2_with fail
    refine (O2.out _).mono ?_
    rintro e w' ⟨rfl, rfl⟩
    go_wp2
    go_ret
    exact ⟨by first | rfl | (rw [← e]; try rfl) | skip, rfl⟩
set_option maxHeartbeats 1000000 in
theorem lesser_at (a b : Nat) (w : World) (ha : a < 18446744073709551616) (hb : b < 18446744073709551616) :
    Calls Tryd.prog 78 #[.float .f64 a, .float .f64 b] w fun e w' => e = .returned (.tuple #[.float .f64 (loB a b), .float .f64 (hiB a b)]) ∧ w' = w := by
  have B := hid (fun w => behind_at a b _ w ha hb rfl)
  unfold loB hiB
  by_cases c : key b < key a
  · rw [if_pos c, if_pos c]
    rw [decide_eq_true c] at B
    clear c
    go_enter Tryd.func78, Tryd.ntmps78
    go_wp2_with fail
    refine (B.out _).mono ?_
    rintro e w' ⟨rfl, rfl⟩
    go_wp2
    go_ret2
    exact ⟨rfl, rfl⟩
  · rw [if_neg c, if_neg c]
    rw [decide_eq_false c] at B
    clear c
    go_enter Tryd.func78, Tryd.ntmps78
    go_wp2_with fail
    refine (B.out _).mono ?_
    rintro e w' ⟨rfl, rfl⟩
    go_wp2
    go_ret2
    exact ⟨rfl, rfl⟩
theorem lo_lt {a b : Nat} (ha : a < 18446744073709551616) (hb : b < 18446744073709551616) : loB a b < 18446744073709551616 := by unfold loB; split <;> assumption
theorem hi_lt {a b : Nat} (ha : a < 18446744073709551616) (hb : b < 18446744073709551616) : hiB a b < 18446744073709551616 := by unfold hiB; split <;> assumption
set_option maxHeartbeats 2000000 in
theorem three_go (a b c a1 b1 b2 c2 a3 b3 r : Nat) (w : World)
    (L1 : Hid (∀ w, Calls Tryd.prog 78 #[.float .f64 a, .float .f64 b] w fun e w' => e = .returned (.tuple #[.float .f64 a1, .float .f64 b1]) ∧ w' = w))
    (L2 : Hid (∀ w, Calls Tryd.prog 78 #[.float .f64 b1, .float .f64 c] w fun e w' => e = .returned (.tuple #[.float .f64 b2, .float .f64 c2]) ∧ w' = w))
    (L3 : Hid (∀ w, Calls Tryd.prog 78 #[.float .f64 a1, .float .f64 b2] w fun e w' => e = .returned (.tuple #[.float .f64 a3, .float .f64 b3]) ∧ w' = w))
    (T : Hid (Calls Tryd.prog 79 #[.slice (some ⟨w.heap.size, 0, none⟩) 3 3] (w.alloc (.cells #[.float .f64 a3, .float .f64 b3, .float .f64 c2] 40)) fun e w' => e = .returned (.float .f64 r) ∧ Hid (Below w.heap.size w w'))) :
    Calls Tryd.prog 63 #[.float .f64 a, .float .f64 b, .float .f64 c] w fun e w' => e = .returned (.float .f64 r) ∧ Hid (Below w.heap.size w w') := by
  go_enter Tryd.func63, Tryd.ntmps63
  go_wp2_with fail
  refine (L1.out _).mono ?_
  rintro e w' ⟨rfl, rfl⟩
  go_wp2_with fail
  refine (L2.out _).mono ?_
  rintro e w' ⟨rfl, rfl⟩
  go_wp2_with fail
  refine (L3.out _).mono ?_
  rintro e w' ⟨rfl, rfl⟩
  go_wp2_with fail
  refine T.out.mono ?_
  rintro e w' ⟨rfl, hb⟩
  go_wp2
  go_ret
  exact ⟨rfl, hb⟩
/-- THREE -/
theorem three_at (a b c : Nat) (w : World) (ha : a < 18446744073709551616) (hb : b < 18446744073709551616) (hc : c < 18446744073709551616) :
    Calls Tryd.prog 63 #[.float .f64 a, .float .f64 b, .float .f64 c] w fun e w' => e = .returned (.float .f64 (thB a b c)) ∧ Hid (Below w.heap.size w w') := by
  have l1 := lo_lt ha hb
  have l2 := hi_lt ha hb
  have l3 := lo_lt l2 hc
  have l4 := hi_lt l2 hc
  refine three_go a b c _ _ _ _ _ _ _ w (fun w => lesser_at a b w ha hb) (fun w => lesser_at _ c w l2 hc) (fun w => lesser_at _ _ w l1 l3) ?_
  have l5 := lo_lt l1 l3
  have l6 := hi_lt l1 l3
  unfold thB
  generalize loB (loB a b) (loB (hiB a b) c) = u at *
  generalize hiB (loB a b) (loB (hiB a b) c) = v at *
  generalize hiB (hiB a b) c = z at *
  have hf : IsFl (w.alloc (.cells #[.float .f64 u, .float .f64 v, .float .f64 z] 40)) (some ⟨w.heap.size, 0, none⟩) 3 (fun j => if j = 0 then u else if j = 1 then v else z) := by
    refine fl_new w _ _ _ 3 (fun k hk => ?_)
    rcases (show k = 0 ∨ k = 1 ∨ k = 2 by omega) with rfl | rfl | rfl
    · exact ⟨l5, rfl⟩
    · exact ⟨l6, rfl⟩
    · exact ⟨l4, rfl⟩
  refine (inTurn_at _ 3 3 _ _ (Nat.le_refl _) (by decide) hf).mono ?_
  rintro e w' ⟨he, k, rfl⟩
  refine ⟨?_, below_drewN ((Below.refl _ _).alloc (Nat.le_refl _) _) k⟩
  rw [he]
  have : leftB (fun j => if j = 0 then u else if j = 1 then v else z) 3 = plB (plB (qB u) v) z := rfl
  rw [this, plB_ql]
end Go.Proofs.YtnklgfmemelcpaaDoor

/-
  What Split, Product and Add of package twin return: walks over the program.
-/
namespace Go.Proofs.YtnklgfmemelcpaaDoor
open Go.RowKit Tf
attribute [local go_sem] run_bits run_from raw_feq raw_fne raw_flt raw_fgt

theorem mul_ok (a b p : Nat) (ha : a < 18446744073709551616) (hb : b < 18446744073709551616) (h : Ieee.double.mul a b = some p) : p < 18446744073709551616 ∧ isN p = false := by
  rcases mul_cases a b ha hb with ⟨fa, fb⟩ | h' | ⟨s, h'⟩
  · have hm := mul_d a b ha hb fa fb
    rw [h] at hm
    have hm := Option.some.inj hm
    have hl : min (rung 52 1074 (mv (mg a) * mv (mg b))) 9218868437227405312 ≤ 9218868437227405312 := Nat.min_le_right _ _
    generalize min (rung 52 1074 (mv (mg a) * mv (mg b))) 9218868437227405312 = q at *
    rw [hm, isN_false]
    cases (ng a ^^ ng b)
    · simp only [Bool.false_eq_true, if_false]; exact ⟨by omega, by rw [mg_of_lt (by omega)]; exact hl⟩
    · simp only [if_true]; exact ⟨by omega, by rw [mg_of_ge (by omega) (by omega)]; omega⟩
  · rw [h] at h'; cases h'
  · rw [h] at h'
    obtain rfl := Option.some.inj h'
    exact ⟨infW_lt s, isN_false.2 (by rw [infW_mg]; omega)⟩
theorem mg_canon (s : Nat) (n : isN s = false) : mg (canonB s) = mg s := by
  unfold canonB
  rw [n, if_neg (by decide)]
  by_cases c : mg s = 0
  · rw [if_pos c, c]; rfl
  · rw [if_neg c]

end Go.Proofs.YtnklgfmemelcpaaDoor

/-
  The small helpers of the statements on twin, and that their own test of life answers true: walks over the program.
-/
namespace Go.Proofs.YtnklgfmemelcpaaDoor
open Go.RowKit Tf
attribute [local go_sem] run_bits run_from raw_feq raw_fne raw_flt raw_fgt run_neg

theorem aw1 : addB 4591870180066957722 4596373779694328218 = 4599075939470750516 := by decide +kernel
theorem aw2 : sumE 4591870180066957722 4596373779694328218 = 13582856476149415936 := by decide +kernel
theorem aw3 : splitH 4728779608772575232 = 4728779608739020800 := by decide +kernel
theorem aw4 : splitL 4728779608772575232 = 4607182418800017408 := by decide +kernel
theorem aw5 : mulB 4591870180066957722 4613937818241073152 = 4599075939470750516 := by decide +kernel
theorem aw6 : prodE 4591870180066957722 4613937818241073152 = 13582856476149415936 := by decide +kernel
theorem rawSame_refl (x : Nat) (w : World) :
    Calls Tryd.prog 22 #[.float .f64 x, .float .f64 x] w fun e w' => e = .returned (.bool true) ∧ w' = w := by
  have h := rawSame_any x x w
  have hs : sameB x x = true := by unfold sameB; simp
  rwa [hs] at h
theorem canon_canon (x : Nat) (_hx : x < 18446744073709551616) : canonB (canonB x) = canonB x := by
  unfold canonB
  by_cases c : isN x = true
  · rw [if_pos c]; decide
  · rw [if_neg c]
    by_cases c2 : mg x = 0
    · rw [if_pos c2]; decide
    · rw [if_neg c2, if_neg c, if_neg c2]
theorem canon_rnf (v : Int) : canonB (rn false v) = rn false v := canon_rn false v
theorem canon_addB (a b : Nat) (ha : a < 18446744073709551616) (hb : b < 18446744073709551616) : canonB (addB a b) = addB a b := by
  rcases add_cases a b ha hb with ⟨h1, h2⟩ | h | ⟨s, h⟩
  · rw [addB_fin a b ha hb h1 h2, canon_rnf]
  · rw [addB_none h]; decide
  · rw [addB_some h, infW_canon, infW_canon]
theorem canon_zero : canonB 0 = 0 := by decide
theorem canon_sumE (a b : Nat) : canonB (sumE a b) = sumE a b := by
  unfold sumE; split
  · exact canon_rnf _
  · exact canon_zero
theorem canon_mulB (a b : Nat) (ha : a < 18446744073709551616) (hb : b < 18446744073709551616) : canonB (mulB a b) = mulB a b := by
  cases h : Ieee.double.mul a b with
  | none => rw [mulB_none h]; decide
  | some p => rw [mulB_some h, canon_canon p (mul_ok a b p ha hb h).1]
theorem canon_prodE (a b : Nat) : canonB (prodE a b) = prodE a b := by
  unfold prodE; split
  · exact canon_rnf _
  · exact canon_zero
theorem mulB_lt (a b : Nat) (ha : a < 18446744073709551616) (hb : b < 18446744073709551616) : mulB a b < 18446744073709551616 := by
  cases h : Ieee.double.mul a b with
  | none => rw [mulB_none h]; decide
  | some p => rw [mulB_some h]; exact canonB_lt (mul_ok a b p ha hb h).1
end Go.Proofs.YtnklgfmemelcpaaDoor

/-
  What the reference's calls of layer 1 return: walks over the program.
-/
namespace Go.Proofs.YtnklgfmemelcpaaDoor
open Go.RowKit Tf
attribute [local go_sem] run_bits run_from raw_feq raw_fne raw_flt raw_fgt run_neg
end Go.Proofs.YtnklgfmemelcpaaDoor

/-
  The reference's order of floats and its sum of three: walks over the program.
-/
namespace Go.Proofs.YtnklgfmemelcpaaDoor
open Go.RowKit Tf
attribute [local go_sem] run_bits run_from raw_feq raw_fne raw_flt raw_fgt run_neg

end Go.Proofs.YtnklgfmemelcpaaDoor
