/-
  Some of the texts of this proof, one behind the other.
-/
import Derived.Test.YtgeipbegpflkhaaGreatDoorZ06
import Derived.Test.YtgeipbegpflkhaaGreatDoorZ03
import Derived.Deep.RegionWith
import Derived.BigQuiet
/-
  Roots and quotients of doubled numbers, by plain numbers (no program).
-/
namespace Go.Proofs.YtgeipbegpflkhaaGreatDoor
open Tf Ieee
def sgn (x : Nat) : Bool := x / 9223372036854775808 % 2 == 1
theorem read_norm {x : Nat} (h1 : 4503599627370496 ≤ mg x) (h2 : mg x < 9218868437227405312) :
    double.read x = .number (sgn x) (4503599627370496 + mg x % 4503599627370496) (double.leastPlace + ((mg x / 4503599627370496 - 1 : Nat) : Int)) := by
  unfold Format.read
  simp only [d_sw, d_bin, d_inf]
  have hmg : x % 9223372036854775808 = mg x := rfl
  rw [hmg, if_neg (by omega), if_pos h2]
  rfl
theorem read_zero {x : Nat} (h : mg x = 0) : double.read x = .number (sgn x) 0 double.leastPlace := by
  unfold Format.read
  simp only [d_sw, d_bin, d_inf]
  have hmg : x % 9223372036854775808 = mg x := rfl
  rw [hmg, if_pos (by omega), h]
  rfl
theorem sgn_ng {x : Nat} (hx : x < 18446744073709551616) : sgn x = ng x := by
  unfold sgn ng
  by_cases c : 9223372036854775808 ≤ x
  · rw [show x / 9223372036854775808 = 1 by omega, decide_eq_true c]; rfl
  · rw [show x / 9223372036854775808 = 0 by omega, decide_eq_false c]; rfl
/-- the whole root -/
theorem root_bound (n : Nat) : ∀ t r, r * r ≤ n → n < (r + 2 ^ t) * (r + 2 ^ t) → Datum.rootFrom n t r * Datum.rootFrom n t r ≤ n ∧ n < (Datum.rootFrom n t r + 1) * (Datum.rootFrom n t r + 1) := by
  intro t
  induction t with
  | zero => intro r h1 h2; exact ⟨h1, h2⟩
  | succ t ih =>
    intro r h1 h2
    unfold Datum.rootFrom
    have e : 1 <<< t = 2 ^ t := by rw [Nat.shiftLeft_eq, Nat.one_mul]
    simp only [e]
    by_cases c : (r + 2 ^ t) * (r + 2 ^ t) ≤ n
    · rw [if_pos c]
      refine ih _ c ?_
      rw [show r + 2 ^ t + 2 ^ t = r + 2 ^ (t + 1) by rw [Nat.pow_succ]; omega]
      exact h2
    · rw [if_neg c]
      exact ih _ h1 (by omega)
def isq (n : Nat) : Nat := Datum.rootFrom n (n.log2 / 2 + 1) 0
theorem isq_spec (n : Nat) : isq n * isq n ≤ n ∧ n < (isq n + 1) * (isq n + 1) := by
  refine root_bound n _ 0 (by omega) ?_
  rw [Nat.zero_add, ← Nat.pow_add]
  by_cases h : n = 0
  · rw [h]; exact Nat.two_pow_pos _
  · exact Nat.lt_of_lt_of_le Nat.lt_log2_self (Nat.pow_le_pow_right (by omega) (by omega))
def rtM (m : Nat) (i : Int) : Nat := (108 - m.log2) + ((i - ((108 - m.log2 : Nat) : Int)) % 2).toNat
def rtW (m s : Nat) : Nat := 2 * isq (m <<< s) + (isq (m <<< s) * isq (m <<< s) != m <<< s).toNat
theorem root_eq {m : Nat} (i : Int) (h : m ≠ 0) : Datum.root 54 (.number false m i) = some (.number false (rtW m (rtM m i)) ((i - (rtM m i : Nat)) / 2 - 1)) := by
  unfold Datum.root
  dsimp only
  rw [if_neg h]
  rfl
theorem sqrt_eq {T : Nat} (hT : T < 18446744073709551616) (hn : ng T = false) (h1 : 4503599627370496 ≤ mg T) (h2 : mg T < 9218868437227405312) :
    double.sqrt T = some (double.nearest false (rtW (4503599627370496 + mg T % 4503599627370496) (rtM (4503599627370496 + mg T % 4503599627370496) (double.leastPlace + ((mg T / 4503599627370496 - 1 : Nat) : Int))))
      ((double.leastPlace + ((mg T / 4503599627370496 - 1 : Nat) : Int) - (rtM (4503599627370496 + mg T % 4503599627370496) (double.leastPlace + ((mg T / 4503599627370496 - 1 : Nat) : Int)) : Nat)) / 2 - 1)) := by
  show ((double.read T).root 54).map double.write = _
  rw [read_norm h1 h2, sgn_ng hT, hn, root_eq _ (by omega)]
  rfl
theorem log_m (q : Nat) (h : q < 4503599627370496) : (4503599627370496 + q).log2 = 52 := by
  refine log2_of (k := 52) ?_ ?_
  · have e : (2 : Nat) ^ 52 = 4503599627370496 := by decide
    omega
  · have e : (2 : Nat) ^ (52 + 1) = 9007199254740992 := by decide
    omega
theorem rtM_val {m : Nat} (i : Int) (h : m.log2 = 52) : 56 ≤ rtM m i ∧ rtM m i ≤ 57 ∧ rtM m (i + 2) = rtM m i ∧ (i - (rtM m i : Nat)) % 2 = 0 := by
  unfold rtM
  rw [h]
  omega
theorem rtW_val {m s : Nat} (h1 : 4503599627370496 ≤ m) (h2 : m < 9007199254740992) (hs : 56 ≤ s ∧ s ≤ 57) : 18014398509481984 ≤ rtW m s ∧ rtW m s < 144115188075855872 := by
  obtain ⟨a, b⟩ := isq_spec (m <<< s)
  have e : m <<< s = m * 2 ^ s := Nat.shiftLeft_eq ..
  have hc : (isq (m <<< s) * isq (m <<< s) != m <<< s).toNat ≤ 1 := by cases (isq (m <<< s) * isq (m <<< s) != m <<< s) <;> decide
  unfold rtW
  generalize (isq (m <<< s) * isq (m <<< s) != m <<< s).toNat = c at *
  generalize isq (m <<< s) = q at *
  rw [e] at a b
  have lo : 4503599627370496 * 2 ^ 56 ≤ m * 2 ^ s := Nat.mul_le_mul h1 (Nat.pow_le_pow_right (by omega) hs.1)
  have hi : m * 2 ^ s ≤ 9007199254740992 * 2 ^ 57 := Nat.mul_le_mul (by omega) (Nat.pow_le_pow_right (by omega) hs.2)
  generalize m * 2 ^ s = n at *
  have k1 : 9007199254740992 ≤ q := by
    rcases Nat.lt_or_ge q 9007199254740992 with k | k
    · have : (q + 1) * (q + 1) ≤ 9007199254740992 * 9007199254740992 := Nat.mul_le_mul (by omega) (by omega)
      omega
    · exact k
  have k2 : q < 72057594037927935 := by
    rcases Nat.lt_or_ge q 72057594037927935 with k | k
    · exact k
    · have : 72057594037927935 * 72057594037927935 ≤ q * q := Nat.mul_le_mul k k
      omega
  omega
def Er16 : Nat := 1548
theorem mv_E16 : mv 6976075822796898304 = 2 ^ (52 + Er16) := mv_two_pow Er16 _ (by decide)
theorem le_E16 {W d : Nat} (hW : W ≤ 2 ^ 57) (hd : d ≤ 1531) : W * 2 ^ d ≤ mv 6976075822796898304 := by
  have hE : 57 + d ≤ 52 + Er16 := by
    have : Er16 = 1548 := rfl
    omega
  rw [mv_E16]
  refine Nat.le_trans (Nat.mul_le_mul_right _ hW) ?_
  rw [← Nat.pow_add]
  exact Nat.pow_le_pow_right (by omega) hE
theorem rung_E16 {V : Nat} (h : V ≤ mv 6976075822796898304) : rung 52 0 V ≤ 6976075822796898304 := by
  refine rung_le (by omega) ?_
  rw [Nat.pow_zero, Nat.mul_one]
  exact h
/-- the root of a number four times as great -/
theorem sqrt_quad {T : Nat} (hT : T < 18446744073709551616) (hn : ng T = false) (h1 : 4503599627370496 ≤ mg T) (h2 : mg T + 9007199254740992 < 9218868437227405312) :
    ∃ r, 4503599627370496 ≤ r ∧ r ≤ 6976075822796898304 ∧ double.sqrt T = some r ∧ double.sqrt (T + 9007199254740992) = some (r + 4503599627370496) := by
  have hTm : T = mg T := by rw [mg_of_lt (lt_of_ng hn)]
  have hT2 : mg (T + 9007199254740992) = mg T + 9007199254740992 := by unfold mg; unfold mg at h2; have := lt_of_ng hn; omega
  have hn2 : ng (T + 9007199254740992) = false := ng_of_lt (by omega)
  have e1 := sqrt_eq hT hn h1 (by omega)
  have e2 := sqrt_eq (T := T + 9007199254740992) (by omega) hn2 (by omega) (by omega)
  rw [hT2, show (mg T + 9007199254740992) % 4503599627370496 = mg T % 4503599627370496 by omega, show (mg T + 9007199254740992) / 4503599627370496 - 1 = (mg T / 4503599627370496 - 1) + 2 by omega] at e2
  have hq : mg T % 4503599627370496 < 4503599627370496 := Nat.mod_lt _ (by omega)
  generalize hm : 4503599627370496 + mg T % 4503599627370496 = m at e1 e2
  have hl : m.log2 = 52 := by rw [← hm]; exact log_m _ hq
  have hk : mg T / 4503599627370496 - 1 ≤ 2045 := by omega
  generalize mg T / 4503599627370496 - 1 = k at e1 e2 hk
  rw [show double.leastPlace + ((k + 2 : Nat) : Int) = double.leastPlace + (k : Int) + 2 by omega] at e2
  have hlp := d_lp
  generalize hi : double.leastPlace + (k : Int) = i at e1 e2
  obtain ⟨m1, m2, m3, m4⟩ := rtM_val i hl
  rw [m3] at e2
  generalize rtM m i = s at *
  obtain ⟨w1, w2⟩ := rtW_val (m := m) (s := s) (by omega) (by omega) ⟨m1, m2⟩
  generalize rtW m s = W at *
  obtain ⟨d, hd⟩ : ∃ d : Nat, (i - (s : Int)) / 2 - 1 = double.leastPlace + (d : Int) := ⟨((i - (s : Int)) / 2 - 1 - double.leastPlace).toNat, by omega⟩
  have hd2 : (i + 2 - (s : Int)) / 2 - 1 = double.leastPlace + ((d + 1 : Nat) : Int) := by omega
  have hdle : d ≤ 1531 := by omega
  rw [nearest_up double false W d _ hd, d_word, d_inf] at e1
  rw [nearest_up double false W (d + 1) _ hd2, d_word, d_inf, Nat.pow_succ, ← Nat.mul_assoc] at e2
  have h0 : W * 2 ^ d ≠ 0 := Nat.mul_ne_zero (by omega) (by have := Nat.two_pow_pos d; omega)
  have hlog : 52 + 0 ≤ (W * 2 ^ d).log2 := by
    refine (Nat.le_log2 h0).2 ?_
    have e : (2 : Nat) ^ (52 + 0) = 4503599627370496 := by decide
    rw [e]
    have := Nat.two_pow_pos d
    exact Nat.le_trans (by omega) (Nat.le_mul_of_pos_right W this)
  have hb := rung_big hlog h0
  have hr := rung_dbl h0 hlog
  have hW57 : W ≤ 2 ^ 57 := by
    have e : (2 : Nat) ^ 57 = 144115188075855872 := by decide
    omega
  have hle := rung_E16 (le_E16 hW57 hdle)
  have hfb : double.fractionBits = 52 := rfl
  rw [hfb] at e1 e2
  rw [hr] at e2
  generalize rung 52 0 (W * 2 ^ d) = r at *
  simp only [Bool.false_eq_true, if_false] at e1 e2
  rw [Nat.min_eq_left (by omega)] at e1 e2
  exact ⟨r, hb, hle, e1, e2⟩
/-- the root of what is doubled twice -/
theorem rtB_db {T : Nat} (hT : T < 18446744073709551616) (hn : ng T = false) (h : mg T = 0 ∨ (4503599627370496 ≤ mg T ∧ mg T + 9007199254740992 < 9218868437227405312)) :
    rtB (db (db T)) = db (rtB T) ∧ Md (rtB T) := by
  have hTm : T = mg T := by rw [mg_of_lt (lt_of_ng hn)]
  rcases h with h | ⟨h1, h2⟩
  · have : T = 0 := by omega
    subst this
    have e : rtB 0 = 0 := by decide +kernel
    rw [show db (db 0) = 0 by decide, e]
    exact ⟨by decide, .inl (by decide)⟩
  · obtain ⟨r, r1, r2, e1, e2⟩ := sqrt_quad hT hn h1 h2
    have ed : db (db T) = T + 9007199254740992 := by
      have : db T = T + 4503599627370496 := by unfold db; rw [if_neg (by omega)]
      have h3 : mg (T + 4503599627370496) ≠ 0 := by unfold mg; have := lt_of_ng hn; omega
      have h4 : db (T + 4503599627370496) = T + 4503599627370496 + 4503599627370496 := by unfold db; rw [if_neg h3]
      have h5 : T + 4503599627370496 + 4503599627370496 = T + 9007199254740992 := by omega
      exact (congrArg db this).trans (h4.trans h5)
    have hm : mg r = r := mg_of_lt (by omega)
    have hm2 : mg (r + 4503599627370496) = r + 4503599627370496 := mg_of_lt (by omega)
    have c1 : canonB r = r := by unfold canonB; rw [if_neg (by rw [isN_true]; omega), if_neg (by omega)]
    have c2 : canonB (r + 4503599627370496) = r + 4503599627370496 := by unfold canonB; rw [if_neg (by rw [isN_true]; omega), if_neg (by omega)]
    rw [ed, rtB_some e1, rtB_some e2, c1, c2]
    refine ⟨?_, .inr ⟨by omega, by omega⟩⟩
    unfold db
    rw [if_neg (by omega)]
/-- the quotient of two doubled numbers -/
theorem dvB_db {x l : Nat} (hx : x < 18446744073709551616) (hl : l < 18446744073709551616) (mx : Md x) (ml : Md l) (l0 : mg l ≠ 0) : dvB (db x) (db l) = dvB x l := by
  have nl := ml.resolve_left l0
  have el := read_norm (x := l) nl.1 (by omega)
  have edl := read_norm (x := db l) (by rw [db_mg ml.w, if_neg l0]; omega) ml.dfin
  rw [db_mg ml.w, if_neg l0, sgn_ng (db_lt ml.w hl), db_ng ml.w hl, ← sgn_ng hl, show (mg l + 4503599627370496) % 4503599627370496 = mg l % 4503599627370496 by omega, show (mg l + 4503599627370496) / 4503599627370496 - 1 = (mg l / 4503599627370496 - 1) + 1 by omega] at edl
  have hdv : double.div (db x) (db l) = double.div x l := by
    show ((double.read (db x)).quotient 54 (double.read (db l))).map double.write = ((double.read x).quotient 54 (double.read l)).map double.write
    rw [edl, el]
    have hn : 4503599627370496 + mg l % 4503599627370496 ≠ 0 := by omega
    generalize 4503599627370496 + mg l % 4503599627370496 = n at *
    generalize mg l / 4503599627370496 - 1 = b
    rcases mx with h | h
    · have hd : db x = x := by unfold db; rw [if_pos h]
      rw [hd, read_zero h]
      unfold Datum.quotient
      dsimp only
      rw [if_neg hn, if_neg hn]
      simp [Format.write, Format.nearest]
    · have mx' : Md x := .inr h
      have ex := read_norm (x := x) h.1 (by omega)
      have edx := read_norm (x := db x) (by rw [db_mg mx'.w, if_neg (by omega)]; omega) mx'.dfin
      rw [db_mg mx'.w, if_neg (show ¬ mg x = 0 by omega), sgn_ng (db_lt mx'.w hx), db_ng mx'.w hx, ← sgn_ng hx, show (mg x + 4503599627370496) % 4503599627370496 = mg x % 4503599627370496 by omega, show (mg x + 4503599627370496) / 4503599627370496 - 1 = (mg x / 4503599627370496 - 1) + 1 by omega] at edx
      rw [edx, ex]
      unfold Datum.quotient
      dsimp only
      rw [if_neg hn, if_neg hn]
      generalize double.leastPlace = lp
      congr 4
      omega
  unfold dvB
  rw [hdv]
end Go.Proofs.YtgeipbegpflkhaaGreatDoor

/-
  Square roots, held against halfway points, by plain numbers (no program).
-/
namespace Go.Proofs.YtgeipbegpflkhaaGreatDoor
open Tf Ieee
/-- the whole root twice, and one more where that isn't all -/
def stW (n : Nat) : Nat := 2 * isq n + (isq n * isq n != n).toNat
theorem st_lt {n y : Nat} (h : y * y < n) : 2 * y < stW n := by
  obtain ⟨a, b⟩ := isq_spec n
  unfold stW
  generalize isq n = q at *
  have h1 : y ≤ q := by
    rcases Nat.lt_or_ge q y with k | k
    · have := Nat.mul_le_mul (show q + 1 ≤ y by omega) (show q + 1 ≤ y by omega)
      omega
    · exact k
  by_cases c : y = q
  · subst c
    have : (y * y != n) = true := by simp; omega
    rw [this]; simp
  · have : (q * q != n).toNat ≤ 1 := by cases (q * q != n) <;> decide
    omega
theorem st_gt {n y : Nat} (h : n < y * y) : stW n < 2 * y := by
  obtain ⟨a, b⟩ := isq_spec n
  unfold stW
  generalize isq n = q at *
  have h1 : q < y := by
    rcases Nat.lt_or_ge q y with k | k
    · exact k
    · have := Nat.mul_le_mul k k
      omega
  have : (q * q != n).toNat ≤ 1 := by cases (q * q != n) <;> decide
  omega
theorem st_le {n y : Nat} (h : y * y ≤ n) : 2 * y ≤ stW n := by
  obtain ⟨a, b⟩ := isq_spec n
  unfold stW
  generalize isq n = q at *
  have h1 : y ≤ q := by
    rcases Nat.lt_or_ge q y with k | k
    · have := Nat.mul_le_mul (show q + 1 ≤ y by omega) (show q + 1 ≤ y by omega)
      omega
    · exact k
  omega
theorem mv_parts {r : Nat} (h : 4503599627370496 ≤ r) : mv r = (4503599627370496 + r % 4503599627370496) * 2 ^ (r / 4503599627370496 - 1) := by
  unfold mv mag
  have e : (2 : Nat) ^ 52 = 4503599627370496 := by decide
  rw [if_neg (by omega), e]
theorem mv_next (r : Nat) : mv (r + 1) = mv r + 2 ^ (r / 4503599627370496 - 1) := by
  have e : (2 : Nat) ^ 52 = 4503599627370496 := by decide
  have h := mag_succ 52 r
  unfold gap at h
  rw [e] at h
  exact h
/-- two numbers side by side that are great enough: their sum is a multiple of 2 ^ (d + 2) -/
theorem mid_mult {r d : Nat} (h : (d + 3) * 4503599627370496 ≤ r) : ∃ y, mv r + mv (r + 1) = y * 2 ^ (d + 2) := by
  rw [mv_next, mv_parts (by omega)]
  obtain ⟨j, hj⟩ : ∃ j, r / 4503599627370496 - 1 = d + 2 + j := by
    have : d + 3 ≤ r / 4503599627370496 := (Nat.le_div_iff_mul_le (by omega)).2 h
    exact ⟨r / 4503599627370496 - 1 - (d + 2), by omega⟩
  rw [hj]
  refine ⟨(2 * (4503599627370496 + r % 4503599627370496) + 1) * 2 ^ j, ?_⟩
  rw [Nat.pow_add 2 (d + 2) j]
  generalize 4503599627370496 + r % 4503599627370496 = a
  generalize 2 ^ (d + 2) = b
  generalize 2 ^ j = c
  rw [show a * (b * c) + (a * (b * c) + b * c) = (2 * a + 1) * (b * c) by rw [Nat.add_mul, Nat.mul_assoc 2, Nat.one_mul]; omega, Nat.mul_comm b c, Nat.mul_assoc]
theorem one_mult {r d : Nat} (h : (d + 3) * 4503599627370496 ≤ r) : ∃ y, 2 * mv r = y * 2 ^ (d + 2) := by
  rw [mv_parts (by omega)]
  obtain ⟨j, hj⟩ : ∃ j, r / 4503599627370496 - 1 = d + 2 + j := by
    have : d + 3 ≤ r / 4503599627370496 := (Nat.le_div_iff_mul_le (by omega)).2 h
    exact ⟨r / 4503599627370496 - 1 - (d + 2), by omega⟩
  rw [hj]
  refine ⟨2 * (4503599627370496 + r % 4503599627370496) * 2 ^ j, ?_⟩
  rw [Nat.pow_add 2 (d + 2) j]
  generalize 4503599627370496 + r % 4503599627370496 = a
  generalize 2 ^ (d + 2) = b
  generalize 2 ^ j = c
  rw [Nat.mul_comm b c, ← Nat.mul_assoc, ← Nat.mul_assoc]
theorem great_rung {r d W : Nat} (hW : 18014398509481984 ≤ W) (h : W * 2 ^ d < mv r) : (d + 3) * 4503599627370496 < r := by
  have e2 := mv_two_pow (d + 2) ((d + 3) * 4503599627370496) (by
    have e : (2 : Nat) ^ 52 = 4503599627370496 := by decide
    rw [e])
  have e3 : 2 ^ (52 + (d + 2)) = 18014398509481984 * 2 ^ d := by
    rw [show 52 + (d + 2) = 54 + d by omega, Nat.pow_add]
  have h1 : 18014398509481984 * 2 ^ d ≤ W * 2 ^ d := Nat.mul_le_mul_right _ hW
  have : mv ((d + 3) * 4503599627370496) < mv r := by omega
  exact mv_lt.1 this
theorem sq_scale (y d : Nat) : (y * 2 ^ (d + 2)) * (y * 2 ^ (d + 2)) = y * y * 2 ^ (2 * d + 4) := by
  rw [show 2 * d + 4 = (d + 2) + (d + 2) by omega, Nat.pow_add 2 (d + 2) (d + 2)]
  generalize 2 ^ (d + 2) = b
  rw [Nat.mul_mul_mul_comm]
theorem four_scale (n d : Nat) : 4 * (n * 2 ^ (2 * d + 2)) = n * 2 ^ (2 * d + 4) := by
  rw [show 2 * d + 4 = (2 * d + 2) + 2 by omega, Nat.pow_add 2 (2 * d + 2) 2]
  generalize 2 ^ (2 * d + 2) = b
  rw [show (2 : Nat) ^ 2 = 4 by decide, Nat.mul_comm b 4, Nat.mul_left_comm]
/-- above halfway: the root is at least the upper one -/
theorem rt_low {n d r : Nat} (hW : 18014398509481984 ≤ stW n) (h : (mv r + mv (r + 1)) * (mv r + mv (r + 1)) < 4 * (n * 2 ^ (2 * d + 2))) : r + 1 ≤ rung 52 0 (stW n * 2 ^ d) := by
  rcases Nat.lt_or_ge (stW n * 2 ^ d) (mv (r + 1)) with c | c
  · have hr := great_rung hW c
    obtain ⟨y, hy⟩ := mid_mult (r := r) (d := d) (by omega)
    rw [hy, sq_scale, four_scale] at h
    have h1 : y * y < n := Nat.lt_of_mul_lt_mul_right h
    have h2 := st_lt h1
    have h3 : mv r + mv (r + 1) < 2 * (stW n * 2 ^ d) := by
      rw [hy, show d + 2 = d + 1 + 1 by omega, Nat.pow_succ, Nat.pow_succ]
      have := (Nat.mul_lt_mul_right (Nat.two_pow_pos d)).2 h2
      generalize 2 ^ d = b at *
      generalize stW n = W at *
      have e1 : y * (b * 2 * 2) = 2 * (2 * y * b) := by rw [show b * 2 * 2 = b * 4 by omega, show 2 * (2 * y * b) = y * b * 4 by rw [Nat.mul_assoc 2 y b]; omega, Nat.mul_assoc]
      omega
    have hlow : mv r ≤ stW n * 2 ^ d := by
      have := mv_le (r := r) (r' := r + 1)
      omega
    have := rung_between 52 0 r (stW n * 2 ^ d) (by omega) (by rw [Nat.pow_zero, Nat.mul_one]; exact hlow) (by rw [Nat.pow_zero, Nat.mul_one]; exact c)
    rw [if_pos (.inl (by rw [Nat.pow_zero, Nat.mul_one]; exact h3))] at this
    omega
  · exact rung_ge (by omega) (by rw [Nat.pow_zero, Nat.mul_one]; exact c)
/-- below halfway: the root is at most the lower one -/
theorem rt_up {n d r : Nat} (hW : 18014398509481984 ≤ stW n) (h : 4 * (n * 2 ^ (2 * d + 2)) < (mv r + mv (r + 1)) * (mv r + mv (r + 1))) : rung 52 0 (stW n * 2 ^ d) ≤ r := by
  rcases Nat.lt_or_ge (stW n * 2 ^ d) (mv (r + 1)) with c | c
  · rcases Nat.lt_or_ge (mv r) (stW n * 2 ^ d) with c2 | c2
    · have hr := great_rung hW c
      obtain ⟨y, hy⟩ := mid_mult (r := r) (d := d) (by omega)
      rw [hy, sq_scale, four_scale] at h
      have h1 : n < y * y := Nat.lt_of_mul_lt_mul_right h
      have h2 := st_gt h1
      have h3 : 2 * (stW n * 2 ^ d) < mv r + mv (r + 1) := by
        rw [hy, show d + 2 = d + 1 + 1 by omega, Nat.pow_succ, Nat.pow_succ]
        have := (Nat.mul_lt_mul_right (Nat.two_pow_pos d)).2 h2
        generalize 2 ^ d = b at *
        generalize stW n = W at *
        have e1 : y * (b * 2 * 2) = 2 * (2 * y * b) := by rw [show b * 2 * 2 = b * 4 by omega, show 2 * (2 * y * b) = y * b * 4 by rw [Nat.mul_assoc 2 y b]; omega, Nat.mul_assoc]
        omega
      have := rung_between 52 0 r (stW n * 2 ^ d) (by omega) (by rw [Nat.pow_zero, Nat.mul_one]; exact Nat.le_of_lt c2) (by rw [Nat.pow_zero, Nat.mul_one]; exact c)
      rw [if_neg (by rw [Nat.pow_zero, Nat.mul_one]; show ¬ (mv r + mv (r + 1) < _ ∨ (mv r + mv (r + 1) = _ ∧ _)); omega)] at this
      omega
    · exact rung_le (by omega) (by rw [Nat.pow_zero, Nat.mul_one]; exact c2)
  · exfalso
    have hr : 2 * mv (r + 1) ≤ 2 * (stW n * 2 ^ d) := by omega
    have hn := (mv_le (r := r) (r' := r + 1)).2 (by omega)
    have c3 : mv r + mv (r + 1) ≤ 2 * mv (r + 1) := by omega
    -- the root is no less than the upper one, so halfway is below it
    by_cases g : (d + 3) * 4503599627370496 ≤ r
    · obtain ⟨y, hy⟩ := mid_mult (r := r) (d := d) g
      rw [hy, sq_scale, four_scale] at h
      have h1 : n < y * y := Nat.lt_of_mul_lt_mul_right h
      have h2 := st_gt h1
      have := (Nat.mul_lt_mul_right (Nat.two_pow_pos d)).2 h2
      rw [hy, show d + 2 = d + 1 + 1 by omega, Nat.pow_succ, Nat.pow_succ] at c3
      generalize 2 ^ d = b at *
      generalize stW n = W at *
      have e1 : y * (b * 2 * 2) = 2 * (2 * y * b) := by rw [show b * 2 * 2 = b * 4 by omega, show 2 * (2 * y * b) = y * b * 4 by rw [Nat.mul_assoc 2 y b]; omega, Nat.mul_assoc]
      omega
    · -- both are small: twice the upper one is at most 2 ^ (55 + d), and the root is at least that half
      have e2 := mv_two_pow (d + 2) ((d + 3) * 4503599627370496) (by
        have e : (2 : Nat) ^ 52 = 4503599627370496 := by decide
        rw [e])
      have hle : mv (r + 1) ≤ mv ((d + 3) * 4503599627370496) := mv_le.2 (by omega)
      have h5 : (mv r + mv (r + 1)) * (mv r + mv (r + 1)) ≤ (2 * 2 ^ (52 + (d + 2))) * (2 * 2 ^ (52 + (d + 2))) := Nat.mul_le_mul (by omega) (by omega)
      have h6 : (2 * 2 ^ (52 + (d + 2))) * (2 * 2 ^ (52 + (d + 2))) = 9007199254740992 * 9007199254740992 * 2 ^ (2 * d + 4) := by
        rw [show 2 * 2 ^ (52 + (d + 2)) = 9007199254740992 * 2 ^ (d + 2) by rw [Nat.pow_add 2 52 (d + 2), ← Nat.mul_assoc], sq_scale]
      rw [four_scale] at h
      have h7 : n < 9007199254740992 * 9007199254740992 := by
        refine Nat.lt_of_mul_lt_mul_right (a := 2 ^ (2 * d + 4)) ?_
        omega
      have := st_gt h7
      omega
/-- what the root of a number is -/
theorem sqrt_core {T : Nat} (hT : T < 18446744073709551616) (hn : ng T = false) (h1 : 4503599627370496 ≤ mg T) (h2 : mg T < 9218868437227405312) :
    ∃ n d, mv (mg T) * 2 ^ K = n * 2 ^ (2 * d + 2) ∧ 18014398509481984 ≤ stW n ∧ rtB T = rung 52 0 (stW n * 2 ^ d) ∧ 4503599627370496 ≤ rtB T ∧ rtB T ≤ 6976075822796898304 := by
  have e1 := sqrt_eq hT hn h1 h2
  have hp := mv_parts h1
  have hq : mg T % 4503599627370496 < 4503599627370496 := Nat.mod_lt _ (by omega)
  generalize hm : 4503599627370496 + mg T % 4503599627370496 = m at e1 hp
  have hl : m.log2 = 52 := by rw [← hm]; exact log_m _ hq
  have hk : mg T / 4503599627370496 - 1 ≤ 2045 := by omega
  generalize mg T / 4503599627370496 - 1 = k at e1 hp hk
  have hlp := d_lp
  generalize hi : double.leastPlace + (k : Int) = i at e1
  obtain ⟨m1, m2, m3, m4⟩ := rtM_val i hl
  generalize rtM m i = s at *
  obtain ⟨w1, w2⟩ := rtW_val (m := m) (s := s) (by omega) (by omega) ⟨m1, m2⟩
  have hst : rtW m s = stW (m <<< s) := rfl
  obtain ⟨d, hd⟩ : ∃ d : Nat, (i - (s : Int)) / 2 - 1 = double.leastPlace + (d : Int) := ⟨((i - (s : Int)) / 2 - 1 - double.leastPlace).toNat, by omega⟩
  have hdle : d ≤ 1531 := by omega
  have hks : k + K = s + (2 * d + 2) := by
    have : K = 1074 := rfl
    omega
  rw [nearest_up double false (rtW m s) d _ hd, d_word, d_inf] at e1
  generalize rtW m s = W at *
  have h0 : W * 2 ^ d ≠ 0 := Nat.mul_ne_zero (by omega) (by have := Nat.two_pow_pos d; omega)
  have hlog : 52 + 0 ≤ (W * 2 ^ d).log2 := by
    refine (Nat.le_log2 h0).2 ?_
    have e : (2 : Nat) ^ (52 + 0) = 4503599627370496 := by decide
    rw [e]
    have := Nat.two_pow_pos d
    exact Nat.le_trans (by omega) (Nat.le_mul_of_pos_right W this)
  have hb := rung_big hlog h0
  have hW57 : W ≤ 2 ^ 57 := by
    have e : (2 : Nat) ^ 57 = 144115188075855872 := by decide
    omega
  have hle := rung_E16 (le_E16 hW57 hdle)
  have hfb : double.fractionBits = 52 := rfl
  rw [hfb] at e1
  refine ⟨m <<< s, d, ?_, by omega, ?_⟩
  · rw [hp, Nat.shiftLeft_eq, Nat.mul_assoc, ← Nat.pow_add, hks, Nat.pow_add, ← Nat.mul_assoc]
  · rw [← hst]
    generalize rung 52 0 (W * 2 ^ d) = r at *
    simp only [Bool.false_eq_true, if_false] at e1
    rw [Nat.min_eq_left (by omega)] at e1
    have hmr : mg r = r := mg_of_lt (by omega)
    have c1 : canonB r = r := by unfold canonB; rw [if_neg (by rw [isN_true]; omega), if_neg (by omega)]
    rw [rtB_some e1, c1]
    exact ⟨rfl, hb, hle⟩
end Go.Proofs.YtgeipbegpflkhaaGreatDoor

/-
  Sums by pairs: walks over the program.
-/
namespace Go.Proofs.YtgeipbegpflkhaaGreatDoor
open Go.RowKit Tf
attribute [local go_sem] run_bits run_from raw_feq raw_fne raw_flt raw_fgt run_neg

/-- a list that was laid just now -/
theorem fl_new (w : World) (T : TypeId) (c : Array Value) (xs : Nat → Nat) (n : Nat) (h : ∀ k, k < n → xs k < 18446744073709551616 ∧ c[k]? = some (.float .f64 (xs k))) : IsFl (w.alloc (.cells c T)) (some ⟨w.heap.size, 0, none⟩) n xs := by
  intro k hk
  refine ⟨(h k hk).1, w.heap.size, 0, rfl, by simp, ?_⟩
  rw [Nat.zero_add]
  have := (h k hk).2
  simp [this]
end Go.Proofs.YtgeipbegpflkhaaGreatDoor

/-
  Careful sums, and sums of three: walks over the program.
-/
namespace Go.Proofs.YtgeipbegpflkhaaGreatDoor
open Go.RowKit Tf
attribute [local go_sem] run_bits run_from raw_feq raw_fne raw_flt raw_fgt run_neg

theorem place_mg (x : Nat) : placeB (mg x) = mg x + 9223372036854775808 := by
  unfold placeB; rw [ng_of_lt (mg_lt x)]; rfl
theorem order_mg (a b : Nat) : orderB (mg a) (mg b) = if mg a < mg b then -1 else if mg b < mg a then 1 else 0 := by
  unfold orderB
  rw [place_mg, place_mg]
  by_cases h1 : mg a < mg b
  · rw [if_pos (by omega), if_pos h1]
  · rw [if_neg (by omega), if_neg h1]
    by_cases h2 : mg b < mg a
    · rw [if_pos (by omega), if_pos h2]
    · rw [if_neg (by omega), if_neg h2]
theorem key_lt (a b : Nat) (ha : a < 18446744073709551616) (hb : b < 18446744073709551616) : key b < key a ↔ mg b < mg a ∨ (mg a = mg b ∧ placeB b < placeB a) := by
  have h1 := word_eq a ha
  have h2 := word_eq b hb
  have h3 := mg_lt a
  have h4 := mg_lt b
  unfold key placeB
  revert h1 h2
  cases ng a <;> cases ng b <;> simp <;> omega
set_option maxHeartbeats 1000000 in
theorem behind_at (a b : Nat) (r : Bool) (w : World) (ha : a < 18446744073709551616) (hb : b < 18446744073709551616) (hr : decide (key b < key a) = r) :
    Calls Tryz.prog 154 #[.float .f64 a, .float .f64 b] w fun e w' => e = .returned (.bool r) ∧ w' = w := by
  have A := hid (fun w => abs_any a w ha)
  have B := hid (fun w => abs_any b w hb)
  have h3 := mg_lt a
  have h4 := mg_lt b
  have O := hid (fun o w h => orderB_at (mg a) (mg b) o w (by omega) (by omega) h)
  have O2 := hid (fun w => orderB_at a b _ w ha hb rfl)
  have hk := key_lt a b ha hb
  have ho := order_mg a b
  by_cases c1 : mg a < mg b
  · rw [if_pos c1] at ho
    have O' := hid (fun w => O.out _ w ho)
    have e : r = false := by rw [← hr]; exact decide_eq_false (fun x => by have := hk.1 x; omega)
    subst e
    clear O O2 hk hr ho c1 h3 h4 ha hb
    generalize mg a = ma at *
    generalize mg b = mb at *
    go_enter Tryz.func154, Tryz.ntmps154
    go_wp2_with fail
    refine (A.out _).mono ?_
    rintro e w' ⟨rfl, rfl⟩
    go_wp2_with fail
    refine (B.out _).mono ?_
    rintro e w' ⟨rfl, rfl⟩
    go_wp2_with fail
    refine (O'.out _).mono ?_
    rintro e w' ⟨rfl, rfl⟩
    go_wp2
    go_ret
    exact ⟨rfl, rfl⟩
  by_cases c2 : mg b < mg a
  · rw [if_neg c1, if_pos c2] at ho
    have O' := hid (fun w => O.out _ w ho)
    have e : r = true := by rw [← hr]; exact decide_eq_true (hk.2 (.inl c2))
    subst e
    clear O O2 hk hr ho c1 c2 h3 h4 ha hb
    generalize mg a = ma at *
    generalize mg b = mb at *
    go_enter Tryz.func154, Tryz.ntmps154
    go_wp2_with fail
    refine (A.out _).mono ?_
    rintro e w' ⟨rfl, rfl⟩
    go_wp2_with fail
    refine (B.out _).mono ?_
    rintro e w' ⟨rfl, rfl⟩
    go_wp2_with fail
    refine (O'.out _).mono ?_
    rintro e w' ⟨rfl, rfl⟩
    go_wp2
    go_ret
    exact ⟨rfl, rfl⟩
  · rw [if_neg c1, if_neg c2] at ho
    have O' := hid (fun w => O.out _ w ho)
    obtain ⟨o, ho2⟩ : ∃ o, orderB a b = o := ⟨_, rfl⟩
    have e : decide (0 < o) = r := by
      rw [← hr, ← ho2]
      refine decide_eq_decide.2 ?_
      rw [orderB_gt, hk]
      constructor
      · intro h; exact .inr ⟨by omega, h⟩
      · rintro (h | h)
        · omega
        · exact h.2
    rw [ho2] at O2
    clear O hk hr ho c1 c2 h3 h4 ha hb ho2
    generalize mg a = ma at *
    generalize mg b = mb at *
    go_enter Tryz.func154, Tryz.ntmps154
    go_wp2_with fail
    refine (A.out _).mono ?_
    rintro e w' ⟨rfl, rfl⟩
    go_wp2_with fail
    refine (B.out _).mono ?_
    rintro e w' ⟨rfl, rfl⟩
    go_wp2_with fail
    refine (O'.out _).mono ?_
    rintro e w' ⟨rfl, rfl⟩
    go_wp2_with fail
    refine (O2.out _).mono ?_
    rintro e w' ⟨rfl, rfl⟩
    go_wp2
    go_ret
    exact ⟨by first | rfl | (rw [← e]; try rfl) | skip, rfl⟩
set_option maxHeartbeats 1000000 in
theorem lesser_at (a b : Nat) (w : World) (ha : a < 18446744073709551616) (hb : b < 18446744073709551616) :
    Calls Tryz.prog 145 #[.float .f64 a, .float .f64 b] w fun e w' => e = .returned (.tuple #[.float .f64 (loB a b), .float .f64 (hiB a b)]) ∧ w' = w := by
  have B := hid (fun w => behind_at a b _ w ha hb rfl)
  unfold loB hiB
  by_cases c : key b < key a
  · rw [if_pos c, if_pos c]
    rw [decide_eq_true c] at B
    clear c
    go_enter Tryz.func145, Tryz.ntmps145
    go_wp2_with fail
    refine (B.out _).mono ?_
    rintro e w' ⟨rfl, rfl⟩
    go_wp2
    go_ret2
    exact ⟨rfl, rfl⟩
  · rw [if_neg c, if_neg c]
    rw [decide_eq_false c] at B
    clear c
    go_enter Tryz.func145, Tryz.ntmps145
    go_wp2_with fail
    refine (B.out _).mono ?_
    rintro e w' ⟨rfl, rfl⟩
    go_wp2
    go_ret2
    exact ⟨rfl, rfl⟩
theorem lo_lt {a b : Nat} (ha : a < 18446744073709551616) (hb : b < 18446744073709551616) : loB a b < 18446744073709551616 := by unfold loB; split <;> assumption
theorem hi_lt {a b : Nat} (ha : a < 18446744073709551616) (hb : b < 18446744073709551616) : hiB a b < 18446744073709551616 := by unfold hiB; split <;> assumption
set_option maxHeartbeats 2000000 in
theorem three_go (a b c a1 b1 b2 c2 a3 b3 r : Nat) (w : World)
    (L1 : Hid (∀ w, Calls Tryz.prog 145 #[.float .f64 a, .float .f64 b] w fun e w' => e = .returned (.tuple #[.float .f64 a1, .float .f64 b1]) ∧ w' = w))
    (L2 : Hid (∀ w, Calls Tryz.prog 145 #[.float .f64 b1, .float .f64 c] w fun e w' => e = .returned (.tuple #[.float .f64 b2, .float .f64 c2]) ∧ w' = w))
    (L3 : Hid (∀ w, Calls Tryz.prog 145 #[.float .f64 a1, .float .f64 b2] w fun e w' => e = .returned (.tuple #[.float .f64 a3, .float .f64 b3]) ∧ w' = w))
    (T : Hid (Calls Tryz.prog 146 #[.slice (some ⟨w.heap.size, 0, none⟩) 3 3] (w.alloc (.cells #[.float .f64 a3, .float .f64 b3, .float .f64 c2] 28)) fun e w' => e = .returned (.float .f64 r) ∧ Hid (Below w.heap.size w w'))) :
    Calls Tryz.prog 123 #[.float .f64 a, .float .f64 b, .float .f64 c] w fun e w' => e = .returned (.float .f64 r) ∧ Hid (Below w.heap.size w w') := by
  go_enter Tryz.func123, Tryz.ntmps123
  go_wp2_with fail
  refine (L1.out _).mono ?_
  rintro e w' ⟨rfl, rfl⟩
  go_wp2_with fail
  refine (L2.out _).mono ?_
  rintro e w' ⟨rfl, rfl⟩
  go_wp2_with fail
  refine (L3.out _).mono ?_
  rintro e w' ⟨rfl, rfl⟩
  go_wp2_with fail
  refine T.out.mono ?_
  rintro e w' ⟨rfl, hb⟩
  go_wp2
  go_ret
  exact ⟨rfl, hb⟩
/-- THREE -/
theorem three_at (a b c : Nat) (w : World) (ha : a < 18446744073709551616) (hb : b < 18446744073709551616) (hc : c < 18446744073709551616) :
    Calls Tryz.prog 123 #[.float .f64 a, .float .f64 b, .float .f64 c] w fun e w' => e = .returned (.float .f64 (thB a b c)) ∧ Hid (Below w.heap.size w w') := by
  have l1 := lo_lt ha hb
  have l2 := hi_lt ha hb
  have l3 := lo_lt l2 hc
  have l4 := hi_lt l2 hc
  refine three_go a b c _ _ _ _ _ _ _ w (fun w => lesser_at a b w ha hb) (fun w => lesser_at _ c w l2 hc) (fun w => lesser_at _ _ w l1 l3) ?_
  have l5 := lo_lt l1 l3
  have l6 := hi_lt l1 l3
  unfold thB
  generalize loB (loB a b) (loB (hiB a b) c) = u at *
  generalize hiB (loB a b) (loB (hiB a b) c) = v at *
  generalize hiB (hiB a b) c = z at *
  have hf : IsFl (w.alloc (.cells #[.float .f64 u, .float .f64 v, .float .f64 z] 28)) (some ⟨w.heap.size, 0, none⟩) 3 (fun j => if j = 0 then u else if j = 1 then v else z) := by
    refine fl_new w _ _ _ 3 (fun k hk => ?_)
    rcases (show k = 0 ∨ k = 1 ∨ k = 2 by omega) with rfl | rfl | rfl
    · exact ⟨l5, rfl⟩
    · exact ⟨l6, rfl⟩
    · exact ⟨l4, rfl⟩
  refine (inTurn_at _ 3 3 _ _ (Nat.le_refl _) (by decide) hf).mono ?_
  rintro e w' ⟨he, k, rfl⟩
  refine ⟨?_, below_drewN ((Below.refl _ _).alloc (Nat.le_refl _) _) k⟩
  rw [he]
  have : leftB (fun j => if j = 0 then u else if j = 1 then v else z) 3 = plB (plB (qB u) v) z := rfl
  rw [this, plB_ql]
end Go.Proofs.YtgeipbegpflkhaaGreatDoor

/-
  What Split, Product and Add of package twin return: walks over the program.
-/
namespace Go.Proofs.YtgeipbegpflkhaaGreatDoor
open Go.RowKit Tf
attribute [local go_sem] run_bits run_from raw_feq raw_fne raw_flt raw_fgt

theorem mul_ok (a b p : Nat) (ha : a < 18446744073709551616) (hb : b < 18446744073709551616) (h : Ieee.double.mul a b = some p) : p < 18446744073709551616 ∧ isN p = false := by
  rcases mul_cases a b ha hb with ⟨fa, fb⟩ | h' | ⟨s, h'⟩
  · have hm := mul_d a b ha hb fa fb
    rw [h] at hm
    have hm := Option.some.inj hm
    have hl : min (rung 52 1074 (mv (mg a) * mv (mg b))) 9218868437227405312 ≤ 9218868437227405312 := Nat.min_le_right _ _
    generalize min (rung 52 1074 (mv (mg a) * mv (mg b))) 9218868437227405312 = q at *
    rw [hm, isN_false]
    cases (ng a ^^ ng b)
    · simp only [Bool.false_eq_true, if_false]; exact ⟨by omega, by rw [mg_of_lt (by omega)]; exact hl⟩
    · simp only [if_true]; exact ⟨by omega, by rw [mg_of_ge (by omega) (by omega)]; omega⟩
  · rw [h] at h'; cases h'
  · rw [h] at h'
    obtain rfl := Option.some.inj h'
    exact ⟨infW_lt s, isN_false.2 (by rw [infW_mg]; omega)⟩
theorem mg_canon (s : Nat) (n : isN s = false) : mg (canonB s) = mg s := by
  unfold canonB
  rw [n, if_neg (by decide)]
  by_cases c : mg s = 0
  · rw [if_pos c, c]; rfl
  · rw [if_neg c]

end Go.Proofs.YtgeipbegpflkhaaGreatDoor

/-
  The small helpers of the statements on twin, and that their own test of life answers true: walks over the program.
-/
namespace Go.Proofs.YtgeipbegpflkhaaGreatDoor
open Go.RowKit Tf
attribute [local go_sem] run_bits run_from raw_feq raw_fne raw_flt raw_fgt run_neg

set_option maxHeartbeats 400000 in
theorem rawBits_any (x : Nat) (w : World) :
    Calls Tryz.prog 11 #[.float .f64 x] w fun e w' => e = .returned (.int .u64 (x : Nat)) ∧ w' = w := by
  go_enter Tryz.func11, Tryz.ntmps11
  go_wp2
  go_ret
  exact ⟨rfl, rfl⟩
theorem aw1 : addB 4591870180066957722 4596373779694328218 = 4599075939470750516 := by decide +kernel
theorem aw2 : sumE 4591870180066957722 4596373779694328218 = 13582856476149415936 := by decide +kernel
theorem aw3 : splitH 4728779608772575232 = 4728779608739020800 := by decide +kernel
theorem aw4 : splitL 4728779608772575232 = 4607182418800017408 := by decide +kernel
theorem aw5 : mulB 4591870180066957722 4613937818241073152 = 4599075939470750516 := by decide +kernel
theorem aw6 : prodE 4591870180066957722 4613937818241073152 = 13582856476149415936 := by decide +kernel
theorem rawSame_refl (x : Nat) (w : World) :
    Calls Tryz.prog 8 #[.float .f64 x, .float .f64 x] w fun e w' => e = .returned (.bool true) ∧ w' = w := by
  have h := rawSame_any x x w
  have hs : sameB x x = true := by unfold sameB; simp
  rwa [hs] at h
theorem canon_canon (x : Nat) (_hx : x < 18446744073709551616) : canonB (canonB x) = canonB x := by
  unfold canonB
  by_cases c : isN x = true
  · rw [if_pos c]; decide
  · rw [if_neg c]
    by_cases c2 : mg x = 0
    · rw [if_pos c2]; decide
    · rw [if_neg c2, if_neg c, if_neg c2]
theorem canon_rnf (v : Int) : canonB (rn false v) = rn false v := canon_rn false v
theorem canon_addB (a b : Nat) (ha : a < 18446744073709551616) (hb : b < 18446744073709551616) : canonB (addB a b) = addB a b := by
  rcases add_cases a b ha hb with ⟨h1, h2⟩ | h | ⟨s, h⟩
  · rw [addB_fin a b ha hb h1 h2, canon_rnf]
  · rw [addB_none h]; decide
  · rw [addB_some h, infW_canon, infW_canon]
theorem canon_zero : canonB 0 = 0 := by decide
theorem canon_sumE (a b : Nat) : canonB (sumE a b) = sumE a b := by
  unfold sumE; split
  · exact canon_rnf _
  · exact canon_zero
theorem canon_mulB (a b : Nat) (ha : a < 18446744073709551616) (hb : b < 18446744073709551616) : canonB (mulB a b) = mulB a b := by
  cases h : Ieee.double.mul a b with
  | none => rw [mulB_none h]; decide
  | some p => rw [mulB_some h, canon_canon p (mul_ok a b p ha hb h).1]
theorem canon_prodE (a b : Nat) : canonB (prodE a b) = prodE a b := by
  unfold prodE; split
  · exact canon_rnf _
  · exact canon_zero
theorem mulB_lt (a b : Nat) (ha : a < 18446744073709551616) (hb : b < 18446744073709551616) : mulB a b < 18446744073709551616 := by
  cases h : Ieee.double.mul a b with
  | none => rw [mulB_none h]; decide
  | some p => rw [mulB_some h]; exact canonB_lt (mul_ok a b p ha hb h).1
end Go.Proofs.YtgeipbegpflkhaaGreatDoor

/-
  What the reference's calls of layer 1 return: walks over the program.
-/
namespace Go.Proofs.YtgeipbegpflkhaaGreatDoor
open Go.RowKit Tf
attribute [local go_sem] run_bits run_from raw_feq raw_fne raw_flt raw_fgt run_neg
theorem from_at (n : Int) (r : Nat) (w : World) (h : n.toNat = r) :
    Calls Tryz.prog 102 #[.int .u64 n] w fun e w' => e = .returned (.float .f64 r) ∧ w' = w := by
  subst h; exact from_any n w
set_option maxHeartbeats 1000000 in
set_option maxRecDepth 100000 in
theorem refMag_any (x : Nat) (w : World) :
    Calls Tryz.prog 109 #[.float .f64 x] w fun e w' => e = .returned (.int .u64 (mg x : Nat)) ∧ w' = w := by
  go_enter Tryz.func109, Tryz.ntmps109
  go_wp2_with fail
  refine (rawBits_any x _).mono ?_
  rintro e w' ⟨rfl, rfl⟩
  go_wp2
  go_ret
  exact ⟨ret_int (by unfold mg; omega), rfl⟩

theorem refMag_at (x m : Nat) (w : World) (hm : Hid (mg x = m)) :
    Calls Tryz.prog 109 #[.float .f64 x] w fun e w' => e = .returned (.int .u64 (m : Nat)) ∧ w' = w := by
  rw [← hm.out]; exact refMag_any x w
set_option maxHeartbeats 1000000 in
set_option maxRecDepth 100000 in
theorem refBelow_any (x : Nat) (w : World) :
    Calls Tryz.prog 113 #[.float .f64 x] w fun e w' => e = .returned (.bool (ng x)) ∧ w' = w := by
  go_enter Tryz.func113, Tryz.ntmps113
  go_wp2_with fail
  refine (rawBits_any x _).mono ?_
  rintro e w' ⟨rfl, rfl⟩
  go_wp2
  go_ret
  exact ⟨ret_bool (by unfold ng; exact decide_eq_decide.2 (by omega)), rfl⟩

set_option maxHeartbeats 1000000 in
set_option maxRecDepth 100000 in
theorem refNone_any (x : Nat) (w : World) :
    Calls Tryz.prog 74 #[.float .f64 x] w fun e w' => e = .returned (.bool (isN x)) ∧ w' = w := by
  go_enter Tryz.func74, Tryz.ntmps74
  go_wp2_with fail
  refine (refMag_any x _).mono ?_
  rintro e w' ⟨rfl, rfl⟩
  go_wp2
  go_ret
  exact ⟨ret_bool (by unfold isN; exact decide_eq_decide.2 (by omega)), rfl⟩

set_option maxHeartbeats 1000000 in
set_option maxRecDepth 100000 in
theorem refQuiet_any (w : World) :
    Calls Tryz.prog 75 #[] w fun e w' => e = .returned (.float .f64 quiet) ∧ w' = w := by
  go_enter Tryz.func75, Tryz.ntmps75
  go_wp2_with fail
  refine (from_at 9221120237041090561 9221120237041090561 _ (by decide)).mono ?_
  rintro e w' ⟨rfl, rfl⟩
  go_wp2
  go_ret
  exact ⟨rfl, rfl⟩

set_option maxHeartbeats 1000000 in
set_option maxRecDepth 100000 in
theorem refCanon_any (x : Nat) (w : World) :
    Calls Tryz.prog 72 #[.float .f64 x] w fun e w' => e = .returned (.float .f64 (canonB x)) ∧ w' = w := by
  obtain ⟨m, hm⟩ : ∃ m, mg x = m := ⟨_, rfl⟩
  obtain ⟨r, hr⟩ : ∃ r, canonB x = r := ⟨_, rfl⟩
  have HM := hid hm
  have HR : Hid (r = if isN x then quiet else if m = 0 then 0 else x) := by show r = _; rw [← hr, ← hm]; rfl
  rw [hr]
  clear hr hm
  cases nN : isN x
  · have h := HR.out
    rw [nN, if_neg (by decide)] at h
    by_cases c : m = 0
    · rw [if_pos c] at h
      subst h
      subst c
      clear HR
      go_enter Tryz.func72, Tryz.ntmps72
      go_wp2_with fail
      refine (refNone_any x _).mono ?_
      rintro e w' ⟨rfl, rfl⟩
      go_wp2_with fail
      refine (refMag_at x _ _ HM).mono ?_
      rintro e w' ⟨rfl, rfl⟩
      go_wp2_with fail
      refine (from_at 0 0 _ (by decide)).mono ?_
      rintro e w' ⟨rfl, rfl⟩
      go_wp2
      go_ret
      exact ⟨rfl, rfl⟩
    · rw [if_neg c] at h
      rw [h]
      have e0 : ((m : Int) == 0) = false := by simp; omega
      clear HR h
      go_enter Tryz.func72, Tryz.ntmps72
      go_wp2_with fail
      refine (refNone_any x _).mono ?_
      rintro e w' ⟨rfl, rfl⟩
      go_wp2_with fail
      refine (refMag_at x _ _ HM).mono ?_
      rintro e w' ⟨rfl, rfl⟩
      go_wp2
      go_ret
      exact ⟨rfl, rfl⟩
  · have h := HR.out
    rw [nN, if_pos rfl] at h
    rw [h]
    clear HR h
    go_enter Tryz.func72, Tryz.ntmps72
    go_wp2_with fail
    refine (refNone_any x _).mono ?_
    rintro e w' ⟨rfl, rfl⟩
    go_wp2_with fail
    refine (refQuiet_any _).mono ?_
    rintro e w' ⟨rfl, rfl⟩
    go_wp2
    go_ret
    exact ⟨rfl, rfl⟩

end Go.Proofs.YtgeipbegpflkhaaGreatDoor
