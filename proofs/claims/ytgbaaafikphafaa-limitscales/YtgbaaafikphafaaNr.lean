/-
  Roots and quotients of doubled numbers, by plain numbers (no program).
-/
import Derived.Test.YtgbaaafikphafaaNq
namespace Go.Proofs.Ytgbaaafikphafaa
open Tf Ieee
def sgn (x : Nat) : Bool := x / 9223372036854775808 % 2 == 1
theorem read_norm {x : Nat} (h1 : 4503599627370496 ≤ mg x) (h2 : mg x < 9218868437227405312) :
    double.read x = .number (sgn x) (4503599627370496 + mg x % 4503599627370496) (double.leastPlace + ((mg x / 4503599627370496 - 1 : Nat) : Int)) := by
  unfold Format.read
  simp only [d_sw, d_bin, d_inf]
  have hmg : x % 9223372036854775808 = mg x := rfl
  rw [hmg, if_neg (by omega), if_pos h2]
  rfl
theorem read_zero {x : Nat} (h : mg x = 0) : double.read x = .number (sgn x) 0 double.leastPlace := by
  unfold Format.read
  simp only [d_sw, d_bin, d_inf]
  have hmg : x % 9223372036854775808 = mg x := rfl
  rw [hmg, if_pos (by omega), h]
  rfl
theorem sgn_ng {x : Nat} (hx : x < 18446744073709551616) : sgn x = ng x := by
  unfold sgn ng
  by_cases c : 9223372036854775808 ≤ x
  · rw [show x / 9223372036854775808 = 1 by omega, decide_eq_true c]; rfl
  · rw [show x / 9223372036854775808 = 0 by omega, decide_eq_false c]; rfl
/-- the whole root -/
theorem root_bound (n : Nat) : ∀ t r, r * r ≤ n → n < (r + 2 ^ t) * (r + 2 ^ t) → Datum.rootFrom n t r * Datum.rootFrom n t r ≤ n ∧ n < (Datum.rootFrom n t r + 1) * (Datum.rootFrom n t r + 1) := by
  intro t
  induction t with
  | zero => intro r h1 h2; exact ⟨h1, h2⟩
  | succ t ih =>
    intro r h1 h2
    unfold Datum.rootFrom
    have e : 1 <<< t = 2 ^ t := by rw [Nat.shiftLeft_eq, Nat.one_mul]
    simp only [e]
    by_cases c : (r + 2 ^ t) * (r + 2 ^ t) ≤ n
    · rw [if_pos c]
      refine ih _ c ?_
      rw [show r + 2 ^ t + 2 ^ t = r + 2 ^ (t + 1) by rw [Nat.pow_succ]; omega]
      exact h2
    · rw [if_neg c]
      exact ih _ h1 (by omega)
def isq (n : Nat) : Nat := Datum.rootFrom n (n.log2 / 2 + 1) 0
theorem isq_spec (n : Nat) : isq n * isq n ≤ n ∧ n < (isq n + 1) * (isq n + 1) := by
  refine root_bound n _ 0 (by omega) ?_
  rw [Nat.zero_add, ← Nat.pow_add]
  by_cases h : n = 0
  · rw [h]; exact Nat.two_pow_pos _
  · exact Nat.lt_of_lt_of_le Nat.lt_log2_self (Nat.pow_le_pow_right (by omega) (by omega))
def rtM (m : Nat) (i : Int) : Nat := (108 - m.log2) + ((i - ((108 - m.log2 : Nat) : Int)) % 2).toNat
def rtW (m s : Nat) : Nat := 2 * isq (m <<< s) + (isq (m <<< s) * isq (m <<< s) != m <<< s).toNat
theorem root_eq {m : Nat} (i : Int) (h : m ≠ 0) : Datum.root 54 (.number false m i) = some (.number false (rtW m (rtM m i)) ((i - (rtM m i : Nat)) / 2 - 1)) := by
  unfold Datum.root
  dsimp only
  rw [if_neg h]
  rfl
theorem sqrt_eq {T : Nat} (hT : T < 18446744073709551616) (hn : ng T = false) (h1 : 4503599627370496 ≤ mg T) (h2 : mg T < 9218868437227405312) :
    double.sqrt T = some (double.nearest false (rtW (4503599627370496 + mg T % 4503599627370496) (rtM (4503599627370496 + mg T % 4503599627370496) (double.leastPlace + ((mg T / 4503599627370496 - 1 : Nat) : Int))))
      ((double.leastPlace + ((mg T / 4503599627370496 - 1 : Nat) : Int) - (rtM (4503599627370496 + mg T % 4503599627370496) (double.leastPlace + ((mg T / 4503599627370496 - 1 : Nat) : Int)) : Nat)) / 2 - 1)) := by
  show ((double.read T).root 54).map double.write = _
  rw [read_norm h1 h2, sgn_ng hT, hn, root_eq _ (by omega)]
  rfl
theorem log_m (q : Nat) (h : q < 4503599627370496) : (4503599627370496 + q).log2 = 52 := by
  refine log2_of (k := 52) ?_ ?_
  · have e : (2 : Nat) ^ 52 = 4503599627370496 := by decide
    omega
  · have e : (2 : Nat) ^ (52 + 1) = 9007199254740992 := by decide
    omega
theorem rtM_val {m : Nat} (i : Int) (h : m.log2 = 52) : 56 ≤ rtM m i ∧ rtM m i ≤ 57 ∧ rtM m (i + 2) = rtM m i ∧ (i - (rtM m i : Nat)) % 2 = 0 := by
  unfold rtM
  rw [h]
  omega
theorem rtW_val {m s : Nat} (h1 : 4503599627370496 ≤ m) (h2 : m < 9007199254740992) (hs : 56 ≤ s ∧ s ≤ 57) : 18014398509481984 ≤ rtW m s ∧ rtW m s < 144115188075855872 := by
  obtain ⟨a, b⟩ := isq_spec (m <<< s)
  have e : m <<< s = m * 2 ^ s := Nat.shiftLeft_eq ..
  have hc : (isq (m <<< s) * isq (m <<< s) != m <<< s).toNat ≤ 1 := by cases (isq (m <<< s) * isq (m <<< s) != m <<< s) <;> decide
  unfold rtW
  generalize (isq (m <<< s) * isq (m <<< s) != m <<< s).toNat = c at *
  generalize isq (m <<< s) = q at *
  rw [e] at a b
  have lo : 4503599627370496 * 2 ^ 56 ≤ m * 2 ^ s := Nat.mul_le_mul h1 (Nat.pow_le_pow_right (by omega) hs.1)
  have hi : m * 2 ^ s ≤ 9007199254740992 * 2 ^ 57 := Nat.mul_le_mul (by omega) (Nat.pow_le_pow_right (by omega) hs.2)
  generalize m * 2 ^ s = n at *
  have k1 : 9007199254740992 ≤ q := by
    rcases Nat.lt_or_ge q 9007199254740992 with k | k
    · have : (q + 1) * (q + 1) ≤ 9007199254740992 * 9007199254740992 := Nat.mul_le_mul (by omega) (by omega)
      omega
    · exact k
  have k2 : q < 72057594037927935 := by
    rcases Nat.lt_or_ge q 72057594037927935 with k | k
    · exact k
    · have : 72057594037927935 * 72057594037927935 ≤ q * q := Nat.mul_le_mul k k
      omega
  omega
def Er16 : Nat := 1548
theorem mv_E16 : mv 6976075822796898304 = 2 ^ (52 + Er16) := mv_two_pow Er16 _ (by decide)
theorem le_E16 {W d : Nat} (hW : W ≤ 2 ^ 57) (hd : d ≤ 1531) : W * 2 ^ d ≤ mv 6976075822796898304 := by
  have hE : 57 + d ≤ 52 + Er16 := by
    have : Er16 = 1548 := rfl
    omega
  rw [mv_E16]
  refine Nat.le_trans (Nat.mul_le_mul_right _ hW) ?_
  rw [← Nat.pow_add]
  exact Nat.pow_le_pow_right (by omega) hE
theorem rung_E16 {V : Nat} (h : V ≤ mv 6976075822796898304) : rung 52 0 V ≤ 6976075822796898304 := by
  refine rung_le (by omega) ?_
  rw [Nat.pow_zero, Nat.mul_one]
  exact h
/-- the root of a number four times as great -/
theorem sqrt_quad {T : Nat} (hT : T < 18446744073709551616) (hn : ng T = false) (h1 : 4503599627370496 ≤ mg T) (h2 : mg T + 9007199254740992 < 9218868437227405312) :
    ∃ r, 4503599627370496 ≤ r ∧ r ≤ 6976075822796898304 ∧ double.sqrt T = some r ∧ double.sqrt (T + 9007199254740992) = some (r + 4503599627370496) := by
  have hTm : T = mg T := by rw [mg_of_lt (lt_of_ng hn)]
  have hT2 : mg (T + 9007199254740992) = mg T + 9007199254740992 := by unfold mg; unfold mg at h2; have := lt_of_ng hn; omega
  have hn2 : ng (T + 9007199254740992) = false := ng_of_lt (by omega)
  have e1 := sqrt_eq hT hn h1 (by omega)
  have e2 := sqrt_eq (T := T + 9007199254740992) (by omega) hn2 (by omega) (by omega)
  rw [hT2, show (mg T + 9007199254740992) % 4503599627370496 = mg T % 4503599627370496 by omega, show (mg T + 9007199254740992) / 4503599627370496 - 1 = (mg T / 4503599627370496 - 1) + 2 by omega] at e2
  have hq : mg T % 4503599627370496 < 4503599627370496 := Nat.mod_lt _ (by omega)
  generalize hm : 4503599627370496 + mg T % 4503599627370496 = m at e1 e2
  have hl : m.log2 = 52 := by rw [← hm]; exact log_m _ hq
  have hk : mg T / 4503599627370496 - 1 ≤ 2045 := by omega
  generalize mg T / 4503599627370496 - 1 = k at e1 e2 hk
  rw [show double.leastPlace + ((k + 2 : Nat) : Int) = double.leastPlace + (k : Int) + 2 by omega] at e2
  have hlp := d_lp
  generalize hi : double.leastPlace + (k : Int) = i at e1 e2
  obtain ⟨m1, m2, m3, m4⟩ := rtM_val i hl
  rw [m3] at e2
  generalize rtM m i = s at *
  obtain ⟨w1, w2⟩ := rtW_val (m := m) (s := s) (by omega) (by omega) ⟨m1, m2⟩
  generalize rtW m s = W at *
  obtain ⟨d, hd⟩ : ∃ d : Nat, (i - (s : Int)) / 2 - 1 = double.leastPlace + (d : Int) := ⟨((i - (s : Int)) / 2 - 1 - double.leastPlace).toNat, by omega⟩
  have hd2 : (i + 2 - (s : Int)) / 2 - 1 = double.leastPlace + ((d + 1 : Nat) : Int) := by omega
  have hdle : d ≤ 1531 := by omega
  rw [nearest_up double false W d _ hd, d_word, d_inf] at e1
  rw [nearest_up double false W (d + 1) _ hd2, d_word, d_inf, Nat.pow_succ, ← Nat.mul_assoc] at e2
  have h0 : W * 2 ^ d ≠ 0 := Nat.mul_ne_zero (by omega) (by have := Nat.two_pow_pos d; omega)
  have hlog : 52 + 0 ≤ (W * 2 ^ d).log2 := by
    refine (Nat.le_log2 h0).2 ?_
    have e : (2 : Nat) ^ (52 + 0) = 4503599627370496 := by decide
    rw [e]
    have := Nat.two_pow_pos d
    exact Nat.le_trans (by omega) (Nat.le_mul_of_pos_right W this)
  have hb := rung_big hlog h0
  have hr := rung_dbl h0 hlog
  have hW57 : W ≤ 2 ^ 57 := by
    have e : (2 : Nat) ^ 57 = 144115188075855872 := by decide
    omega
  have hle := rung_E16 (le_E16 hW57 hdle)
  have hfb : double.fractionBits = 52 := rfl
  rw [hfb] at e1 e2
  rw [hr] at e2
  generalize rung 52 0 (W * 2 ^ d) = r at *
  simp only [Bool.false_eq_true, if_false] at e1 e2
  rw [Nat.min_eq_left (by omega)] at e1 e2
  exact ⟨r, hb, hle, e1, e2⟩
/-- the root of what is doubled twice -/
theorem rtB_db {T : Nat} (hT : T < 18446744073709551616) (hn : ng T = false) (h : mg T = 0 ∨ (4503599627370496 ≤ mg T ∧ mg T + 9007199254740992 < 9218868437227405312)) :
    rtB (db (db T)) = db (rtB T) ∧ Md (rtB T) := by
  have hTm : T = mg T := by rw [mg_of_lt (lt_of_ng hn)]
  rcases h with h | ⟨h1, h2⟩
  · have : T = 0 := by omega
    subst this
    have e : rtB 0 = 0 := by decide +kernel
    rw [show db (db 0) = 0 by decide, e]
    exact ⟨by decide, .inl (by decide)⟩
  · obtain ⟨r, r1, r2, e1, e2⟩ := sqrt_quad hT hn h1 h2
    have ed : db (db T) = T + 9007199254740992 := by
      have : db T = T + 4503599627370496 := by unfold db; rw [if_neg (by omega)]
      have h3 : mg (T + 4503599627370496) ≠ 0 := by unfold mg; have := lt_of_ng hn; omega
      have h4 : db (T + 4503599627370496) = T + 4503599627370496 + 4503599627370496 := by unfold db; rw [if_neg h3]
      have h5 : T + 4503599627370496 + 4503599627370496 = T + 9007199254740992 := by omega
      exact (congrArg db this).trans (h4.trans h5)
    have hm : mg r = r := mg_of_lt (by omega)
    have hm2 : mg (r + 4503599627370496) = r + 4503599627370496 := mg_of_lt (by omega)
    have c1 : canonB r = r := by unfold canonB; rw [if_neg (by rw [isN_true]; omega), if_neg (by omega)]
    have c2 : canonB (r + 4503599627370496) = r + 4503599627370496 := by unfold canonB; rw [if_neg (by rw [isN_true]; omega), if_neg (by omega)]
    rw [ed, rtB_some e1, rtB_some e2, c1, c2]
    refine ⟨?_, .inr ⟨by omega, by omega⟩⟩
    unfold db
    rw [if_neg (by omega)]
/-- the quotient of two doubled numbers -/
theorem dvB_db {x l : Nat} (hx : x < 18446744073709551616) (hl : l < 18446744073709551616) (mx : Md x) (ml : Md l) (l0 : mg l ≠ 0) : dvB (db x) (db l) = dvB x l := by
  have nl := ml.resolve_left l0
  have el := read_norm (x := l) nl.1 (by omega)
  have edl := read_norm (x := db l) (by rw [db_mg ml.w, if_neg l0]; omega) ml.dfin
  rw [db_mg ml.w, if_neg l0, sgn_ng (db_lt ml.w hl), db_ng ml.w hl, ← sgn_ng hl, show (mg l + 4503599627370496) % 4503599627370496 = mg l % 4503599627370496 by omega, show (mg l + 4503599627370496) / 4503599627370496 - 1 = (mg l / 4503599627370496 - 1) + 1 by omega] at edl
  have hdv : double.div (db x) (db l) = double.div x l := by
    show ((double.read (db x)).quotient 54 (double.read (db l))).map double.write = ((double.read x).quotient 54 (double.read l)).map double.write
    rw [edl, el]
    have hn : 4503599627370496 + mg l % 4503599627370496 ≠ 0 := by omega
    generalize 4503599627370496 + mg l % 4503599627370496 = n at *
    generalize mg l / 4503599627370496 - 1 = b
    rcases mx with h | h
    · have hd : db x = x := by unfold db; rw [if_pos h]
      rw [hd, read_zero h]
      unfold Datum.quotient
      dsimp only
      rw [if_neg hn, if_neg hn]
      simp [Format.write, Format.nearest]
    · have mx' : Md x := .inr h
      have ex := read_norm (x := x) h.1 (by omega)
      have edx := read_norm (x := db x) (by rw [db_mg mx'.w, if_neg (by omega)]; omega) mx'.dfin
      rw [db_mg mx'.w, if_neg (show ¬ mg x = 0 by omega), sgn_ng (db_lt mx'.w hx), db_ng mx'.w hx, ← sgn_ng hx, show (mg x + 4503599627370496) % 4503599627370496 = mg x % 4503599627370496 by omega, show (mg x + 4503599627370496) / 4503599627370496 - 1 = (mg x / 4503599627370496 - 1) + 1 by omega] at edx
      rw [edx, ex]
      unfold Datum.quotient
      dsimp only
      rw [if_neg hn, if_neg hn]
      generalize double.leastPlace = lp
      congr 4
      omega
  unfold dvB
  rw [hdv]
end Go.Proofs.Ytgbaaafikphafaa
