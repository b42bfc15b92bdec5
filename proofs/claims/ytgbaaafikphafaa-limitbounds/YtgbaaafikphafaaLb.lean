/-
  A quotient of a doubled number, by plain numbers (no program).
-/
import Derived.Test.YtgbaaafikphafaaLa
namespace Go.Proofs.Ytgbaaafikphafaa
open Tf Ieee
def Er17 : Nat := 2030
theorem mv_E17 : mv 9146810843189477376 = 2 ^ (52 + Er17) := mv_two_pow Er17 _ (by decide)
theorem le_E17 {W d : Nat} (hW : W ≤ 2 ^ 57) (hd : d ≤ 2025) : W * 2 ^ d ≤ mv 9146810843189477376 := by
  rw [mv_E17]
  have h1 : 2 ^ d ≤ 2 ^ (Er17 - 5) := Nat.pow_le_pow_right (by omega) (by unfold Er17; omega)
  have h2 := Nat.mul_le_mul hW h1
  have e : 2 ^ 57 * 2 ^ (Er17 - 5) = 2 ^ (52 + Er17) := by rw [← Nat.pow_add]; congr 1
  rw [e] at h2
  exact h2
theorem quo_lo {m n : Nat} (m1 : 4503599627370496 ≤ m) (m2 : m < 9007199254740992) (n1 : 4503599627370496 ≤ n) (n2 : n < 9007199254740992) : 9007199254740992 ≤ m <<< 54 / n ∧ m <<< 54 / n ≤ 36028797018963968 := by
  rw [Nat.shiftLeft_eq]
  constructor
  · rw [Nat.le_div_iff_mul_le (by omega)]
    have := Nat.mul_le_mul_right (2 ^ 54) m1
    omega
  · refine Nat.div_le_of_le_mul ?_
    omega
set_option maxRecDepth 100000 in
theorem div_pos {x l : Nat} (x1 : 4503599627370496 ≤ x) (x2 : x < 9218868437227405312) (l1 : 4503599627370496 ≤ l) (l2 : l < 9218868437227405312) :
    ∃ W, 18014398509481984 ≤ W ∧ W ≤ 2 ^ 57 ∧ W = 2 * ((4503599627370496 + x % 4503599627370496) <<< 54 / (4503599627370496 + l % 4503599627370496)) + ((4503599627370496 + x % 4503599627370496) <<< 54 % (4503599627370496 + l % 4503599627370496) != 0).toNat ∧ double.div x l = some (double.nearest false W (((x / 4503599627370496 - 1 : Nat) : Int) - ((l / 4503599627370496 - 1 : Nat) : Int) - 55)) := by
  have ml : mg l = l := mg_of_lt (by omega)
  have mx : mg x = x := mg_of_lt (by omega)
  have el := read_norm (x := l) (by omega) (by omega)
  rw [ml, sgn_ng (by omega), ng_of_lt (by omega)] at el
  have ex := read_norm (x := x) (by omega) (by omega)
  rw [mx, sgn_ng (by omega), ng_of_lt (by omega)] at ex
  have hn : 4503599627370496 + l % 4503599627370496 ≠ 0 := by omega
  have lx : (4503599627370496 + x % 4503599627370496).log2 = 52 := log_m _ (Nat.mod_lt _ (by omega))
  have ll : (4503599627370496 + l % 4503599627370496).log2 = 52 := log_m _ (Nat.mod_lt _ (by omega))
  have hq := quo_lo (m := 4503599627370496 + x % 4503599627370496) (n := 4503599627370496 + l % 4503599627370496) (by omega) (by omega) (by omega) (by omega)
  refine ⟨_, ?_, ?_, rfl, ?_⟩
  · omega
  · have : ((4503599627370496 + x % 4503599627370496) <<< 54 % (4503599627370496 + l % 4503599627370496) != 0).toNat ≤ 1 := by cases ((4503599627370496 + x % 4503599627370496) <<< 54 % (4503599627370496 + l % 4503599627370496) != 0) <;> simp
    omega
  · show ((double.read x).quotient 54 (double.read l)).map double.write = _
    rw [ex, el]
    unfold Datum.quotient
    dsimp only
    rw [if_neg hn, lx, ll]
    simp only [Bool.xor_false]
    show some (double.nearest false _ _) = some (double.nearest false _ _)
    congr 2
    omega
theorem rung_E17 {V : Nat} (h : V ≤ mv 9146810843189477376) : rung 52 0 V ≤ 9146810843189477376 := by
  refine rung_le (by omega) ?_
  rw [Nat.pow_zero, Nat.mul_one]
  exact h
set_option maxRecDepth 100000 in
/-- a doubled number over the same: the quotient doubled -/
theorem dvB_dbn {x l : Nat} (x1 : 4503599627370496 ≤ x) (x2 : x + 4503599627370496 < 9218868437227405312) (l1 : 4503599627370496 ≤ l) (l2 : l < 9218868437227405312)
    (h1 : l / 4503599627370496 ≤ x / 4503599627370496 + 1010) (h2 : x / 4503599627370496 ≤ l / 4503599627370496 + 1006) :
    dvB (db x) l = db (dvB x l) ∧ 4503599627370496 ≤ dvB x l ∧ dvB x l ≤ 9146810843189477376 := by
  have ex : db x = x + 4503599627370496 := by unfold db; rw [mg_of_lt (by omega), if_neg (by omega)]
  obtain ⟨W, w1, w2, w3, e1⟩ := div_pos x1 (by omega) l1 l2
  obtain ⟨W', _, _, w3', e2⟩ := div_pos (x := x + 4503599627370496) (by omega) x2 l1 l2
  have hWW : W' = W := by rw [w3', w3, show (x + 4503599627370496) % 4503599627370496 = x % 4503599627370496 by omega]
  rw [hWW, show (x + 4503599627370496) / 4503599627370496 - 1 = (x / 4503599627370496 - 1) + 1 by omega] at e2
  clear w3 w3' hWW
  have hlp := d_lp
  have ha : 1 ≤ x / 4503599627370496 ∧ 1 ≤ l / 4503599627370496 := by omega
  generalize x / 4503599627370496 = a at *
  generalize l / 4503599627370496 = c at *
  obtain ⟨d, hd⟩ : ∃ d : Nat, (((a - 1 : Nat) : Int) - ((c - 1 : Nat) : Int) - 55) = double.leastPlace + (d : Int) := ⟨((((a - 1 : Nat) : Int) - ((c - 1 : Nat) : Int) - 55) - double.leastPlace).toNat, by omega⟩
  have hd2 : (((a - 1 + 1 : Nat) : Int) - ((c - 1 : Nat) : Int) - 55) = double.leastPlace + ((d + 1 : Nat) : Int) := by omega
  have hdle : d ≤ 2025 := by omega
  rw [nearest_up double false W d _ hd, d_word, d_inf] at e1
  rw [nearest_up double false W (d + 1) _ hd2, d_word, d_inf, Nat.pow_succ, ← Nat.mul_assoc] at e2
  have h0 : W * 2 ^ d ≠ 0 := Nat.mul_ne_zero (by omega) (by have := Nat.two_pow_pos d; omega)
  have hlog : 52 + 0 ≤ (W * 2 ^ d).log2 := by
    refine (Nat.le_log2 h0).2 ?_
    have e : (2 : Nat) ^ (52 + 0) = 4503599627370496 := by decide
    rw [e]
    have := Nat.two_pow_pos d
    exact Nat.le_trans (by omega) (Nat.le_mul_of_pos_right W this)
  have hb := rung_big hlog h0
  have hr := rung_dbl h0 hlog
  have hle := rung_E17 (le_E17 w2 hdle)
  have hfb : double.fractionBits = 52 := rfl
  rw [hfb] at e1 e2
  rw [hr] at e2
  generalize rung 52 0 (W * 2 ^ d) = r at *
  simp only [Bool.false_eq_true, if_false] at e1 e2
  rw [Nat.min_eq_left (by omega)] at e1 e2
  have can : ∀ q, 4503599627370496 ≤ q → q < 9218868437227405312 → canonB q = q := by
    intro q q1 q2
    have mq : mg q = q := mg_of_lt (by omega)
    unfold canonB
    rw [mq, if_neg (by unfold isN; rw [mq]; simp; omega), if_neg (by omega)]
  rw [ex, dvB_some e1, dvB_some e2, can r hb (by omega), can (r + 4503599627370496) (by omega) (by omega)]
  refine ⟨?_, hb, hle⟩
  unfold db
  rw [mg_of_lt (by omega), if_neg (by omega)]
end Go.Proofs.Ytgbaaafikphafaa
