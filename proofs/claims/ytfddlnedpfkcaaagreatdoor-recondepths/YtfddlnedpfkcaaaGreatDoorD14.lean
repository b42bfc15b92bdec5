/-
  Some of the texts of this proof, one behind the other.
-/
import Derived.StillTail
import Derived.Test.YtfddlnedpfkcaaaGreatDoorD13
namespace Go.Proofs.YtfddlnedpfkcaaaGreatDoor
open Tf Ieee
theorem mv_2 : mv 4611686018427387904 = 2 * 2 ^ K := by rw [← mv_ONE]; exact mv_dbl (r := 4607182418800017408) (by omega)
/-- a product of two floats that aren't below nothing -/
theorem ml_word {a b : Nat} (ha : a < 9218868437227405312) (hb : b < 9218868437227405312) : mlB a b = min (rung 52 1074 (mv a * mv b)) 9218868437227405312 := by
  have ma : mg a = a := mg_of_lt (by omega)
  have mb : mg b = b := mg_of_lt (by omega)
  rw [mul_w (by omega) (by omega) (by omega) (by omega), ng_of_lt (by omega), ng_of_lt (by omega), ma, mb]
  simp only [Bool.xor_self, Bool.false_eq_true, if_false]
theorem mv_sm {r : Nat} (h : r < 9007199254740992) : mv r = r := by
  by_cases c : r < 4503599627370496
  · have := mv_zero
    unfold mv mag
    rw [if_pos c]
  · rw [mv_parts (by omega), show r % 4503599627370496 = r - 4503599627370496 by omega, show r / 4503599627370496 - 1 = 0 by omega, Nat.pow_zero, Nat.mul_one]
    omega
/-- doubling: a whole number of units that is a float's, or too great -/
theorem dbl_ex (a : Nat) : ∃ r, mv r = 2 * mv a ∧ a ≤ r ∧ (a ≠ 0 → a < r) := by
  by_cases h : 4503599627370496 ≤ a
  · exact ⟨a + 4503599627370496, mv_dbl h, by omega, fun _ => by omega⟩
  · refine ⟨2 * a, ?_, by omega, fun _ => by omega⟩
    rw [mv_sm (r := 2 * a) (by omega), mv_sm (r := a) (by omega)]
theorem d2_word {a : Nat} (ha : a < 9218868437227405312) : mlB 4611686018427387904 a = min (rung 52 0 (2 * mv a)) 9218868437227405312 := by
  rw [ml_word (by omega) ha, mv_2, show 2 * 2 ^ K * mv a = (2 * mv a) * 2 ^ K by rw [Nat.mul_right_comm]]
  have h := rung_scale 52 0 K (2 * mv a)
  rw [Nat.zero_add] at h
  exact congrArg (min · 9218868437227405312) h
/-- 2 * a of a that isn't below nothing: exact, or the infinity -/
theorem d2_facts {a : Nat} (ha : a ≤ 9218868437227405312) : mlB 4611686018427387904 a ≤ 9218868437227405312 ∧ a ≤ mlB 4611686018427387904 a ∧ (mlB 4611686018427387904 a < 9218868437227405312 → mv (mlB 4611686018427387904 a) = 2 * mv a) := by
  by_cases h : a < 9218868437227405312
  · obtain ⟨r, h1, h2, -⟩ := dbl_ex a
    rw [d2_word h, ← h1, rung_mv]
    refine ⟨Nat.min_le_right _ _, by omega, fun k => ?_⟩
    rw [Nat.min_eq_left (by omega), h1]
  · obtain rfl : a = 9218868437227405312 := by omega
    have e : mlB 4611686018427387904 9218868437227405312 = 9218868437227405312 := by decide +kernel
    rw [e]
    exact ⟨Nat.le_refl _, Nat.le_refl _, fun k => by omega⟩
theorem d2_mono {a b : Nat} (h : a ≤ b) (hb : b ≤ 9218868437227405312) : mlB 4611686018427387904 a ≤ mlB 4611686018427387904 b := by
  by_cases k : b < 9218868437227405312
  · rw [d2_word (by omega), d2_word k]
    have := rung_mono (p := 52) (d := 0) (V := 2 * mv a) (V' := 2 * mv b) (by omega) (Nat.mul_le_mul_left 2 (mv_le.2 h))
    omega
  · obtain rfl : b = 9218868437227405312 := by omega
    have e : mlB 4611686018427387904 9218868437227405312 = 9218868437227405312 := by decide +kernel
    rw [e]
    exact (d2_facts (by omega)).1
/-- Superbee above nothing -/
def sbee (a b : Nat) : Nat := max (min (mlB 4611686018427387904 a) b) (min a (mlB 4611686018427387904 b))
theorem sbee_facts {a b : Nat} (ha : a ≤ 9218868437227405312) (hb : b ≤ 9218868437227405312) : min a b ≤ sbee a b ∧ sbee a b ≤ max a b ∧ sbee a b ≤ mlB 4611686018427387904 (min a b) := by
  have fa := d2_facts ha
  have fb := d2_facts hb
  have mono : ∀ x y, x ≤ y → y ≤ 9218868437227405312 → mlB 4611686018427387904 x ≤ mlB 4611686018427387904 y := fun x y h k => d2_mono h k
  unfold sbee
  rcases Nat.le_total a b with h | h
  · rw [Nat.min_eq_left h]
    omega
  · rw [Nat.min_eq_right h]
    omega
end Go.Proofs.YtfddlnedpfkcaaaGreatDoor

namespace Go.Proofs.YtfddlnedpfkcaaaGreatDoor
open Tf Ieee
def Er17 : Nat := 2030
theorem mv_E17 : mv 9146810843189477376 = 2 ^ (52 + Er17) := mv_two_pow Er17 _ (by decide)
theorem le_E17 {W d : Nat} (hW : W ≤ 2 ^ 57) (hd : d ≤ 2025) : W * 2 ^ d ≤ mv 9146810843189477376 := by
  rw [mv_E17]
  have h1 : 2 ^ d ≤ 2 ^ (Er17 - 5) := Nat.pow_le_pow_right (by omega) (by unfold Er17; omega)
  have h2 := Nat.mul_le_mul hW h1
  have e : 2 ^ 57 * 2 ^ (Er17 - 5) = 2 ^ (52 + Er17) := by rw [← Nat.pow_add]; congr 1
  rw [e] at h2
  exact h2
theorem quo_lo {m n : Nat} (m1 : 4503599627370496 ≤ m) (m2 : m < 9007199254740992) (n1 : 4503599627370496 ≤ n) (n2 : n < 9007199254740992) : 9007199254740992 ≤ m <<< 54 / n ∧ m <<< 54 / n ≤ 36028797018963968 := by
  rw [Nat.shiftLeft_eq]
  constructor
  · rw [Nat.le_div_iff_mul_le (by omega)]
    have := Nat.mul_le_mul_right (2 ^ 54) m1
    omega
  · refine Nat.div_le_of_le_mul ?_
    omega
set_option maxRecDepth 100000 in
theorem div_pos {x l : Nat} (x1 : 4503599627370496 ≤ x) (x2 : x < 9218868437227405312) (l1 : 4503599627370496 ≤ l) (l2 : l < 9218868437227405312) :
    ∃ W, 18014398509481984 ≤ W ∧ W ≤ 2 ^ 57 ∧ W = 2 * ((4503599627370496 + x % 4503599627370496) <<< 54 / (4503599627370496 + l % 4503599627370496)) + ((4503599627370496 + x % 4503599627370496) <<< 54 % (4503599627370496 + l % 4503599627370496) != 0).toNat ∧ double.div x l = some (double.nearest false W (((x / 4503599627370496 - 1 : Nat) : Int) - ((l / 4503599627370496 - 1 : Nat) : Int) - 55)) := by
  have ml : mg l = l := mg_of_lt (by omega)
  have mx : mg x = x := mg_of_lt (by omega)
  have el := read_norm (x := l) (by omega) (by omega)
  rw [ml, sgn_ng (by omega), ng_of_lt (by omega)] at el
  have ex := read_norm (x := x) (by omega) (by omega)
  rw [mx, sgn_ng (by omega), ng_of_lt (by omega)] at ex
  have hn : 4503599627370496 + l % 4503599627370496 ≠ 0 := by omega
  have lx : (4503599627370496 + x % 4503599627370496).log2 = 52 := log_m _ (Nat.mod_lt _ (by omega))
  have ll : (4503599627370496 + l % 4503599627370496).log2 = 52 := log_m _ (Nat.mod_lt _ (by omega))
  have hq := quo_lo (m := 4503599627370496 + x % 4503599627370496) (n := 4503599627370496 + l % 4503599627370496) (by omega) (by omega) (by omega) (by omega)
  refine ⟨_, ?_, ?_, rfl, ?_⟩
  · omega
  · have : ((4503599627370496 + x % 4503599627370496) <<< 54 % (4503599627370496 + l % 4503599627370496) != 0).toNat ≤ 1 := by cases ((4503599627370496 + x % 4503599627370496) <<< 54 % (4503599627370496 + l % 4503599627370496) != 0) <;> simp
    omega
  · show ((double.read x).quotient 54 (double.read l)).map double.write = _
    rw [ex, el]
    unfold Datum.quotient
    dsimp only
    rw [if_neg hn, lx, ll]
    simp only [Bool.xor_false]
    show some (double.nearest false _ _) = some (double.nearest false _ _)
    congr 2
    omega
theorem rung_E17 {V : Nat} (h : V ≤ mv 9146810843189477376) : rung 52 0 V ≤ 9146810843189477376 := by
  refine rung_le (by omega) ?_
  rw [Nat.pow_zero, Nat.mul_one]
  exact h
end Go.Proofs.YtfddlnedpfkcaaaGreatDoor

namespace Go.Proofs.YtfddlnedpfkcaaaGreatDoor
open Tf Ieee
/-- the whole quotient twice, and one more where that isn't all -/
def stQ (N n : Nat) : Nat := 2 * (N / n) + (N % n != 0).toNat
theorem canon_nn' {q : Nat} (q1 : 4503599627370496 ≤ q) (q2 : q < 9218868437227405312) : canonB q = q := by
  have mq : mg q = q := mg_of_lt (by omega)
  unfold canonB
  rw [mq, if_neg (by unfold isN; rw [mq]; simp; omega), if_neg (by omega)]
set_option maxRecDepth 100000 in
/-- what a quotient of two numbers above nothing is -/
theorem dv_core {x l : Nat} (x1 : 4503599627370496 ≤ x) (x2 : x < 9218868437227405312) (l1 : 4503599627370496 ≤ l) (l2 : l < 9218868437227405312)
    (h1 : l / 4503599627370496 ≤ x / 4503599627370496 + 1010) (h2 : x / 4503599627370496 ≤ l / 4503599627370496 + 1006) :
    ∃ N n d g, 0 < g ∧ 0 < n ∧ 18014398509481984 ≤ stQ N n ∧ dvB x l = rung 52 0 (stQ N n * 2 ^ d) ∧ n * g = mv l ∧ N * 2 ^ (d + 2) * g = 2 * (mv x * 2 ^ K) ∧ 4503599627370496 ≤ dvB x l ∧ dvB x l ≤ 9146810843189477376 := by
  obtain ⟨W, w1, w2, w3, e1⟩ := div_pos x1 x2 l1 l2
  have hq : W = stQ ((4503599627370496 + x % 4503599627370496) * 2 ^ 54) (4503599627370496 + l % 4503599627370496) := by rw [w3]; unfold stQ; rw [Nat.shiftLeft_eq]
  have px := mv_parts x1
  have pl := mv_parts l1
  have hlp := d_lp
  have ha : 1 ≤ x / 4503599627370496 ∧ 1 ≤ l / 4503599627370496 := by omega
  clear w3
  generalize x / 4503599627370496 = a at *
  generalize l / 4503599627370496 = c at *
  obtain ⟨d, hd⟩ : ∃ d : Nat, (((a - 1 : Nat) : Int) - ((c - 1 : Nat) : Int) - 55) = double.leastPlace + (d : Int) := ⟨((((a - 1 : Nat) : Int) - ((c - 1 : Nat) : Int) - 55) - double.leastPlace).toNat, by omega⟩
  have hdle : d ≤ 2025 := by omega
  have hdk : d + 2 + 54 + (c - 1) = (a - 1) + 1 + K := by unfold K; omega
  rw [nearest_up double false W d _ hd, d_word, d_inf] at e1
  have h0 : W * 2 ^ d ≠ 0 := Nat.mul_ne_zero (by omega) (by have := Nat.two_pow_pos d; omega)
  have hlog : 52 + 0 ≤ (W * 2 ^ d).log2 := by
    refine (Nat.le_log2 h0).2 ?_
    have e : (2 : Nat) ^ (52 + 0) = 4503599627370496 := by decide
    rw [e]
    have := Nat.two_pow_pos d
    exact Nat.le_trans (by omega) (Nat.le_mul_of_pos_right W this)
  have hb := rung_big hlog h0
  have hle := rung_E17 (le_E17 w2 hdle)
  have hfb : double.fractionBits = 52 := rfl
  rw [hfb] at e1
  refine ⟨(4503599627370496 + x % 4503599627370496) * 2 ^ 54, 4503599627370496 + l % 4503599627370496, d, 2 ^ (c - 1), Nat.two_pow_pos _, by omega, by omega, ?_, pl.symm, ?_, ?_⟩
  · rw [← hq]
    generalize rung 52 0 (W * 2 ^ d) = r at *
    simp only [Bool.false_eq_true, if_false] at e1
    rw [Nat.min_eq_left (by omega)] at e1
    rw [dvB_some e1]
    exact canon_nn' hb (by omega)
  · rw [px]
    generalize 4503599627370496 + x % 4503599627370496 = m
    rw [show m * 2 ^ 54 * 2 ^ (d + 2) * 2 ^ (c - 1) = m * 2 ^ (d + 2 + 54 + (c - 1)) by rw [Nat.mul_assoc, Nat.mul_assoc, ← Nat.pow_add, ← Nat.pow_add]; congr 2; omega, hdk, Nat.pow_add, Nat.pow_add, Nat.pow_one]
    generalize 2 ^ (a - 1) = u
    generalize 2 ^ K = v
    rw [show u * 2 * v = 2 * (u * v) by rw [Nat.mul_comm u 2, Nat.mul_assoc], ← Nat.mul_assoc m 2, Nat.mul_comm m 2, Nat.mul_assoc, Nat.mul_assoc]
  · generalize rung 52 0 (W * 2 ^ d) = r at *
    simp only [Bool.false_eq_true, if_false] at e1
    rw [Nat.min_eq_left (by omega)] at e1
    rw [dvB_some e1, canon_nn' hb (by omega)]
    exact ⟨hb, hle⟩
end Go.Proofs.YtfddlnedpfkcaaaGreatDoor

namespace Go.Proofs.YtfddlnedpfkcaaaGreatDoor
open Tf Ieee
/-- numbers whose quotient is far from both ends -/
def Qn (x l : Nat) : Prop := (4503599627370496 ≤ x ∧ x < 9218868437227405312) ∧ (4503599627370496 ≤ l ∧ l < 9218868437227405312) ∧ l / 4503599627370496 ≤ x / 4503599627370496 + 1010 ∧ x / 4503599627370496 ≤ l / 4503599627370496 + 1006
theorem dq_in {x l : Nat} (q : Qn x l) : 4503599627370496 ≤ dvB x l ∧ dvB x l ≤ 9146810843189477376 := by
  obtain ⟨⟨x1, x2⟩, ⟨l1, l2⟩, h1, h2⟩ := q
  obtain ⟨N, n, d, g, hg, hn, hW, e, e1, e2, e3⟩ := dv_core x1 x2 l1 l2 h1 h2
  exact e3
end Go.Proofs.YtfddlnedpfkcaaaGreatDoor

namespace Go.Proofs.YtfddlnedpfkcaaaGreatDoor
open Tf Ieee
/-- a whole number as a float -/
def fw (n : Int) : Nat := rn false (n * one)
theorem R_one : R one = 4607182418800017408 := (R_mv 4607182418800017408 (by decide)).1
theorem mv_2_63 : mv 4890909195324358656 = 9223372036854775808 * one := by
  have h := mv_from_one 63 4890909195324358656 (by decide)
  have e : (2 : Nat) ^ 63 = 9223372036854775808 := by decide
  rw [e] at h
  exact h
theorem R_max : R (9223372036854775808 * one) = 4890909195324358656 := by
  have h := (R_mv 4890909195324358656 (by decide)).1
  rw [mv_2_63, Int.natCast_mul] at h
  exact h
theorem rn_nn {v : Int} (h : 0 ≤ v) : rn false v = (R v).toNat := by
  unfold rn R
  generalize min (rung 52 0 v.natAbs) 9218868437227405312 = m
  by_cases z : v = 0
  · rw [if_pos z, if_neg (by decide), if_neg (by omega), Int.toNat_natCast]
  · rw [if_neg z, decide_eq_false (by omega), if_neg (by decide), if_neg (by omega), Int.toNat_natCast]
theorem fw_R {n : Int} (h : 0 ≤ n) : fw n = (R (n * one)).toNat := rn_nn (Int.mul_nonneg h (Int.le_of_lt onep))
theorem fw_in {n : Int} (h1 : 1 ≤ n) (h2 : n ≤ 9223372036854775807) : 4607182418800017408 ≤ fw n ∧ fw n ≤ 4890909195324358656 := by
  have a := R_mono (Int.mul_le_mul_of_nonneg_right h1 (Int.le_of_lt onep))
  have b := R_mono (Int.mul_le_mul_of_nonneg_right (show n ≤ 9223372036854775808 by omega) (Int.le_of_lt onep))
  rw [Int.one_mul, R_one] at a
  rw [R_max] at b
  rw [fw_R (by omega)]
  omega
theorem fw_Qn {n m : Int} (n1 : 1 ≤ n) (n2 : n ≤ 9223372036854775807) (m1 : 1 ≤ m) (m2 : m ≤ 9223372036854775807) : Qn (fw n) (fw m) := by
  have a := fw_in n1 n2
  have b := fw_in m1 m2
  unfold Qn
  omega
/-- the depth -/
def dpB (w a : Int) : Nat := if w < 1 ∨ a < 1 then 0 else dvB (fw w) (fw a)
theorem dp_zero {w a : Int} (h : w < 1 ∨ a < 1) : dpB w a = 0 := by unfold dpB; rw [if_pos h]
theorem dp_of {w a : Int} (h1 : 1 ≤ w) (h2 : 1 ≤ a) : dpB w a = dvB (fw w) (fw a) := by unfold dpB; rw [if_neg (by omega)]
theorem dp_in {w a : Int} (h1 : 1 ≤ w) (h2 : 1 ≤ a) (w2 : w ≤ 9223372036854775807) (a2 : a ≤ 9223372036854775807) : 4503599627370496 ≤ dpB w a ∧ dpB w a ≤ 9146810843189477376 := by
  rw [dp_of h1 h2]
  exact dq_in (fw_Qn h1 w2 h2 a2)
theorem dp_le {w a : Int} (w2 : w ≤ 9223372036854775807) (a2 : a ≤ 9223372036854775807) : dpB w a ≤ 9146810843189477376 := by
  by_cases h : w < 1 ∨ a < 1
  · rw [dp_zero h]; omega
  · exact (dp_in (by omega) (by omega) w2 a2).2
end Go.Proofs.YtfddlnedpfkcaaaGreatDoor

namespace Go.Proofs.YtfddlnedpfkcaaaGreatDoor
open Tf Ieee
theorem sv_nn {d : Nat} (h : d < 9223372036854775808) : sv d = (mv d : Nat) := by
  unfold sv
  rw [ng_of_lt h, mg_of_lt h]; rfl
/-- the level -/
def lvl (b : Nat) (w a : Int) : Nat := addB b (dpB w a)
theorem lvl_lt {b : Nat} {w a : Int} (hb : b < 18446744073709551616) (w2 : w ≤ 9223372036854775807) (a2 : a ≤ 9223372036854775807) : lvl b w a < 18446744073709551616 := addB_lt b _ hb (by have := dp_le w2 a2; omega)
end Go.Proofs.YtfddlnedpfkcaaaGreatDoor

namespace Go.Proofs.YtfddlnedpfkcaaaGreatDoor
open Tf Ieee
/-- Leer above nothing, ahead of the look whether it is finite -/
def leer (a b : Nat) : Nat := dvB (mlB (mlB 4611686018427387904 a) b) (plB a b)
end Go.Proofs.YtfddlnedpfkcaaaGreatDoor

namespace Go.Proofs.YtfddlnedpfkcaaaGreatDoor
open Tf Ieee
theorem near_le (W : Nat) (p : Int) : ∃ r, r ≤ 9218868437227405312 ∧ double.nearest false W p = r := by
  have hlp := d_lp
  by_cases h : double.leastPlace ≤ p
  · obtain ⟨d, hd⟩ : ∃ d : Nat, p = double.leastPlace + (d : Int) := ⟨(p - double.leastPlace).toNat, by omega⟩
    rw [nearest_up double false W d _ hd, d_word, d_inf]
    simp only [Bool.false_eq_true, if_false]
    exact ⟨_, Nat.min_le_right _ _, rfl⟩
  · obtain ⟨d, hd⟩ : ∃ d : Nat, p = double.leastPlace - (d : Int) := ⟨(double.leastPlace - p).toNat, by omega⟩
    rw [hd, nearest_rung double false W d, d_word, d_inf]
    simp only [Bool.false_eq_true, if_false]
    exact ⟨_, Nat.min_le_right _ _, rfl⟩
theorem canon_nn {r : Nat} (h : r ≤ 9218868437227405312) : canonB r = r := by
  have mr : mg r = r := mg_of_lt (by omega)
  unfold canonB
  rw [mr, if_neg (by unfold isN; rw [mr]; simp; omega)]
  split <;> omega
/-- a float that isn't below nothing, as it is read -/
theorem read_nn {x : Nat} (h : x ≤ 9218868437227405312) : double.read x = .infinity false ∨ ∃ m p, double.read x = .number false m p := by
  have mx : mg x = x := mg_of_lt (by omega)
  by_cases c : x = 9218868437227405312
  · subst c
    exact .inl (by decide +kernel)
  · right
    obtain ⟨m, a, h1, -⟩ := read_fin double x (by show mg x < 9218868437227405312; omega)
    have hs : sg double x = false := by
      rw [sg_d x (by omega)]
      exact ng_of_lt (by omega)
    rw [hs] at h1
    exact ⟨m, _, h1⟩
theorem dv_nn {x y : Nat} (hx : x ≤ 9218868437227405312) (hy : y ≤ 9218868437227405312) : dvB x y = quiet ∨ dvB x y ≤ 9218868437227405312 := by
  have key : double.div x y = none ∨ ∃ r, r ≤ 9218868437227405312 ∧ double.div x y = some r := by
    show ((double.read x).quotient 54 (double.read y)).map double.write = none ∨ ∃ r, r ≤ 9218868437227405312 ∧ ((double.read x).quotient 54 (double.read y)).map double.write = some r
    rcases read_nn hx with e1 | ⟨m, p, e1⟩ <;> rcases read_nn hy with e2 | ⟨n, q, e2⟩ <;> rw [e1, e2] <;> unfold Datum.quotient <;> dsimp only
    · exact .inl rfl
    · exact .inr ⟨9218868437227405312, Nat.le_refl _, by decide +kernel⟩
    · obtain ⟨r, r1, r2⟩ := near_le 0 0
      exact .inr ⟨r, r1, by show some (double.nearest false 0 0) = _; rw [r2]⟩
    · by_cases hn : n = 0
      · rw [if_pos hn]
        by_cases hm : m = 0
        · rw [if_pos hm]; exact .inl rfl
        · rw [if_neg hm]; exact .inr ⟨9218868437227405312, Nat.le_refl _, by decide +kernel⟩
      · rw [if_neg hn]
        obtain ⟨r, r1, r2⟩ := near_le (2 * (m <<< (54 + n.log2 - m.log2) / n) + (m <<< (54 + n.log2 - m.log2) % n != 0).toNat) (p - q - ((54 + n.log2 - m.log2 : Nat) : Int) - 1)
        exact .inr ⟨r, r1, by show some (double.nearest false _ _) = _; rw [← r2]⟩
  rcases key with h | ⟨r, r1, h⟩
  · exact .inl (dvB_none h)
  · rw [dvB_some h, canon_nn r1]
    exact .inr r1
theorem ml_nn {x y : Nat} (hx : x ≤ 9218868437227405312) (hy : y ≤ 9218868437227405312) (x0 : 0 < x) (y0 : 0 < y) : mlB x y ≤ 9218868437227405312 := by
  have mx : mg x = x := mg_of_lt (by omega)
  have my : mg y = y := mg_of_lt (by omega)
  have nx : ng x = false := ng_of_lt (by omega)
  have ny : ng y = false := ng_of_lt (by omega)
  have hi : infW (false ^^ false) = 9218868437227405312 := by decide
  by_cases cx : x = 9218868437227405312
  · by_cases cy : y = 9218868437227405312
    · have e := mul_ii x y (by omega) (by omega) (by omega) (by omega)
      rw [mlB_some e, nx, ny, hi]
      exact Nat.le_refl _
    · have e := mul_if x y (by omega) (by omega) (by omega) (by omega)
      rw [if_neg (by omega)] at e
      rw [mlB_some e, nx, ny, hi]
      exact Nat.le_refl _
  · by_cases cy : y = 9218868437227405312
    · have e := mul_fi x y (by omega) (by omega) (by omega) (by omega)
      rw [if_neg (by omega)] at e
      rw [mlB_some e, nx, ny, hi]
      exact Nat.le_refl _
    · rw [ml_word (by omega) (by omega)]
      exact Nat.min_le_right _ _
/-- Leer above nothing: a NaN, or not below nothing -/
theorem leer_nn {a b : Nat} (ha : a ≤ 9218868437227405312) (hb : b ≤ 9218868437227405312) (a0 : 0 < a) (b0 : 0 < b) : leer a b = quiet ∨ leer a b ≤ 9218868437227405312 := by
  have d := d2_facts ha
  exact dv_nn (ml_nn d.1 hb (by omega) b0) (plB_nn ha hb).1
end Go.Proofs.YtfddlnedpfkcaaaGreatDoor

namespace Go.Proofs.YtfddlnedpfkcaaaGreatDoor
open Tf Ieee
theorem fgt_iff {l b : Nat} (hl : l < 18446744073709551616) (hb : b < 18446744073709551616) : fgt l b = true ↔ isN l = false ∧ isN b = false ∧ rk b < rk l := by
  rw [fgt_rk l b hl hb]
  cases isN l <;> cases isN b <;> simp
end Go.Proofs.YtfddlnedpfkcaaaGreatDoor

namespace Go.Proofs.YtfddlnedpfkcaaaGreatDoor
open Tf Ieee
/-- above nothing; below nothing -/
def ps (a : Nat) : Bool := decide (0 < a ∧ a ≤ 9218868437227405312)
def ns (a : Nat) : Bool := decide (9223372036854775808 < a ∧ a ≤ 18442240474082181120)
theorem ps_iff {a : Nat} : ps a = true ↔ 0 < a ∧ a ≤ 9218868437227405312 := by unfold ps; rw [decide_eq_true_iff]
theorem ns_iff {a : Nat} : ns a = true ↔ 9223372036854775808 < a ∧ a ≤ 18442240474082181120 := by unfold ns; rw [decide_eq_true_iff]
theorem ps_no {a : Nat} : ps a = false ↔ a = 0 ∨ 9218868437227405312 < a := by unfold ps; rw [decide_eq_false_iff_not]; omega
theorem ns_no {a : Nat} : ns a = false ↔ a ≤ 9223372036854775808 ∨ 18442240474082181120 < a := by unfold ns; rw [decide_eq_false_iff_not]; omega
theorem rk_zero : rk 0 = 0 := by decide
theorem fgt_ps {a : Nat} (ha : a < 18446744073709551616) : fgt a 0 = ps a := by
  rw [fgt_rk a 0 ha (by decide), rk_zero, show isN 0 = false by decide]
  unfold ps isN rk ng mg
  by_cases c : 9223372036854775808 ≤ a
  · rw [decide_eq_true c, if_pos rfl, decide_eq_false (p := 0 < a ∧ _) (by omega), decide_eq_false (p := (0 : Int) < _) (by omega), Bool.and_false]
  · rw [decide_eq_false c, if_neg (by decide), Nat.mod_eq_of_lt (by omega)]
    by_cases d : 9218868437227405312 < a
    · rw [decide_eq_true d, decide_eq_false (p := 0 < a ∧ _) (by omega)]; rfl
    · rw [decide_eq_false d]
      by_cases e : 0 < a
      · rw [decide_eq_true (p := 0 < a ∧ _) (by omega), decide_eq_true (p := (0 : Int) < _) (by omega)]; rfl
      · rw [decide_eq_false (p := 0 < a ∧ _) (by omega), decide_eq_false (p := (0 : Int) < _) (by omega)]; rfl
theorem flt_ns {a : Nat} (ha : a < 18446744073709551616) : flt a 0 = ns a := by
  rw [flt_rk a 0 ha (by decide), rk_zero, show isN 0 = false by decide]
  unfold ns isN rk ng mg
  by_cases c : 9223372036854775808 ≤ a
  · rw [decide_eq_true c, if_pos rfl]
    have e : a % 9223372036854775808 = a - 9223372036854775808 := by omega
    rw [e]
    by_cases d : 9218868437227405312 < a - 9223372036854775808
    · rw [decide_eq_true d, decide_eq_false (p := 9223372036854775808 < a ∧ _) (by omega)]; rfl
    · rw [decide_eq_false d]
      by_cases e : 9223372036854775808 < a
      · rw [decide_eq_true (p := 9223372036854775808 < a ∧ _) (by omega), decide_eq_true (p := -_ < (0 : Int)) (by omega)]; rfl
      · rw [decide_eq_false (p := 9223372036854775808 < a ∧ _) (by omega), decide_eq_false (p := -_ < (0 : Int)) (by omega)]; rfl
  · rw [decide_eq_false c, if_neg (by decide), decide_eq_false (p := 9223372036854775808 < a ∧ _) (by omega), decide_eq_false (p := _ < (0 : Int)) (by omega), Bool.and_false]
theorem nn_N {a : Nat} (h : a ≤ 9218868437227405312) : isN a = false := isN_false.2 (by rw [mg_of_lt (by omega)]; exact h)
theorem flt_nn {a b : Nat} (ha : a ≤ 9218868437227405312) (hb : b ≤ 9218868437227405312) : flt a b = decide (a < b) := by
  rw [flt_rk a b (by omega) (by omega), rk_pos a (by omega), rk_pos b (by omega), nn_N ha, nn_N hb]
  by_cases c : a < b
  · rw [decide_eq_true c, decide_eq_true (by omega)]; rfl
  · rw [decide_eq_false c, decide_eq_false (by omega)]; rfl
theorem fgt_nn {a b : Nat} (ha : a ≤ 9218868437227405312) (hb : b ≤ 9218868437227405312) : fgt a b = decide (b < a) := by
  rw [fgt_rk a b (by omega) (by omega), rk_pos a (by omega), rk_pos b (by omega), nn_N ha, nn_N hb]
  by_cases c : b < a
  · rw [decide_eq_true c, decide_eq_true (by omega)]; rfl
  · rw [decide_eq_false c, decide_eq_false (by omega)]; rfl
theorem feq_nn {a b : Nat} (ha : a ≤ 9218868437227405312) (hb : b ≤ 9218868437227405312) : feq a b = decide (a = b) := by
  rw [feq_rk a b (by omega) (by omega), rk_pos a (by omega), rk_pos b (by omega), nn_N ha, nn_N hb]
  by_cases c : a = b
  · rw [decide_eq_true c, decide_eq_true (by omega)]; rfl
  · rw [decide_eq_false c, decide_eq_false (by omega)]; rfl
/-- Leer above nothing -/
def lr (a b : Nat) : Nat := if leer a b < 9218868437227405312 then leer a b else 0
/-- the slope of two that are above nothing -/
def lm (k : Int) (a b : Nat) : Nat := if k = 1 then min a b else if k = 2 then sbee a b else if k = 3 then lr a b else 0
/-- the opposite; of nothing: nothing -/
def op (x : Nat) : Nat := if x = 0 then 0 else x + 9223372036854775808
/-- the slope -/
def slp (k : Int) (a b : Nat) : Nat := if (ps a && ps b) = true then lm k a b else if (ns a && ns b) = true then op (lm k (a - 9223372036854775808) (b - 9223372036854775808)) else 0
theorem lr_le (a b : Nat) : lr a b < 9218868437227405312 := by unfold lr; split <;> omega
theorem lm_le (k : Int) {a b : Nat} (ha : a ≤ 9218868437227405312) (hb : b ≤ 9218868437227405312) : lm k a b ≤ 9218868437227405312 := by
  have s := sbee_facts ha hb
  have l := lr_le a b
  unfold lm
  split
  · omega
  · split
    · omega
    · split <;> omega
theorem op_lt {x : Nat} (h : x ≤ 9218868437227405312) : op x ≤ 18442240474082181120 := by unfold op; split <;> omega
theorem slp_lt (k : Int) (a b : Nat) : slp k a b < 18446744073709551616 := by
  unfold slp
  split
  · rename_i h
    rw [Bool.and_eq_true, ps_iff, ps_iff] at h
    have := lm_le k h.1.2 h.2.2
    omega
  · split
    · rename_i h
      rw [Bool.and_eq_true, ns_iff, ns_iff] at h
      have := op_lt (lm_le k (a := a - 9223372036854775808) (b := b - 9223372036854775808) (by omega) (by omega))
      omega
    · omega
theorem canon_op {x : Nat} (h : x ≤ 9218868437227405312) : canonB (negB x) = op x := by
  unfold negB op canonB
  rw [ng_of_lt (by omega)]
  simp only [Bool.false_eq_true, if_false]
  by_cases c : x = 0
  · subst c; decide
  · have m : mg (x + 9223372036854775808) = x := by unfold mg; omega
    unfold isN
    rw [m, if_neg c, if_neg (by simp; omega)]
theorem neg_ns {a : Nat} (h : 9223372036854775808 < a) : negB a = a - 9223372036854775808 := by
  unfold negB
  rw [if_pos]
  unfold ng; exact decide_eq_true (by omega)
/-- products and sums of what is above nothing have an answer -/
theorem mul_pp {x y : Nat} (hx : x ≤ 9218868437227405312) (hy : y ≤ 9218868437227405312) (x0 : 0 < x) (y0 : 0 < y) : Ieee.double.mul x y = some (mlB x y) := by
  have h := ml_nn hx hy x0 y0
  cases e : Ieee.double.mul x y with
  | none => rw [mlB_none e] at h; unfold quiet at h; omega
  | some r => rw [mlB_some e]
theorem add_pp {x y : Nat} (hx : x ≤ 9218868437227405312) (hy : y ≤ 9218868437227405312) : Ieee.double.add x y = some (plB x y) := by
  have h := (plB_nn hx hy).1
  cases e : Ieee.double.add x y with
  | none => rw [plB_none e] at h; unfold quiet at h; omega
  | some r => rw [plB_some e]
/-- the lesser and the greater of two -/
theorem order_pp {a b : Nat} (ha : a ≤ 9218868437227405312) (hb : b ≤ 9218868437227405312) : Ieee.double.order a b = some (if a < b then .lt else if b < a then .gt else .eq) := by
  have h1 := flt_nn ha hb
  have h2 := fgt_nn ha hb
  have h3 := feq_nn ha hb
  unfold flt at h1
  unfold fgt at h2
  unfold feq at h3
  by_cases c : a < b
  · rw [if_pos c]; rw [decide_eq_true c] at h1; simpa using h1
  · rw [if_neg c]
    by_cases d : b < a
    · rw [if_pos d]; rw [decide_eq_true d] at h2; simpa using h2
    · rw [if_neg d]; rw [decide_eq_true (by omega)] at h3; simpa using h3
/-- whether it is finite, whatever the word -/
theorem lr_le_of {r : Nat} {a b : Nat} (h : IsC r (leer a b)) (hn : leer a b = quiet ∨ leer a b ≤ 9218868437227405312) :
    (flt r 9218868437227405311 || feq r 9218868437227405311) = decide (leer a b < 9218868437227405312) ∧ (leer a b < 9218868437227405312 → canonB r = leer a b) := by
  obtain ⟨h1, h2⟩ := h
  refine ⟨?_, fun _ => h2⟩
  rcases hn with e | e
  · rw [e] at h2 ⊢
    have nr : isN r = true := by
      cases k : isN r
      · unfold canonB at h2
        rw [k] at h2
        have := isN_false.1 k
        simp only [Bool.false_eq_true, if_false] at h2
        split at h2
        · exact absurd h2 (by decide)
        · rw [h2] at k; exact absurd k (by decide)
      · rfl
    rw [flt_rk r _ h1 (by decide), feq_rk r _ h1 (by decide), nr]
    rfl
  · have nr : isN r = false := by
      cases k : isN r
      · rfl
      · unfold canonB at h2
        rw [k, if_pos rfl] at h2
        rw [← h2] at e
        unfold quiet at e
        omega
    have rr : rk r = leer a b := by
      unfold canonB at h2
      rw [nr, if_neg (by decide)] at h2
      split at h2
      · rename_i m
        rw [← h2]
        unfold rk
        rw [m]; split <;> rfl
      · rw [h2]; exact rk_pos _ (by omega)
    rw [flt_rk r _ h1 (by decide), feq_rk r _ h1 (by decide), nr, rr, show isN 9218868437227405311 = false by decide, rk_pos 9218868437227405311 (by decide)]
    by_cases c : leer a b < 9218868437227405312
    · rw [decide_eq_true c]
      by_cases d : leer a b = 9218868437227405311
      · rw [d]; decide
      · rw [decide_eq_true (p := (_ : Int) < _) (by omega)]; rfl
    · rw [decide_eq_false c, decide_eq_false (p := (_ : Int) < _) (by omega), decide_eq_false (p := (_ : Int) = _) (by omega)]; rfl
end Go.Proofs.YtfddlnedpfkcaaaGreatDoor

namespace Go.Proofs.YtfddlnedpfkcaaaGreatDoor
open Tf Ieee
theorem ps_ns {a : Nat} (h : ps a = true) : ns a = false := ns_no.2 (by have := ps_iff.1 h; omega)
theorem ns_ps {a : Nat} (h : ns a = true) : ps a = false := ps_no.2 (by have := ns_iff.1 h; omega)
theorem slp_p {k : Int} {a b : Nat} (ha : ps a = true) (hb : ps b = true) : slp k a b = lm k a b := by unfold slp; rw [ha, hb]; rfl
theorem slp_n {k : Int} {a b : Nat} (ha : ns a = true) (hb : ns b = true) : slp k a b = op (lm k (a - 9223372036854775808) (b - 9223372036854775808)) := by
  unfold slp; rw [ns_ps ha, ns_ps hb, ha, hb]; simp
theorem slp_z {k : Int} {a b : Nat} (ha : (ps a && ps b) = false) (hb : (ns a && ns b) = false) : slp k a b = 0 := by
  unfold slp; rw [ha, hb]; simp
end Go.Proofs.YtfddlnedpfkcaaaGreatDoor

namespace Go.Proofs.YtfddlnedpfkcaaaGreatDoor
open Tf Ieee
/-- what is above nothing, else +0 -/
def pos0 (r : Nat) : Nat := if fgt r 0 = true then r else 0
/-- the depth put forward by half a slope -/
def rcV (k : Int) (h hb hd : Nat) : Nat := plB h (mlB 4602678819172646912 (slp k (sbB h hb) (sbB hd h)))
/-- what stands above the higher bed -/
def rcG (l bu bd : Nat) : Nat := sbB l (maxB bu bd)
/-- the depth over an edge: of the depths here, behind and ahead, the level here and both beds -/
def rcR (k : Int) (h hb hd l bu bd : Nat) : Nat := pos0 (minB (rcV k h hb hd) (rcG l bu bd))
theorem pos0_lt {r : Nat} (h : r < 18446744073709551616) : pos0 r < 18446744073709551616 := by unfold pos0; split <;> omega
theorem isC_N {r c : Nat} (h : IsC r c) : isN r = isN c := by
  have e := h.2
  unfold canonB at e
  split at e
  · rename_i k; rw [k, ← e]; decide
  · rename_i k
    split at e
    · have n : isN r = false := by simpa using k
      rw [← e, n]; decide
    · rw [e]
theorem isC_or {r c : Nat} (h : IsC r c) (n : isN r = false) : (mg r = 0 ∧ c = 0) ∨ r = c := by
  have e := h.2
  unfold canonB at e
  rw [n] at e
  by_cases z : mg r = 0
  · exact .inl ⟨z, by simpa [z] using e.symm⟩
  · exact .inr (by simpa [z] using e)
theorem slp_N (k : Int) (a b : Nat) : isN (slp k a b) = false := by
  unfold slp
  split
  · rename_i c
    have q := (Bool.and_eq_true _ _).mp c
    exact nn_N (lm_le k (ps_iff.1 q.1).2 (ps_iff.1 q.2).2)
  · split
    · rename_i c
      have q := (Bool.and_eq_true _ _).mp c
      have a1 := ns_iff.1 q.1
      have b1 := ns_iff.1 q.2
      have l := lm_le k (a := a - 9223372036854775808) (b := b - 9223372036854775808) (by omega) (by omega)
      refine isN_false.2 ?_
      unfold op
      split
      · unfold mg; omega
      · unfold mg; omega
    · decide
theorem minB_lt {a b : Nat} (ha : a < 18446744073709551616) (hb : b < 18446744073709551616) : minB a b < 18446744073709551616 := by
  unfold minB
  split
  · decide
  · split <;> assumption
/-- the lesser of two numbers: it is one of them, and not above either -/
theorem minB_num {a b : Nat} (ha : a < 18446744073709551616) (hb : b < 18446744073709551616) (na : isN a = false) (nb : isN b = false) :
    (minB a b = a ∨ minB a b = b) ∧ rk (minB a b) ≤ rk a ∧ rk (minB a b) ≤ rk b := by
  unfold minB
  rw [na, nb, if_neg (by decide)]
  have key : ∀ x y : Nat, x < 18446744073709551616 → y < 18446744073709551616 → placeB x ≤ placeB y → rk x ≤ rk y := by
    intro x y hx hy h
    unfold placeB at h
    unfold rk
    cases gx : ng x <;> cases gy : ng y <;> simp only [gx, gy, if_true, if_false, Bool.false_eq_true] at h ⊢ <;> unfold ng at gx gy <;> simp only [decide_eq_true_eq, decide_eq_false_iff_not] at gx gy <;> unfold mg <;> omega
  split
  · rename_i c
    exact ⟨.inr rfl, key _ _ hb ha (by omega), Int.le_refl _⟩
  · rename_i c
    exact ⟨.inl rfl, Int.le_refl _, key _ _ ha hb (by omega)⟩
theorem minB_nan {a b : Nat} (h : isN a = true ∨ isN b = true) : minB a b = quiet := by
  unfold minB
  rw [if_pos (by rcases h with h | h <;> simp [h])]
/-- of a difference in another form of nothing it is the same -/
theorem pos0_c {v r g : Nat} (hv : v < 18446744073709551616) (h : IsC r g) : pos0 (minB v r) = pos0 (minB v g) := by
  cases nv : isN v
  · cases nr : isN r
    · rcases isC_or h nr with ⟨z, rfl⟩ | rfl
      · have m1 := minB_num hv h.1 nv nr
        have m2 := minB_num hv (b := 0) (by decide) nv (by decide)
        have r0 : rk r = 0 := by unfold rk; rw [z]; simp
        have l1 := minB_lt hv h.1
        have l2 := minB_lt hv (b := 0) (by decide)
        have z1 : pos0 (minB v r) = 0 := by
          unfold pos0
          rw [if_neg]
          intro q
          have := ((fgt_iff l1 (by decide)).1 q).2.2
          rw [rk_zero] at this
          omega
        have z2 : pos0 (minB v 0) = 0 := by
          unfold pos0
          rw [if_neg]
          intro q
          have := ((fgt_iff l2 (by decide)).1 q).2.2
          rw [rk_zero] at this m2
          omega
        rw [z1, z2]
      · rfl
    · rw [minB_nan (.inr nr), minB_nan (.inr (by rw [← isC_N h]; exact nr))]
  · rw [minB_nan (.inl nv), minB_nan (.inl nv)]
end Go.Proofs.YtfddlnedpfkcaaaGreatDoor

namespace Go.Proofs.YtfddlnedpfkcaaaGreatDoor
open Tf Ieee Cu
/-- the depth from one cell into another, by their areas, beds and waters -/
def ovC (k : Int) (A : Nat → Int) (B : Nat → Nat) (W : Nat → Int) (up down back : Nat) : Nat :=
  rcR k (dpB (W up) (A up)) (dpB (W back) (A back)) (dpB (W down) (A down)) (lvl (B up) (W up) (A up)) (B up) (B down)
/-- the cell behind the cell of a side -/
def bkC (n t : Nat) : Nat := bsC n (t / 4) ((t % 4 + 2) % 4)
/-- the depth over a side, out of its cell -/
def sdD (n : Nat) (k : Int) (A : Nat → Int) (B : Nat → Nat) (W : Nat → Int) (t : Nat) : Nat := ovC k A B W (t / 4) (mt n t / 4) (bkC n t)
/-- the depth over an edge, by its Left's side and the speed -/
def rdT (n : Nat) (k : Int) (A : Nat → Int) (B : Nat → Nat) (W : Nat → Int) (t u : Nat) : Nat :=
  if fgt u 0 = true then sdD n k A B W t else if flt u 0 = true then sdD n k A B W (mt n t) else 0
theorem rdT_p {n : Nat} {k : Int} {A : Nat → Int} {B : Nat → Nat} {W : Nat → Int} {t u : Nat} (h : fgt u 0 = true) : rdT n k A B W t u = sdD n k A B W t := by unfold rdT; rw [if_pos h]
theorem rdT_n {n : Nat} {k : Int} {A : Nat → Int} {B : Nat → Nat} {W : Nat → Int} {t u : Nat} (h : fgt u 0 = false) (g : flt u 0 = true) : rdT n k A B W t u = sdD n k A B W (mt n t) := by unfold rdT; rw [if_neg (by rw [h]; decide), if_pos g]
theorem rdT_0 {n : Nat} {k : Int} {A : Nat → Int} {B : Nat → Nat} {W : Nat → Int} {t u : Nat} (h : fgt u 0 = false) (g : flt u 0 = false) : rdT n k A B W t u = 0 := by unfold rdT; rw [if_neg (by rw [h]; decide), if_neg (by rw [g]; decide)]
theorem bk_lt {n t : Nat} (hn : 1 ≤ n) (ht : t < 24 * n * n) : bkC n t < 6 * n * n := by
  have g := turned_geo (s := (t % 4 + 2) % 4) (t := 0) (k := t / 4) hn rfl (t_cell ht) (by omega) (by decide) (t_cell ht)
  exact g.1.2.2.1
end Go.Proofs.YtfddlnedpfkcaaaGreatDoor

namespace Go.Proofs.YtfddlnedpfkcaaaGreatDoor
open Tf Ieee
/-- a difference of two depths -/
theorem sb_nn {x y : Nat} (hx : x < 9218868437227405312) (hy : y < 9218868437227405312) : sbB x y = rn false ((mv x : Int) - mv y) := by
  have mx : mg x = x := mg_of_lt (by omega)
  have my : mg y = y := mg_of_lt (by omega)
  have e := sub_d x y (by omega) (by omega) (by omega) (by omega)
  rw [sub_add x y (by omega)] at e
  unfold sbB
  rw [addB_some e, canon_rn, sv_nn (d := x) (by omega), sv_nn (d := y) (by omega)]
end Go.Proofs.YtfddlnedpfkcaaaGreatDoor

namespace Go.Proofs.YtfddlnedpfkcaaaGreatDoor
open Go.RowKit Tf Cu
theorem arI_top (L : Nat) : 1 ≤ arI L ∧ arI L ≤ 9223372036854775807 := by
  have h : cI .even (arQ L) ≤ 9223372036854775807 := by
    unfold cI
    split
    · rename_i c
      unfold cOk at c
      simp only [Bool.and_eq_true, decide_eq_true_eq] at c
      omega
    · decide
  unfold arI
  omega
/-- the area of a cell -/
def arC (n c : Nat) : Int := arI (ArC n c)
theorem arC_in (n c : Nat) : 1 ≤ arC n c ∧ arC n c ≤ 9223372036854775807 := arI_top _
/-- the depth at all arguments -/
def rdAll (n : Nat) (k : Int) (lb lw : Nat) (B : Nat → Nat) (W : Nat → Int) (e : Int) (u : Nat) : Nat :=
  if inR e (12 * n * n : Nat) = true ∧ lb = 6 * n * n ∧ lw = 6 * n * n then rdT n k (arC n) B W (edT n e.toNat) u else 0
theorem half_some {s : Nat} (hs : s < 18446744073709551616) (h : isN s = false) : Ieee.double.mul 4602678819172646912 s = some (mlB 4602678819172646912 s) := by
  have k : Ieee.double.mul 4602678819172646912 s ≠ none := by
    rcases three s with c | c | c
    · rw [mul_d 4602678819172646912 s (by decide) hs (by decide) c]; exact Option.some_ne_none _
    · rw [mul_fi 4602678819172646912 s (by decide) hs (by decide) c, if_neg (by decide)]; exact Option.some_ne_none _
    · rw [h] at c; cases c
  cases e : Ieee.double.mul 4602678819172646912 s with
  | none => exact absurd e k
  | some r => rw [mlB_some e]
theorem half_N {s : Nat} (hs : s < 18446744073709551616) (h : isN s = false) : isN (mlB 4602678819172646912 s) = false ∧ mlB 4602678819172646912 s < 18446744073709551616 := by
  have e := half_some hs h
  exact ⟨(mul_fact e (by decide) hs).2, (mul_fact e (by decide) hs).1⟩
theorem plus_some {h f : Nat} (hh : h < 9218868437227405312) (hf : f < 18446744073709551616) (nf : isN f = false) : Ieee.double.add h f = some (plB h f) := by
  have mh : mg h < 9218868437227405312 := by rw [mg_of_lt (by omega)]; exact hh
  have k : Ieee.double.add h f ≠ none := by
    rcases three f with c | c | c
    · rw [add_d h f (by omega) hf mh c]; exact Option.some_ne_none _
    · rw [add_fi h f hf mh c]; exact Option.some_ne_none _
    · rw [nf] at c; cases c
  cases e : Ieee.double.add h f with
  | none => exact absurd e k
  | some r => rw [plB_some e]
theorem minus_some {x y : Nat} (hx : x < 9218868437227405312) (hy : y < 9218868437227405312) : Ieee.double.sub x y = some (sbB x y) := by
  have mx : mg x < 9218868437227405312 := by rw [mg_of_lt (by omega)]; exact hx
  have my : mg y < 9218868437227405312 := by rw [mg_of_lt (by omega)]; exact hy
  rw [sub_d x y (by omega) (by omega) mx my, sb_nn hx hy, sv_nn (d := x) (by omega), sv_nn (d := y) (by omega), ng_of_lt (x := x) (by omega)]
  rfl
theorem rcV_lt {k : Int} {h hb hd : Nat} (hh : h < 9218868437227405312) : rcV k h hb hd < 18446744073709551616 := by
  have s := half_N (slp_lt k (sbB h hb) (sbB hd h)) (slp_N k _ _)
  have e := plus_some hh s.2 s.1
  unfold rcV
  exact (IsQ.add (IsQ.self (by omega)) (IsQ.self s.2) e).1
theorem sub_isC {l m g : Nat} (hm : m < 18446744073709551616) (e : Ieee.double.sub l m = some g) (hl : l < 18446744073709551616) : IsC g (sbB l m) := by
  have ea : Ieee.double.add l (negB m) = some g := by rw [← sub_add l m hm]; exact e
  exact ⟨(add_facts hl (negB_lt' hm) ea).1, by unfold sbB; rw [addB_some ea]⟩
theorem IsFl.at0 {w : World} {b o len : Nat} {xs : Nat → Nat} (h : IsFl w (some ⟨b, o, none⟩) len xs) {k : Nat} (hk : k < len) : xs k < 18446744073709551616 ∧ b < w.heap.size ∧ w.cell? ⟨b, o + k, none⟩ = some (.float .f64 (xs k)) := by
  obtain ⟨h1, b', o', e, h2, h3⟩ := h k hk
  injection e with e1
  injection e1 with e2 e3
  subst e2 e3
  exact ⟨h1, h2, h3⟩
theorem IsIn.at0 {w : World} {b o len : Nat} {xs : Nat → Int} (h : IsIn w (some ⟨b, o, none⟩) len xs) {k : Nat} (hk : k < len) : xs k ≤ 9223372036854775807 ∧ b < w.heap.size ∧ w.cell? ⟨b, o + k, none⟩ = some (.int .i64 (xs k)) := by
  obtain ⟨h1, b', o', e, h2, h3⟩ := h k hk
  injection e with e1
  injection e1 with e2 e3
  subst e2 e3
  exact ⟨h1.2, h2, h3⟩
theorem maxB_lt {a b : Nat} (ha : a < 18446744073709551616) (hb : b < 18446744073709551616) : maxB a b < 18446744073709551616 := by
  unfold maxB
  split
  · decide
  · split <;> assumption
theorem fgt_flt {u : Nat} (hu : u < 18446744073709551616) (h : fgt u 0 = true) : flt u 0 = false := by
  rw [fgt_ps hu] at h
  rw [flt_ns hu]
  exact ps_ns h
theorem inR_nat {e : Int} {N : Nat} (h : inR e (N : Nat) = true) : ∃ E : Nat, e = (E : Int) ∧ E < N := by
  obtain ⟨h1, h2⟩ := inR_iff.1 h
  obtain ⟨E, rfl⟩ := Int.eq_ofNat_of_zero_le h1
  exact ⟨E, rfl, by omega⟩
theorem rdAll_no {n : Nat} {k : Int} {lb lw : Nat} {B : Nat → Nat} {W : Nat → Int} {e : Int} {u : Nat} (h : ¬ (inR e (12 * n * n : Nat) = true ∧ lb = 6 * n * n ∧ lw = 6 * n * n)) : rdAll n k lb lw B W e u = 0 := by unfold rdAll; rw [if_neg h]
theorem rdAll_eN {n : Nat} {k : Int} {B : Nat → Nat} {W : Nat → Int} {t u : Nat} (hn : 1 ≤ n) (ht : t < 24 * n * n) (hl : isL n t = true) : rdAll n k (6 * n * n) (6 * n * n) B W (eN n t : Nat) u = rdT n k (arC n) B W t u := by
  unfold rdAll
  rw [if_pos ⟨inR_iff.2 (by have := ed_lt hn ht hl; omega), rfl, rfl⟩, Int.toNat_natCast, edT_eN hn ht hl]
theorem IsFl.some0 {w : World} {a0 : Option Addr} {len : Nat} {xs : Nat → Nat} (h : IsFl w a0 len xs) (h0 : 0 < len) : ∃ b o, a0 = some ⟨b, o, none⟩ := by
  obtain ⟨_, b, o, e, _⟩ := h 0 h0
  exact ⟨b, o, e⟩
theorem IsIn.some0 {w : World} {a0 : Option Addr} {len : Nat} {xs : Nat → Int} (h : IsIn w a0 len xs) (h0 : 0 < len) : ∃ b o, a0 = some ⟨b, o, none⟩ := by
  obtain ⟨_, b, o, e, _⟩ := h 0 h0
  exact ⟨b, o, e⟩
theorem six_pos {n : Nat} (hn : 1 ≤ n) : 0 < 6 * n * n := Nat.mul_pos (Nat.mul_pos (by decide) hn) hn
end Go.Proofs.YtfddlnedpfkcaaaGreatDoor

namespace Go.Proofs.YtfddlnedpfkcaaaGreatDoor
open Go.RowKit
/-- each of the first n operations waits for earlier ones alone, and asks earlier ones alone whether it is wanted -/
def backB (md : Region.Mode) (ops : Array Oper) (n : Nat) : Bool :=
  (List.range n).all fun i => match ops[i]? with
    | some o => o.after.all (fun e => !Region.binds md e || decide (e.on < i)) && (match o.guard with | none => true | some (j, _) => decide (j < n))
    | none => true
/-- the first n are done, no other -/
def finA (m n : Nat) : Array Bool := Array.replicate n true ++ Array.replicate (m - n) false
theorem back_spec {md : Region.Mode} {ops : Array Oper} {n : Nat} (h : backB md ops n = true) {i : Nat} {o : Oper} (hi : i < n) (ho : ops[i]? = some o) :
    (∀ e ∈ o.after, Region.binds md e = true → e.on < i) ∧ (∀ j b, o.guard = some (j, b) → j < n) := by
  have a := List.all_eq_true.1 h i (List.mem_range.2 hi)
  simp only [ho, Bool.and_eq_true] at a
  refine ⟨fun e he hb => ?_, fun j b hg => ?_⟩
  · have := Array.all_eq_true_iff_forall_mem.1 a.1 e he
    simpa [hb] using this
  · have := a.2
    rw [hg] at this
    simpa using this
theorem getD_tf {l : Array Bool} {i : Nat} (h : i < l.size) (d d' : Bool) : l.getD i d = l.getD i d' := by simp [h]
theorem wpAny_more {P : Program} {md : Region.Mode} {ops : Array Oper} {Q : Exit → Act → World → Prop} : ∀ (g k : Nat) (listed : Array Bool) (a : Act) (w : World), wpAny P md ops Q g listed a w → wpAny P md ops Q (g + k) listed a w
  | 0, 0, _, _, _, h => h
  | 0, k + 1, listed, a, w, h => by
    rw [Nat.zero_add]
    exact ⟨fun _ => h.2, fun i hi => by rw [h.1] at hi; cases hi⟩
  | g + 1, k, listed, a, w, h => by
    rw [show g + 1 + k = (g + k) + 1 by omega]
    exact ⟨h.1, fun i hi => wpOp_mono (fun a' w' h' => wpAny_more g k _ a' w' h') (h.2 i hi)⟩
section
variable {P : Program} {md : Region.Mode} {ops hd : Array Oper} {C : World → Prop} {n : Nat}
theorem ready_head (hhd : ∀ i, i < n → hd[i]? = ops[i]?) (hb : backB md ops n = true) {listed lh : Array Bool} (hl : lh.size = n) (hls : n ≤ listed.size) (he : ∀ i, i < n → lh.getD i true = listed.getD i true) {i : Nat} (hi : i < n) :
    i ∈ Region.ready md hd lh ↔ i ∈ Region.ready md ops listed := by
  rw [mem_ready, mem_ready, he i hi, hhd i hi]
  refine and_congr Iff.rfl (exists_congr fun o => and_congr_right fun ho => forall_congr' fun e => forall_congr' fun hm => forall_congr' fun hbd => ?_)
  have lt := (back_spec hb hi ho).1 e hm hbd
  rw [getD_tf (d := false) (d' := true) (by omega), getD_tf (l := listed) (d := false) (d' := true) (by omega), he _ (by omega)]
theorem some_ready (hsz : n ≤ ops.size) (hb : backB md ops n = true) {listed : Array Bool} (hls : n ≤ listed.size) :
    (∀ i, i < n → listed.getD i true = true) ∨ ∃ i, i < n ∧ i ∈ Region.ready md ops listed := by
  have key : ∀ k, k ≤ n → (∀ i, i < k → listed.getD i true = true) ∨ ∃ i, i < n ∧ i ∈ Region.ready md ops listed := by
    intro k
    induction k with
    | zero => exact fun _ => .inl (fun i hi => by omega)
    | succ k ih =>
      intro hk
      rcases ih (by omega) with h | h
      · cases c : listed.getD k true
        · right
          refine ⟨k, by omega, mem_ready.2 ⟨c, ops[k]'(by omega), by simp, fun e he hbd => ?_⟩⟩
          have lt := (back_spec hb (i := k) (o := ops[k]'(by omega)) (by omega) (by simp)).1 e he hbd
          rw [getD_tf (d := false) (d' := true) (by omega)]
          exact h _ lt
        · left
          intro i hi
          by_cases e : i = k
          · rw [e]; exact c
          · exact h i (by omega)
      · exact .inr h
  exact key n (Nat.le_refl _)
theorem qOp_head (hhd : ∀ i, i < n → hd[i]? = ops[i]?) (hb : backB md ops n = true) {i : Nat} (hi : i < n) {K : Act → Prop} {a : Act} (h : qOp P hd C i K a) : qOp P ops C i K a := by
  unfold qOp at *
  rw [hhd i hi] at h
  cases ho : ops[i]? with
  | none => rw [ho] at h; exact h
  | some o =>
    rw [ho] at h
    have e : Region.wanted o (yielded hd a.tmps) = Region.wanted o (yielded ops a.tmps) := by
      unfold Region.wanted
      cases hg : o.guard with
      | none => rfl
      | some jb =>
        obtain ⟨j, b⟩ := jb
        have lt := (back_spec hb hi ho).2 j b hg
        show (yielded hd a.tmps j == some b) = (yielded ops a.tmps j == some b)
        unfold yielded
        rw [hhd j lt]
    simp only [e] at h
    exact h
theorem fin_of {listed : Array Bool} (hn : n < ops.size) (inv : HeadInv md ops n listed) (h : ∀ i, i < n → listed.getD i true = true) : listed = finA ops.size n := by
  have s := inv.size
  unfold finA
  refine Array.ext (by simp; omega) fun i h1 h2 => ?_
  by_cases c : i < n
  · have := h i c
    rw [Array.getElem_append_left (by simpa using c)]
    simp [h1] at this
    simpa using this
  · have := inv.tail i (by omega) (by omega)
    rw [Array.getElem_append_right (by simp; omega)]
    simp [h1] at this
    simpa using this
theorem wpAny_of_headQ {g : Nat} {Q1 : Act → Prop} {Q' : Exit → Act → World → Prop} (hhd : ∀ i, i < n → hd[i]? = ops[i]?) (hsz : hd.size = n) (hn : n < ops.size) (hb : backB md ops n = true) (hs : Region.sinkB md ops n = true) (hc : Region.chainB md ops n = true)
    (hL : ∀ a w, C w → Q1 a → wpAny P md ops Q' g (finA ops.size n) a w) :
    ∀ (fuel : Nat) (listed lh : Array Bool) (a : Act) (w : World), C w → HeadInv md ops n listed → lh.size = n → (∀ i, i < n → lh.getD i true = listed.getD i true) →
      wpAnyQ P md hd C Q1 fuel lh a → wpAny P md ops Q' (fuel + g) listed a w := by
  intro fuel
  induction fuel with
  | zero =>
    intro listed lh a w hC inv hl he h
    have hls : n ≤ listed.size := by rw [inv.size]; omega
    rcases some_ready (by omega) hb hls with all | ⟨i, hi, hr⟩
    · rw [Nat.zero_add, fin_of hn inv all]
      exact hL a w hC h.2
    · have := (ready_head hhd hb hl hls he hi).2 hr
      rw [h.1] at this
      cases this
  | succ fuel ih =>
    intro listed lh a w hC inv hl he h
    have hls : n ≤ listed.size := by rw [inv.size]; omega
    rcases some_ready (by omega) hb hls with all | ⟨i0, hi0, hr0⟩
    · have no : Region.ready md hd lh = [] := by
        rw [List.eq_nil_iff_forall_not_mem]
        intro i hi
        obtain ⟨u, o, ho, _⟩ := mem_ready.1 hi
        have lt : i < n := by rw [← hsz]; exact (Array.getElem?_eq_some_iff.1 ho).1
        rw [he i lt, all i lt] at u
        cases u
      rw [Nat.add_comm (fuel + 1) g, fin_of hn inv all]
      exact wpAny_more g (fuel + 1) _ a w (hL a w hC (h.1 no))
    · rw [show fuel + 1 + g = (fuel + g) + 1 by omega]
      refine ⟨fun h0 => (by rw [h0] at hr0; cases hr0), fun i hi => ?_⟩
      have lt : i < n := by
        by_cases c : i < n
        · exact c
        · exact absurd hi (tail_waits hs hc hn inv _ i0 rfl hi0 (mem_ready.1 hr0).1 i (by omega))
      have hq := qOp_head hhd hb lt (h.2 i ((ready_head hhd hb hl hls he lt).2 hi))
      refine wpOp_of_qOp hC (fun a' w' hC' h' => ih _ _ a' w' hC' (inv.set hi lt) (by simp [hl]) (fun j hj => ?_) h') hq
      by_cases e : i = j
      · subst e
        simp [hl, lt, show i < listed.size by omega]
      · rw [getD_set_ne true e, getD_set_ne true e, he j hj]
end
/-- what is asked of the region's text -/
def tailB (ops : Array Oper) (n : Nat) : Bool :=
  decide (n < ops.size) && backB .any ops n && Region.sinkB .any ops n && Region.chainB .any ops n && Region.seqB .any ops (ops.size - n) n (finA ops.size n)
theorem region_tail {P : Program} {id : Nat} {Q : Exit → Act → World → Prop} {a : Act} {w : World} {l : List Oper} {U : Type} (n : Nat) (F : U → World) (hm : P.follows .mixedOrders = true) (hB : Region.lexB .any (l.take n).toArray = true) (hT : tailB l.toArray n = true)
    (hC : ∃ u, w.drew = F u)
    (h : wpQuiet P (l.take n).toArray (fun w' => ∃ u, w' = F u) (fun a' => ∀ w', (∃ u, w' = F u) → wpList P l.toArray Q (l.drop n) a' w') (l.take n) a) : (Code.region id l.toArray true).wp P Q a w := by
  simp only [tailB, Bool.and_eq_true, decide_eq_true_eq] at hT
  obtain ⟨⟨⟨⟨hn, hb⟩, hs⟩, hc⟩, hq⟩ := hT
  have hn' : n < l.length := by simpa using hn
  have htl : (l.take n).toArray.size = n := by simp; omega
  have hdl : (l.drop n).length = l.toArray.size - n := by simp
  refine wp_region_any hm ?_
  simp only [Region.lexB, Bool.and_eq_true] at hB
  have H := wpAnyQ_lex (P := P) (C := fun w' => ∃ u, w' = F u) (md := .any) hB.1 (l.take n) 0 (Array.replicate (l.take n).toArray.size false) a (by simp) (by simpa using hB.2) h
  have inv0 : HeadInv .any l.toArray n (Array.replicate l.toArray.size false) :=
    ⟨by simp, fun j oj _ hl => (by rw [getD_replicate_false] at hl; cases hl), fun t _ ht => getD_in (by simpa using ht) (getD_replicate_false _ _)⟩
  have := wpAny_of_headQ (P := P) (Q' := Q) (g := l.toArray.size - n) (hd := (l.take n).toArray) (ops := l.toArray) (fun i hi => by simp [hi]) htl hn hb hs hc
    (fun a' w' hC' h' => by
      have := wpAny_of_seq (P := P) (md := .any) (ops := l.toArray) (Q' := Q) (l.drop n) n (finA l.toArray.size n) a' w' (fun j => by simp) (by rw [hdl]; exact hq) (h' w' hC')
      rwa [hdl] at this)
    (l.take n).length _ _ a w.drew hC inv0 (by simpa using htl) (fun i hi => by
      rw [getD_in (listed := Array.replicate l.toArray.size false) (by simp; omega) (getD_replicate_false _ _)]
      exact getD_in (by rw [Array.size_replicate]; omega) (getD_replicate_false _ _)) H
  have e : (l.take n).length + (l.toArray.size - n) = l.toArray.size := by simp; omega
  rw [e] at this
  exact this
end Go.Proofs.YtfddlnedpfkcaaaGreatDoor
