/-
  Some of the texts of this proof, one behind the other.
-/
import Derived.Deep.AppendLies
import Derived.OwnWalk
import Derived.Test.YtpfoohpncbkkfaaDoorZ09
namespace Go.Proofs.YtpfoohpncbkkfaaDoor
open Tf Ieee
/-- the whole quotient twice, and one more where that isn't all -/
def stQ (N n : Nat) : Nat := 2 * (N / n) + (N % n != 0).toNat
theorem canon_nn' {q : Nat} (q1 : 4503599627370496 ≤ q) (q2 : q < 9218868437227405312) : canonB q = q := by
  have mq : mg q = q := mg_of_lt (by omega)
  unfold canonB
  rw [mq, if_neg (by unfold isN; rw [mq]; simp; omega), if_neg (by omega)]
set_option maxRecDepth 100000 in
/-- what a quotient of two numbers above nothing is -/
theorem dv_core {x l : Nat} (x1 : 4503599627370496 ≤ x) (x2 : x < 9218868437227405312) (l1 : 4503599627370496 ≤ l) (l2 : l < 9218868437227405312)
    (h1 : l / 4503599627370496 ≤ x / 4503599627370496 + 1010) (h2 : x / 4503599627370496 ≤ l / 4503599627370496 + 1006) :
    ∃ N n d g, 0 < g ∧ 0 < n ∧ 18014398509481984 ≤ stQ N n ∧ dvB x l = rung 52 0 (stQ N n * 2 ^ d) ∧ n * g = mv l ∧ N * 2 ^ (d + 2) * g = 2 * (mv x * 2 ^ K) ∧ 4503599627370496 ≤ dvB x l ∧ dvB x l ≤ 9146810843189477376 := by
  obtain ⟨W, w1, w2, w3, e1⟩ := div_pos x1 x2 l1 l2
  have hq : W = stQ ((4503599627370496 + x % 4503599627370496) * 2 ^ 54) (4503599627370496 + l % 4503599627370496) := by rw [w3]; unfold stQ; rw [Nat.shiftLeft_eq]
  have px := mv_parts x1
  have pl := mv_parts l1
  have hlp := d_lp
  have ha : 1 ≤ x / 4503599627370496 ∧ 1 ≤ l / 4503599627370496 := by omega
  clear w3
  generalize x / 4503599627370496 = a at *
  generalize l / 4503599627370496 = c at *
  obtain ⟨d, hd⟩ : ∃ d : Nat, (((a - 1 : Nat) : Int) - ((c - 1 : Nat) : Int) - 55) = double.leastPlace + (d : Int) := ⟨((((a - 1 : Nat) : Int) - ((c - 1 : Nat) : Int) - 55) - double.leastPlace).toNat, by omega⟩
  have hdle : d ≤ 2025 := by omega
  have hdk : d + 2 + 54 + (c - 1) = (a - 1) + 1 + K := by unfold K; omega
  rw [nearest_up double false W d _ hd, d_word, d_inf] at e1
  have h0 : W * 2 ^ d ≠ 0 := Nat.mul_ne_zero (by omega) (by have := Nat.two_pow_pos d; omega)
  have hlog : 52 + 0 ≤ (W * 2 ^ d).log2 := by
    refine (Nat.le_log2 h0).2 ?_
    have e : (2 : Nat) ^ (52 + 0) = 4503599627370496 := by decide
    rw [e]
    have := Nat.two_pow_pos d
    exact Nat.le_trans (by omega) (Nat.le_mul_of_pos_right W this)
  have hb := rung_big hlog h0
  have hle := rung_E17 (le_E17 w2 hdle)
  have hfb : double.fractionBits = 52 := rfl
  rw [hfb] at e1
  refine ⟨(4503599627370496 + x % 4503599627370496) * 2 ^ 54, 4503599627370496 + l % 4503599627370496, d, 2 ^ (c - 1), Nat.two_pow_pos _, by omega, by omega, ?_, pl.symm, ?_, ?_⟩
  · rw [← hq]
    generalize rung 52 0 (W * 2 ^ d) = r at *
    simp only [Bool.false_eq_true, if_false] at e1
    rw [Nat.min_eq_left (by omega)] at e1
    rw [dvB_some e1]
    exact canon_nn' hb (by omega)
  · rw [px]
    generalize 4503599627370496 + x % 4503599627370496 = m
    rw [show m * 2 ^ 54 * 2 ^ (d + 2) * 2 ^ (c - 1) = m * 2 ^ (d + 2 + 54 + (c - 1)) by rw [Nat.mul_assoc, Nat.mul_assoc, ← Nat.pow_add, ← Nat.pow_add]; congr 2; omega, hdk, Nat.pow_add, Nat.pow_add, Nat.pow_one]
    generalize 2 ^ (a - 1) = u
    generalize 2 ^ K = v
    rw [show u * 2 * v = 2 * (u * v) by rw [Nat.mul_comm u 2, Nat.mul_assoc], ← Nat.mul_assoc m 2, Nat.mul_comm m 2, Nat.mul_assoc, Nat.mul_assoc]
  · generalize rung 52 0 (W * 2 ^ d) = r at *
    simp only [Bool.false_eq_true, if_false] at e1
    rw [Nat.min_eq_left (by omega)] at e1
    rw [dvB_some e1, canon_nn' hb (by omega)]
    exact ⟨hb, hle⟩
end Go.Proofs.YtpfoohpncbkkfaaDoor

namespace Go.Proofs.YtpfoohpncbkkfaaDoor
open Tf Ieee
/-- numbers whose quotient is far from both ends -/
def Qn (x l : Nat) : Prop := (4503599627370496 ≤ x ∧ x < 9218868437227405312) ∧ (4503599627370496 ≤ l ∧ l < 9218868437227405312) ∧ l / 4503599627370496 ≤ x / 4503599627370496 + 1010 ∧ x / 4503599627370496 ≤ l / 4503599627370496 + 1006
theorem dq_in {x l : Nat} (q : Qn x l) : 4503599627370496 ≤ dvB x l ∧ dvB x l ≤ 9146810843189477376 := by
  obtain ⟨⟨x1, x2⟩, ⟨l1, l2⟩, h1, h2⟩ := q
  obtain ⟨N, n, d, g, hg, hn, hW, e, e1, e2, e3⟩ := dv_core x1 x2 l1 l2 h1 h2
  exact e3
end Go.Proofs.YtpfoohpncbkkfaaDoor

namespace Go.Proofs.YtpfoohpncbkkfaaDoor
open Tf

theorem R_exact (v : Int) (r : Nat) (h : mv r = v.natAbs) (hr : r ≤ 9218868437227405312) : R v = if v < 0 then -(r : Int) else (r : Int) := by
  unfold R
  rw [← h, rung_mv, Nat.min_eq_left hr]
theorem R_mv (r : Nat) (hr : r ≤ 9218868437227405312) : R (mv r : Int) = r ∧ R (-(mv r : Int)) = -(r : Int) := by
  refine ⟨?_, ?_⟩
  · rw [R_exact _ r (by rw [Int.natAbs_natCast]) hr, if_neg (by omega)]
  · rw [R_exact _ r (by rw [Int.natAbs_neg, Int.natAbs_natCast]) hr]
    by_cases c : r = 0
    · subst c; rw [mv_zero]; simp
    · have := (@mv_lt 0 r).2 (by omega)
      rw [mv_zero] at this
      rw [if_pos (by omega)]

end Go.Proofs.YtpfoohpncbkkfaaDoor

namespace Go.Proofs.YtpfoohpncbkkfaaDoor
open Tf Ieee
/-- a whole number as a float -/
def fw (n : Int) : Nat := rn false (n * one)
theorem R_one : R one = 4607182418800017408 := (R_mv 4607182418800017408 (by decide)).1
theorem mv_2_63 : mv 4890909195324358656 = 9223372036854775808 * one := by
  have h := mv_from_one 63 4890909195324358656 (by decide)
  have e : (2 : Nat) ^ 63 = 9223372036854775808 := by decide
  rw [e] at h
  exact h
theorem R_max : R (9223372036854775808 * one) = 4890909195324358656 := by
  have h := (R_mv 4890909195324358656 (by decide)).1
  rw [mv_2_63, Int.natCast_mul] at h
  exact h
theorem rn_nn {v : Int} (h : 0 ≤ v) : rn false v = (R v).toNat := by
  unfold rn R
  generalize min (rung 52 0 v.natAbs) 9218868437227405312 = m
  by_cases z : v = 0
  · rw [if_pos z, if_neg (by decide), if_neg (by omega), Int.toNat_natCast]
  · rw [if_neg z, decide_eq_false (by omega), if_neg (by decide), if_neg (by omega), Int.toNat_natCast]
theorem fw_R {n : Int} (h : 0 ≤ n) : fw n = (R (n * one)).toNat := rn_nn (Int.mul_nonneg h (Int.le_of_lt onep))
theorem fw_in {n : Int} (h1 : 1 ≤ n) (h2 : n ≤ 9223372036854775807) : 4607182418800017408 ≤ fw n ∧ fw n ≤ 4890909195324358656 := by
  have a := R_mono (Int.mul_le_mul_of_nonneg_right h1 (Int.le_of_lt onep))
  have b := R_mono (Int.mul_le_mul_of_nonneg_right (show n ≤ 9223372036854775808 by omega) (Int.le_of_lt onep))
  rw [Int.one_mul, R_one] at a
  rw [R_max] at b
  rw [fw_R (by omega)]
  omega
theorem fw_Qn {n m : Int} (n1 : 1 ≤ n) (n2 : n ≤ 9223372036854775807) (m1 : 1 ≤ m) (m2 : m ≤ 9223372036854775807) : Qn (fw n) (fw m) := by
  have a := fw_in n1 n2
  have b := fw_in m1 m2
  unfold Qn
  omega
/-- the depth -/
def dpB (w a : Int) : Nat := if w < 1 ∨ a < 1 then 0 else dvB (fw w) (fw a)
theorem dp_zero {w a : Int} (h : w < 1 ∨ a < 1) : dpB w a = 0 := by unfold dpB; rw [if_pos h]
theorem dp_of {w a : Int} (h1 : 1 ≤ w) (h2 : 1 ≤ a) : dpB w a = dvB (fw w) (fw a) := by unfold dpB; rw [if_neg (by omega)]
theorem dp_in {w a : Int} (h1 : 1 ≤ w) (h2 : 1 ≤ a) (w2 : w ≤ 9223372036854775807) (a2 : a ≤ 9223372036854775807) : 4503599627370496 ≤ dpB w a ∧ dpB w a ≤ 9146810843189477376 := by
  rw [dp_of h1 h2]
  exact dq_in (fw_Qn h1 w2 h2 a2)
theorem dp_le {w a : Int} (w2 : w ≤ 9223372036854775807) (a2 : a ≤ 9223372036854775807) : dpB w a ≤ 9146810843189477376 := by
  by_cases h : w < 1 ∨ a < 1
  · rw [dp_zero h]; omega
  · exact (dp_in (by omega) (by omega) w2 a2).2
end Go.Proofs.YtpfoohpncbkkfaaDoor

namespace Go.Proofs.YtpfoohpncbkkfaaDoor
open Tf Ieee
theorem R_sv11 {x : Nat} (h : mg x ≤ 9218868437227405312) : R (sv x) = rk x := by
  have r := R_mv (mg x) h
  unfold sv rk
  cases ng x
  · simp only [Bool.false_eq_true, if_false]; exact r.1
  · simp only [if_true]; exact r.2
theorem sv_nn {d : Nat} (h : d < 9223372036854775808) : sv d = (mv d : Nat) := by
  unfold sv
  rw [ng_of_lt h, mg_of_lt h]; rfl
/-- a sum with what isn't below nothing, of a number -/
theorem add_nn {b d : Nat} (hb : b < 18446744073709551616) (nb : isN b = false) (hd : d < 9218868437227405312) :
    isN (addB b d) = false ∧ rk (addB b d) = (if mg b < 9218868437227405312 then R (sv b + (mv d : Nat)) else rk b) := by
  have md : mg d = d := mg_of_lt (by omega)
  rcases three b with h | h | h
  · rw [addB_fin b d hb (by omega) h (by omega), sv_nn (d := d) (by omega), if_pos h]
    refine ⟨?_, rk_rn _ _⟩
    rw [isN_false, rn_mg]
    exact Nat.min_le_right _ _
  · rw [addB_some (add_if b d hb h (by omega)), if_neg (by omega)]
    have hw := word_eq b hb
    rw [h] at hw
    cases g : ng b
    · rw [g] at hw
      have hw : b = 9218868437227405312 := by simpa using hw
      subst hw; decide
    · rw [g] at hw
      have hw : b = 18442240474082181120 := by simpa using hw
      subst hw; decide
  · rw [h] at nb; exact absurd nb (by decide)
/-- the level -/
def lvl (b : Nat) (w a : Int) : Nat := addB b (dpB w a)
theorem lvl_lt {b : Nat} {w a : Int} (hb : b < 18446744073709551616) (w2 : w ≤ 9223372036854775807) (a2 : a ≤ 9223372036854775807) : lvl b w a < 18446744073709551616 := addB_lt b _ hb (by have := dp_le w2 a2; omega)
end Go.Proofs.YtpfoohpncbkkfaaDoor

namespace Go.Proofs.YtpfoohpncbkkfaaDoor
open Tf Ieee
/-- Leer above nothing, ahead of the look whether it is finite -/
def leer (a b : Nat) : Nat := dvB (mlB (mlB 4611686018427387904 a) b) (plB a b)
end Go.Proofs.YtpfoohpncbkkfaaDoor

namespace Go.Proofs.YtpfoohpncbkkfaaDoor
open Tf Ieee
theorem near_le (W : Nat) (p : Int) : ∃ r, r ≤ 9218868437227405312 ∧ double.nearest false W p = r := by
  have hlp := d_lp
  by_cases h : double.leastPlace ≤ p
  · obtain ⟨d, hd⟩ : ∃ d : Nat, p = double.leastPlace + (d : Int) := ⟨(p - double.leastPlace).toNat, by omega⟩
    rw [nearest_up double false W d _ hd, d_word, d_inf]
    simp only [Bool.false_eq_true, if_false]
    exact ⟨_, Nat.min_le_right _ _, rfl⟩
  · obtain ⟨d, hd⟩ : ∃ d : Nat, p = double.leastPlace - (d : Int) := ⟨(double.leastPlace - p).toNat, by omega⟩
    rw [hd, nearest_rung double false W d, d_word, d_inf]
    simp only [Bool.false_eq_true, if_false]
    exact ⟨_, Nat.min_le_right _ _, rfl⟩
theorem canon_nn {r : Nat} (h : r ≤ 9218868437227405312) : canonB r = r := by
  have mr : mg r = r := mg_of_lt (by omega)
  unfold canonB
  rw [mr, if_neg (by unfold isN; rw [mr]; simp; omega)]
  split <;> omega
/-- a float that isn't below nothing, as it is read -/
theorem read_nn {x : Nat} (h : x ≤ 9218868437227405312) : double.read x = .infinity false ∨ ∃ m p, double.read x = .number false m p := by
  have mx : mg x = x := mg_of_lt (by omega)
  by_cases c : x = 9218868437227405312
  · subst c
    exact .inl (by decide +kernel)
  · right
    obtain ⟨m, a, h1, -⟩ := read_fin double x (by show mg x < 9218868437227405312; omega)
    have hs : sg double x = false := by
      rw [sg_d x (by omega)]
      exact ng_of_lt (by omega)
    rw [hs] at h1
    exact ⟨m, _, h1⟩
theorem dv_nn {x y : Nat} (hx : x ≤ 9218868437227405312) (hy : y ≤ 9218868437227405312) : dvB x y = quiet ∨ dvB x y ≤ 9218868437227405312 := by
  have key : double.div x y = none ∨ ∃ r, r ≤ 9218868437227405312 ∧ double.div x y = some r := by
    show ((double.read x).quotient 54 (double.read y)).map double.write = none ∨ ∃ r, r ≤ 9218868437227405312 ∧ ((double.read x).quotient 54 (double.read y)).map double.write = some r
    rcases read_nn hx with e1 | ⟨m, p, e1⟩ <;> rcases read_nn hy with e2 | ⟨n, q, e2⟩ <;> rw [e1, e2] <;> unfold Datum.quotient <;> dsimp only
    · exact .inl rfl
    · exact .inr ⟨9218868437227405312, Nat.le_refl _, by decide +kernel⟩
    · obtain ⟨r, r1, r2⟩ := near_le 0 0
      exact .inr ⟨r, r1, by show some (double.nearest false 0 0) = _; rw [r2]⟩
    · by_cases hn : n = 0
      · rw [if_pos hn]
        by_cases hm : m = 0
        · rw [if_pos hm]; exact .inl rfl
        · rw [if_neg hm]; exact .inr ⟨9218868437227405312, Nat.le_refl _, by decide +kernel⟩
      · rw [if_neg hn]
        obtain ⟨r, r1, r2⟩ := near_le (2 * (m <<< (54 + n.log2 - m.log2) / n) + (m <<< (54 + n.log2 - m.log2) % n != 0).toNat) (p - q - ((54 + n.log2 - m.log2 : Nat) : Int) - 1)
        exact .inr ⟨r, r1, by show some (double.nearest false _ _) = _; rw [← r2]⟩
  rcases key with h | ⟨r, r1, h⟩
  · exact .inl (dvB_none h)
  · rw [dvB_some h, canon_nn r1]
    exact .inr r1
theorem ml_nn {x y : Nat} (hx : x ≤ 9218868437227405312) (hy : y ≤ 9218868437227405312) (x0 : 0 < x) (y0 : 0 < y) : mlB x y ≤ 9218868437227405312 := by
  have mx : mg x = x := mg_of_lt (by omega)
  have my : mg y = y := mg_of_lt (by omega)
  have nx : ng x = false := ng_of_lt (by omega)
  have ny : ng y = false := ng_of_lt (by omega)
  have hi : infW (false ^^ false) = 9218868437227405312 := by decide
  by_cases cx : x = 9218868437227405312
  · by_cases cy : y = 9218868437227405312
    · have e := mul_ii x y (by omega) (by omega) (by omega) (by omega)
      rw [mlB_some e, nx, ny, hi]
      exact Nat.le_refl _
    · have e := mul_if x y (by omega) (by omega) (by omega) (by omega)
      rw [if_neg (by omega)] at e
      rw [mlB_some e, nx, ny, hi]
      exact Nat.le_refl _
  · by_cases cy : y = 9218868437227405312
    · have e := mul_fi x y (by omega) (by omega) (by omega) (by omega)
      rw [if_neg (by omega)] at e
      rw [mlB_some e, nx, ny, hi]
      exact Nat.le_refl _
    · rw [ml_word (by omega) (by omega)]
      exact Nat.min_le_right _ _
end Go.Proofs.YtpfoohpncbkkfaaDoor

namespace Go.Proofs.YtpfoohpncbkkfaaDoor
open Tf Ieee
theorem R_pos {v : Int} (h : 0 < v) : 1 ≤ R v := by
  have := R_mono (show (1 : Int) ≤ v by omega)
  rwa [show R 1 = 1 by decide +kernel] at this
theorem R_top (v : Int) : R v ≤ 9218868437227405312 := by
  unfold R
  have := Nat.min_le_right (rung 52 0 v.natAbs) 9218868437227405312
  split <;> omega
/-- how high the level lies above the bed -/
theorem hi_val {l b : Nat} (hl : l < 18446744073709551616) (hb : b < 18446744073709551616) (nl : isN l = false) (nb : isN b = false) (h : rk b < rk l) :
    sbB l b = if mg l < 9218868437227405312 ∧ mg b < 9218868437227405312 then (R (sv l - sv b)).toNat else 9218868437227405312 := by
  have wl := word_eq l hl
  have wb := word_eq b hb
  have hml := isN_false.1 nl
  have hmb := isN_false.1 nb
  unfold sbB
  have hn := negB_lt' hb
  have mn := negB_mg hb
  by_cases c : mg l < 9218868437227405312
  · by_cases d : mg b < 9218868437227405312
    · rw [if_pos ⟨c, d⟩, addB_fin l (negB b) hl hn c (by omega), negB_sv hb, rn_nn]
      · rfl
      · have := (sv_lt_iff b l).2 h
        omega
    · rw [if_neg (by omega), addB_some (add_fi l (negB b) hn c (by omega)), negB_ng hb]
      cases g : ng b
      · exfalso
        have e : rk b = 9218868437227405312 := by unfold rk; rw [g, show mg b = 9218868437227405312 by omega]; rfl
        have := rk_bound l nl
        omega
      · decide
  · rw [if_neg (by omega)]
    have e : mg l = 9218868437227405312 := by omega
    have gl : ng l = false := by
      cases g : ng l
      · rfl
      · exfalso
        have e3 : rk l = -9218868437227405312 := by unfold rk; rw [g, e]; rfl
        have := rk_bound b nb
        omega
    by_cases d : mg b < 9218868437227405312
    · rw [addB_some (add_if l (negB b) hl e (by omega)), gl]; decide
    · have e2 : mg b = 9218868437227405312 := by omega
      have gb : ng b = true := by
        cases g : ng b
        · exfalso
          have e3 : rk b = 9218868437227405312 := by unfold rk; rw [g, e2]; rfl
          have := rk_bound l nl
          omega
        · rfl
      rw [addB_some (r := infW false) (by rw [add_ii l (negB b) hl hn e (by omega), negB_ng hb, gl, gb]; rfl)]
      decide
theorem hi_in {l b : Nat} (hl : l < 18446744073709551616) (hb : b < 18446744073709551616) (nl : isN l = false) (nb : isN b = false) (h : rk b < rk l) : 0 < sbB l b ∧ sbB l b ≤ 9218868437227405312 := by
  rw [hi_val hl hb nl nb h]
  split
  · have := (sv_lt_iff b l).2 h
    have := R_pos (v := sv l - sv b) (by omega)
    have := R_top (sv l - sv b)
    omega
  · omega
theorem ml_mono {x x' f : Nat} (hx : x ≤ x') (hx' : x' ≤ 9218868437227405312) (x0 : 0 < x) (f0 : 0 < f) (f1 : f < 9218868437227405312) : mlB x f ≤ mlB x' f := by
  have u := ml_nn (x := x) (y := f) (by omega) (by omega) x0 f0
  by_cases c : x' = 9218868437227405312
  · subst c
    have e : mlB 9218868437227405312 f = 9218868437227405312 := by
      have mf : mg f = f := mg_of_lt (by omega)
      rw [mlB_some (r := infW false) (by
        have h := mul_if 9218868437227405312 f (by decide) (by omega) (by decide) (by rw [mf]; exact f1)
        rw [h, mf, if_neg (by omega), ng_of_lt (x := f) (by omega)]
        rfl)]
      decide
    rw [e]; exact u
  · rw [ml_word (by omega) f1, ml_word (by omega) f1]
    have := rung_mono (p := 52) (d := 1074) (by omega) (Nat.mul_le_mul_right (mv f) (mv_le.2 hx))
    omega
end Go.Proofs.YtpfoohpncbkkfaaDoor

namespace Go.Proofs.YtpfoohpncbkkfaaDoor
open Tf Ieee
/-- above nothing; below nothing -/
def ps (a : Nat) : Bool := decide (0 < a ∧ a ≤ 9218868437227405312)
theorem nn_N {a : Nat} (h : a ≤ 9218868437227405312) : isN a = false := isN_false.2 (by rw [mg_of_lt (by omega)]; exact h)
/-- Leer above nothing -/
def lr (a b : Nat) : Nat := if leer a b < 9218868437227405312 then leer a b else 0
/-- the slope of two that are above nothing -/
def lm (k : Int) (a b : Nat) : Nat := if k = 1 then min a b else if k = 2 then sbee a b else if k = 3 then lr a b else 0
/-- the opposite; of nothing: nothing -/
def op (x : Nat) : Nat := if x = 0 then 0 else x + 9223372036854775808
end Go.Proofs.YtpfoohpncbkkfaaDoor

namespace Go.Proofs.YtpfoohpncbkkfaaDoor
open Tf Ieee
theorem rn_mv11 {d : Nat} (h : d ≤ 9218868437227405312) : rn false (mv d : Int) = d := by
  rw [rn_nn (Int.natCast_nonneg _), (R_mv d h).1]
  exact Int.toNat_natCast d
theorem sv_z : sv 9223372036854775808 = 0 := by
  have h : sv 9223372036854775808 = -((mv 0 : Nat) : Int) := rfl
  rw [h, show mv 0 = 0 by decide]
  rfl
theorem sb_0r {d : Nat} (h : d < 9218868437227405312) : sbB d 0 = d := by
  have m : mg d = d := mg_of_lt (by omega)
  unfold sbB
  rw [show negB 0 = 9223372036854775808 by decide, addB_fin d _ (by omega) (by decide) (by omega) (by decide), sv_nn (d := d) (by omega), sv_z, Int.add_zero]
  exact rn_mv11 (by omega)
end Go.Proofs.YtpfoohpncbkkfaaDoor

namespace Go.Proofs.YtpfoohpncbkkfaaDoor
open Go.RowKit Tf Cu
theorem arI_top (L : Nat) : 1 ≤ arI L ∧ arI L ≤ 9223372036854775807 := by
  have h : cI .even (arQ L) ≤ 9223372036854775807 := by
    unfold cI
    split
    · rename_i c
      unfold cOk at c
      simp only [Bool.and_eq_true, decide_eq_true_eq] at c
      omega
    · decide
  unfold arI
  omega
/-- the area of a cell -/
def arC (n c : Nat) : Int := arI (ArC n c)
theorem arC_in (n c : Nat) : 1 ≤ arC n c ∧ arC n c ≤ 9223372036854775807 := arI_top _
theorem IsFl.at0 {w : World} {b o len : Nat} {xs : Nat → Nat} (h : IsFl w (some ⟨b, o, none⟩) len xs) {k : Nat} (hk : k < len) : xs k < 18446744073709551616 ∧ b < w.heap.size ∧ w.cell? ⟨b, o + k, none⟩ = some (.float .f64 (xs k)) := by
  obtain ⟨h1, b', o', e, h2, h3⟩ := h k hk
  injection e with e1
  injection e1 with e2 e3
  subst e2 e3
  exact ⟨h1, h2, h3⟩
theorem IsIn.at0 {w : World} {b o len : Nat} {xs : Nat → Int} (h : IsIn w (some ⟨b, o, none⟩) len xs) {k : Nat} (hk : k < len) : xs k ≤ 9223372036854775807 ∧ b < w.heap.size ∧ w.cell? ⟨b, o + k, none⟩ = some (.int .i64 (xs k)) := by
  obtain ⟨h1, b', o', e, h2, h3⟩ := h k hk
  injection e with e1
  injection e1 with e2 e3
  subst e2 e3
  exact ⟨h1.2, h2, h3⟩
theorem inR_nat {e : Int} {N : Nat} (h : inR e (N : Nat) = true) : ∃ E : Nat, e = (E : Int) ∧ E < N := by
  obtain ⟨h1, h2⟩ := inR_iff.1 h
  obtain ⟨E, rfl⟩ := Int.eq_ofNat_of_zero_le h1
  exact ⟨E, rfl, by omega⟩
theorem IsFl.some0 {w : World} {a0 : Option Addr} {len : Nat} {xs : Nat → Nat} (h : IsFl w a0 len xs) (h0 : 0 < len) : ∃ b o, a0 = some ⟨b, o, none⟩ := by
  obtain ⟨_, b, o, e, _⟩ := h 0 h0
  exact ⟨b, o, e⟩
theorem IsIn.some0 {w : World} {a0 : Option Addr} {len : Nat} {xs : Nat → Int} (h : IsIn w a0 len xs) (h0 : 0 < len) : ∃ b o, a0 = some ⟨b, o, none⟩ := by
  obtain ⟨_, b, o, e, _⟩ := h 0 h0
  exact ⟨b, o, e⟩
end Go.Proofs.YtpfoohpncbkkfaaDoor

namespace Go.Proofs.YtpfoohpncbkkfaaDoor
open Go.RowKit Go.Deep
theorem rowIs.fl {w : World} {b n : Nat} {f : Nat → Nat} (h : w.rowIs b 22 n (fun i => .float .f64 (f i))) (hf : ∀ i, i < n → f i < 18446744073709551616) : IsFl w (some ⟨b, 0, none⟩) n f := fun k hk => ⟨hf k hk, b, 0, rfl, h.lt, by rw [Nat.zero_add]; exact h.cell hk⟩
theorem rowIs.in {w : World} {b n : Nat} {f : Nat → Int} (h : w.rowIs b 2 n (fun i => .int .i64 (f i))) (hf : ∀ i, i < n → -9223372036854775808 ≤ f i ∧ f i ≤ 9223372036854775807) : IsIn w (some ⟨b, 0, none⟩) n f := fun k hk => ⟨hf k hk, b, 0, rfl, h.lt, by rw [Nat.zero_add]; exact h.cell hk⟩
end Go.Proofs.YtpfoohpncbkkfaaDoor

namespace Go.Proofs.YtpfoohpncbkkfaaDoor
open Tf Ieee
namespace Fc
theorem dvB_nan' {y l : Nat} (hl : isN l = true) : dvB y l = quiet := by
  refine dvB_none ?_
  rw [isN_true] at hl
  have ei := d_inf
  show ((double.read y).quotient 54 (double.read l)).map double.write = none
  rw [read_nan double l d_he (by rw [rg_d]; omega)]
  cases double.read y <;> rfl
theorem zero_cases {x : Nat} (hx : x < 18446744073709551616) (h : mg x = 0) : x = 0 ∨ x = 9223372036854775808 := by
  unfold mg at h
  omega
theorem dv0 {b : Nat} (hb : b < 18446744073709551616) : dvB 0 b = 0 ∨ dvB 0 b = quiet := by
  by_cases n : isN b = true
  · exact .inr (dvB_nan' n)
  · have n2 : ¬ 9218868437227405312 < mg b := by rw [isN_true] at n; exact n
    by_cases z : mg b = 0
    · rcases zero_cases hb z with rfl | rfl
      · exact .inr (by decide +kernel)
      · exact .inr (by decide +kernel)
    · by_cases i : mg b = 9218868437227405312
      · have : b = 9218868437227405312 ∨ b = 18442240474082181120 := by unfold mg at i; omega
        rcases this with rfl | rfl
        · exact .inl (by decide +kernel)
        · exact .inl (by decide +kernel)
      · exact .inl (dvB_z b z (by omega) 0 (by decide))
/-- a quotient hangs on the numerator's canonical form -/
theorem dvB_cl {a b : Nat} (ha : a < 18446744073709551616) (hb : b < 18446744073709551616) : dvB (canonB a) b = dvB a b := by
  rcases canon_cases ha with ⟨h, e⟩ | ⟨h, e⟩ | ⟨h, k, e⟩
  · rw [e, dvB_nan (y := quiet) (by decide), dvB_nan h]
  · rw [e]
    rcases zero_cases ha h with rfl | rfl
    · rfl
    · have k := dvB_cn (a := 0) (b := b) (by omega)
      rw [show negB 0 = 9223372036854775808 by decide] at k
      rw [k]
      rcases dv0 hb with q | q <;> rw [q] <;> decide
  · rw [e]
theorem dvB_cnn {a b : Nat} (ha : a < 18446744073709551616) (hb : b < 18446744073709551616) : dvB (cn a) b = cn (dvB a b) := by
  unfold cn
  rw [dvB_cl (negB_lt' ha) hb, dvB_cn ha]
  rfl
/-- what the levels pull -/
def puB (G dt ll lr gap : Nat) : Nat := dvB (mlB (mlB G dt) (sbB lr ll)) gap
/-- the speed, pulled -/
def u1B (G dt u ll lr gap : Nat) : Nat := sbB u (puB G dt ll lr gap)
/-- the depth over the edge -/
def hB (dl dr : Nat) : Nat := mlB 4602678819172646912 (addB dl dr)
/-- what the bed drags -/
def drB (D dt u1 h : Nat) : Nat := addB 4607182418800017408 (dvB (mlB (mlB D dt) (mg u1)) h)
/-- within what is fastest -/
def cuB (x : Nat) : Nat := if fgt x 4652218415073722368 = true then 4652218415073722368 else if flt x 13875590451928498176 = true then 13875590451928498176 else if isN x = true then 0 else canonB x
/-- the speed behind a step, of an open edge -/
def spB (G dt D u ll lr dl dr gap : Nat) : Nat := if fgt (hB dl dr) 0 = true then cuB (dvB (u1B G dt u ll lr gap) (drB D dt (u1B G dt u ll lr gap) (hB dl dr))) else 0
/-- whether water can go -/
def opB (wl wr : Int) (ll lr bl br : Nat) : Bool := !((!decide (0 < wl) && !decide (0 < wr)) || (!decide (0 < wl) && (flt lr bl || feq lr bl)) || (!decide (0 < wr) && (flt ll br || feq ll br)))
section
variable {G dt D u ll lr dl dr gap : Nat}
theorem puB_lt (G dt ll lr gap : Nat) : puB G dt ll lr gap < 18446744073709551616 := dvB_lt _ _
theorem u1B_lt (hu : u < 18446744073709551616) : u1B G dt u ll lr gap < 18446744073709551616 := sbB_lt hu (puB_lt _ _ _ _ _)
theorem u1B_can (hu : u < 18446744073709551616) : canonB (u1B G dt u ll lr gap) = u1B G dt u ll lr gap := canon_sbB hu (puB_lt _ _ _ _ _)
theorem hB_lt (h1 : dl < 18446744073709551616) (h2 : dr < 18446744073709551616) : hB dl dr < 18446744073709551616 := mlB_lt (by omega) (addB_lt _ _ h1 h2)
theorem hB_comm (h1 : dl < 18446744073709551616) (h2 : dr < 18446744073709551616) : hB dr dl = hB dl dr := by unfold hB; rw [addB_comm _ _ h2 h1]
theorem mg_lt64 (x : Nat) : mg x < 18446744073709551616 := by unfold mg; omega
theorem drB_lt (D dt u1 h : Nat) : drB D dt u1 h < 18446744073709551616 := addB_lt _ _ (by omega) (dvB_lt _ _)
theorem mg_cn {x : Nat} (hx : x < 18446744073709551616) (c : canonB x = x) : mg (cn x) = mg x := by
  rcases canon_cases hx with ⟨h, e⟩ | ⟨h, e⟩ | ⟨h, k, e⟩
  · rw [← c, e]; decide
  · rw [← c, e]; decide
  · unfold cn canonB
    rw [negB_isN hx, h, negB_mg hx, if_neg (by decide), if_neg k, negB_mg hx]
theorem puB_sw (hG : G < 18446744073709551616) (ht : dt < 18446744073709551616) (h1 : ll < 18446744073709551616) (h2 : lr < 18446744073709551616) (hg : gap < 18446744073709551616) : puB G dt lr ll gap = cn (puB G dt ll lr gap) := by
  have hk := mlB_lt hG ht
  have hd := sbB_lt h2 h1
  unfold puB
  rw [sbB_sw h2 h1, ← dvB_cl (mlB_lt hk (cn_lt hd)) hg, mlB_cn' hk hd, dvB_cnn (mlB_lt hk hd) hg]
theorem u1B_sw (hG : G < 18446744073709551616) (ht : dt < 18446744073709551616) (hu : u < 18446744073709551616) (h1 : ll < 18446744073709551616) (h2 : lr < 18446744073709551616) (hg : gap < 18446744073709551616) : u1B G dt (negB u) lr ll gap = cn (u1B G dt u ll lr gap) := by
  unfold u1B
  rw [puB_sw hG ht h1 h2 hg, ← sbB_canon (negB_lt' hu) (cn_lt (puB_lt _ _ _ _ _)), canon_cn]
  exact sbB_cn hu (puB_lt _ _ _ _ _)
theorem rk_cn {x : Nat} (hx : x < 18446744073709551616) (n : isN x = false) : rk (cn x) = -rk x ∧ isN (cn x) = false := by
  have r := rk_negB x hx
  rcases canon_cases (negB_lt' hx) with ⟨h, e⟩ | ⟨h, e⟩ | ⟨h, k, e⟩
  · rw [negB_isN hx, n] at h; cases h
  · rw [negB_mg hx] at h
    have z : rk x = 0 := by unfold rk; rw [h]; split <;> rfl
    unfold cn
    rw [e, z]
    exact ⟨by decide, by decide⟩
  · unfold cn
    rw [e]
    exact ⟨r, h⟩
theorem rk_1024 : rk 4652218415073722368 = 4652218415073722368 ∧ rk 13875590451928498176 = -4652218415073722368 ∧ isN 4652218415073722368 = false ∧ isN 13875590451928498176 = false := by decide
/-- what cut answers, by order -/
theorem cuB_cases {x : Nat} (hx : x < 18446744073709551616) : (isN x = true ∧ cuB x = 0) ∨ (isN x = false ∧ 4652218415073722368 < rk x ∧ cuB x = 4652218415073722368) ∨ (isN x = false ∧ rk x < -4652218415073722368 ∧ cuB x = 13875590451928498176) ∨ (isN x = false ∧ -4652218415073722368 ≤ rk x ∧ rk x ≤ 4652218415073722368 ∧ cuB x = canonB x) := by
  have g := fgt_rk x 4652218415073722368 hx (by omega)
  have l := flt_rk x 13875590451928498176 hx (by omega)
  rw [rk_1024.1, rk_1024.2.2.1] at g
  rw [rk_1024.2.1, rk_1024.2.2.2] at l
  unfold cuB
  cases n : isN x with
  | true =>
    rw [n] at g l
    simp at g l
    left
    rw [g, l]
    simp
  | false =>
    rw [n] at g l
    simp at g l
    right
    by_cases c1 : 4652218415073722368 < rk x
    · left
      have : fgt x 4652218415073722368 = true := by rw [g]; exact decide_eq_true c1
      rw [this]
      exact ⟨rfl, c1, by simp⟩
    · have e1 : fgt x 4652218415073722368 = false := by rw [g]; exact decide_eq_false c1
      right
      by_cases c2 : rk x < -4652218415073722368
      · left
        have e2 : flt x 13875590451928498176 = true := by rw [l]; exact decide_eq_true c2
        rw [e1, e2]
        exact ⟨rfl, c2, by simp⟩
      · right
        have e2 : flt x 13875590451928498176 = false := by rw [l]; exact decide_eq_false c2
        rw [e1, e2]
        exact ⟨rfl, by omega, by omega, by simp⟩
theorem cuB_cn {x : Nat} (hx : x < 18446744073709551616) : cuB (cn x) = cn (cuB x) := by
  cases n : isN x with
  | true =>
    have n2 : isN (cn x) = true := by unfold cn; exact isN_canon (by rw [negB_isN hx]; exact n)
    rcases cuB_cases hx with ⟨_, e⟩ | ⟨h, _⟩ | ⟨h, _⟩ | ⟨h, _⟩
    · rw [e]
      rcases cuB_cases (cn_lt hx) with ⟨_, e'⟩ | ⟨h, _⟩ | ⟨h, _⟩ | ⟨h, _⟩
      · rw [e']; decide
      · rw [n2] at h; cases h
      · rw [n2] at h; cases h
      · rw [n2] at h; cases h
    · rw [n] at h; cases h
    · rw [n] at h; cases h
    · rw [n] at h; cases h
  | false =>
    obtain ⟨r, n2⟩ := rk_cn hx n
    rcases cuB_cases hx with ⟨h, _⟩ | ⟨_, h, e⟩ | ⟨_, h, e⟩ | ⟨_, h1, h2, e⟩
    · rw [n] at h; cases h
    · rcases cuB_cases (cn_lt hx) with ⟨h', _⟩ | ⟨_, h', e'⟩ | ⟨_, h', e'⟩ | ⟨_, h', _, e'⟩
      · rw [n2] at h'; cases h'
      · omega
      · rw [e, e']; decide
      · omega
    · rcases cuB_cases (cn_lt hx) with ⟨h', _⟩ | ⟨_, h', e'⟩ | ⟨_, h', e'⟩ | ⟨_, h', h'', e'⟩
      · rw [n2] at h'; cases h'
      · rw [e, e']; decide
      · omega
      · omega
    · rcases cuB_cases (cn_lt hx) with ⟨h', _⟩ | ⟨_, h', e'⟩ | ⟨_, h', e'⟩ | ⟨_, h', h'', e'⟩
      · rw [n2] at h'; cases h'
      · omega
      · omega
      · rw [e, e', canon_cn, cn_canon hx]
/-- both cells exchanged -/
theorem spB_mirror (hG : G < 18446744073709551616) (ht : dt < 18446744073709551616) (hu : u < 18446744073709551616) (h1 : ll < 18446744073709551616) (h2 : lr < 18446744073709551616) (h3 : dl < 18446744073709551616) (h4 : dr < 18446744073709551616) (hg : gap < 18446744073709551616) :
    spB G dt D (negB u) lr ll dr dl gap = cn (spB G dt D u ll lr dl dr gap) := by
  unfold spB
  rw [hB_comm h3 h4, u1B_sw hG ht hu h1 h2 hg]
  have b := u1B_lt (G := G) (dt := dt) (ll := ll) (lr := lr) (gap := gap) hu
  have c := u1B_can (G := G) (dt := dt) (ll := ll) (lr := lr) (gap := gap) hu
  generalize u1B G dt u ll lr gap = x at *
  have e : drB D dt (cn x) (hB dl dr) = drB D dt x (hB dl dr) := by unfold drB; rw [mg_cn b c]
  by_cases q : fgt (hB dl dr) 0 = true
  · rw [if_pos q, if_pos q, e, dvB_cnn b (drB_lt _ _ _ _), cuB_cn (dvB_lt _ _)]
  · rw [if_neg q, if_neg q]
    decide
end
end Fc
end Go.Proofs.YtpfoohpncbkkfaaDoor

namespace Go.Proofs.YtpfoohpncbkkfaaDoor
open Tf Ieee
namespace Fc
theorem read_b {x : Nat} (h : x < 9218868437227405312) : ∃ m a : Nat, double.read x = .number false m (double.leastPlace + a) ∧ m * 2 ^ a = mv x ∧ m < 9007199254740992 := by
  have mx : mg x = x := mg_of_lt (by omega)
  have nx : ng x = false := ng_of_lt (by omega)
  by_cases c : 4503599627370496 ≤ x
  · have e := read_norm (x := x) (by omega) (by omega)
    rw [mx, sgn_ng (by omega), nx] at e
    refine ⟨_, _, e, ?_, by have := Nat.mod_lt x (show 4503599627370496 > 0 by omega); omega⟩
    have e52 : (2 : Nat) ^ 52 = 4503599627370496 := by decide
    unfold mv mag
    rw [e52, if_neg (by omega)]
  · obtain ⟨m, a, e, k⟩ := read_fin double x (by rw [rg_d, mx, d_inf]; exact h)
    have hs : sg double x = false := by rw [sg_d x (by omega)]; exact nx
    rw [hs] at e
    rw [rg_d, mx] at k
    have k2 : m * 2 ^ a = mv x := k
    refine ⟨m, a, e, k2, ?_⟩
    have e52 : (2 : Nat) ^ 52 = 4503599627370496 := by decide
    have q : mv x = x := by unfold mv mag; rw [e52, if_pos (by omega)]
    have : m ≤ m * 2 ^ a := Nat.le_mul_of_pos_right _ (Nat.two_pow_pos a)
    omega
/-- the quotient twice, and one more where that isn't all, against a whole number -/
theorem quo_up {N n T : Nat} (hn : 0 < n) (h : N ≤ n * T) : 2 * (N / n) + (N % n != 0).toNat ≤ 2 * T := by
  have hdm := Nat.div_add_mod N n
  have hml := Nat.mod_lt N hn
  have hc : (N % n != 0).toNat ≤ 1 := by cases (N % n != 0) <;> decide
  have hq : N / n ≤ T := Nat.div_le_of_le_mul h
  rcases Nat.lt_or_ge (N / n) T with k | k
  · omega
  · have e : N / n = T := by omega
    have z : N % n = 0 := by rw [e] at hdm; omega
    rw [z]
    simp
    omega
/-- the nearest word to no more than a number's -/
theorem near_x {W a E m : Nat} {x : Nat} (hm : m * 2 ^ a = mv x) (hW : W ≤ m * 2 ^ E) (p : Int) (hp : p = double.leastPlace + (a : Int) - (E : Int)) : ∃ r, r ≤ x ∧ double.nearest false W p = r := by
  have hfb : double.fractionBits = 52 := rfl
  have w0 : ∀ r, wd false r = r := fun r => rfl
  by_cases c : E ≤ a
  · obtain ⟨d, hd⟩ : ∃ d, E + d = a := ⟨a - E, by omega⟩
    have e1 := nearest_up double false W d p (by rw [hp]; omega)
    rw [hfb, d_inf, wd_word, w0] at e1
    have h1 : rung 52 0 (W * 2 ^ d) ≤ x := rung_le2 (by
      rw [Nat.pow_zero, Nat.mul_one, ← hm, ← hd, Nat.pow_add, ← Nat.mul_assoc]
      exact Nat.mul_le_mul_right _ hW)
    exact ⟨_, Nat.le_trans (Nat.min_le_left _ _) h1, e1⟩
  · obtain ⟨d, hd⟩ : ∃ d, a + d = E := ⟨E - a, by omega⟩
    have e1 := nearest_rung double false W d
    rw [hfb, d_inf, wd_word, w0] at e1
    have h1 : rung 52 d W ≤ x := rung_le2 (by
      rw [← hm, Nat.mul_assoc, ← Nat.pow_add, hd]
      exact hW)
    have e2 : p = double.leastPlace - (d : Int) := by rw [hp]; omega
    rw [← e2] at e1
    exact ⟨_, Nat.le_trans (Nat.min_le_left _ _) h1, e1⟩
theorem log_le {m : Nat} (h : m < 9007199254740992) : m.log2 ≤ 52 := by
  by_cases c : m = 0
  · subst c; decide
  · have : m.log2 < 53 := (Nat.log2_lt c).2 h
    omega
theorem key_nat {m n A B S T : Nat} (hA : 0 < A) (h : A * T = B * S) (k : A ≤ n * B) : m * S ≤ n * (m * T) := by
  refine Nat.le_of_mul_le_mul_right (c := A) ?_ hA
  have e1 : n * (m * T) * A = m * (n * B) * S := by
    have : n * (m * T) * A = n * m * (A * T) := by ac_rfl
    rw [this, h]
    ac_rfl
  rw [e1, Nat.mul_assoc m, Nat.mul_assoc m]
  refine Nat.mul_le_mul_left m ?_
  rw [Nat.mul_comm S A]
  exact Nat.mul_le_mul_right _ k
/-- A NUMBER OVER ONE THAT IS NO LESS THAN 1 -/
theorem dv_le {x d : Nat} (hx : x < 9218868437227405312) (d1 : 4607182418800017408 ≤ d) (d2 : d < 9218868437227405312) : dvB x d ≤ x := by
  obtain ⟨m, a, ex, vx, mb⟩ := read_b hx
  obtain ⟨n, b, ed, vd, nb⟩ := read_b d2
  have hK := lp_K
  have vd1 : 2 ^ K ≤ n * 2 ^ b := by
    rw [vd, ← mv_ONE]
    exact mv_le.2 d1
  have hn : n ≠ 0 := by
    intro h
    rw [h, Nat.zero_mul] at vd1
    have := Nat.two_pow_pos K
    omega
  have ln := Nat.lt_log2_self (n := n)
  have lm := log_le mb
  have kb : K ≤ n.log2 + b := by
    have h : 2 ^ K < 2 ^ (n.log2 + 1 + b) := by
      rw [Nat.pow_add]
      exact Nat.lt_of_le_of_lt vd1 (Nat.mul_lt_mul_of_pos_right ln (Nat.two_pow_pos b))
    have := (Nat.pow_lt_pow_iff_right (by omega)).1 h
    omega
  obtain ⟨s, hs⟩ : ∃ s, 54 + n.log2 - m.log2 = s := ⟨_, rfl⟩
  obtain ⟨t, ht⟩ : ∃ t, K + t = b + s := ⟨b + s - K, by omega⟩
  have key : m <<< s ≤ n * (m * 2 ^ t) := by
    rw [Nat.shiftLeft_eq]
    refine key_nat (A := 2 ^ K) (B := 2 ^ b) (Nat.two_pow_pos K) ?_ vd1
    rw [← Nat.pow_add, ← Nat.pow_add, ht]
  have hW := quo_up (Nat.pos_of_ne_zero hn) key
  have hW2 : 2 * (m <<< s / n) + (m <<< s % n != 0).toNat ≤ m * 2 ^ (t + 1) := by
    rw [Nat.pow_succ]
    generalize 2 ^ t = z at *
    have : m * (z * 2) = 2 * (m * z) := by ac_rfl
    omega
  obtain ⟨r, r1, r2⟩ := near_x vx hW2 (double.leastPlace + (a : Int) - (double.leastPlace + (b : Int)) - (s : Int) - 1) (by rw [hK]; omega)
  have e : double.div x d = some r := by
    show ((double.read x).quotient 54 (double.read d)).map double.write = _
    rw [ex, ed]
    unfold Datum.quotient
    dsimp only
    rw [if_neg hn, hs]
    show some (double.nearest false _ _) = _
    rw [← r2]
  rw [dvB_some e, canon_nn (by omega)]
  exact r1
end Fc
end Go.Proofs.YtpfoohpncbkkfaaDoor

namespace Go.Proofs.YtpfoohpncbkkfaaDoor
open Tf Ieee
theorem infW_form (s : Bool) : infW s = if s = true then 9223372036854775808 + 9218868437227405312 else 9218868437227405312 := by cases s <;> rfl
/-- a product's magnitude hangs on the magnitudes alone, its sign on the signs -/
theorem mul_form (a b : Nat) (_ha : a < 18446744073709551616) (hb : b < 18446744073709551616) :
    (∀ s, s < 18446744073709551616 → mg s = mg a → double.mul s b = none) ∨
    ∃ m, m ≤ 9218868437227405312 ∧ ∀ s, s < 18446744073709551616 → mg s = mg a → double.mul s b = some (if (ng s ^^ ng b) = true then 9223372036854775808 + m else m) := by
  rcases three b with kb | kb | kb
  · rcases three a with ka | ka | ka
    · refine .inr ⟨min (rung 52 1074 (mv (mg a) * mv (mg b))) 9218868437227405312, Nat.min_le_right _ _, fun s hs e => ?_⟩
      rw [mul_d s b hs hb (by omega) kb, e]
    · by_cases z : mg b = 0
      · refine .inl fun s hs e => ?_
        rw [mul_if s b hs hb (by omega) kb, if_pos z]
      · refine .inr ⟨9218868437227405312, Nat.le_refl _, fun s hs e => ?_⟩
        rw [mul_if s b hs hb (by omega) kb, if_neg z, infW_form]
    · refine .inl fun s hs e => mul_nan s b (.inl ?_)
      rw [isN_true] at ka ⊢
      omega
  · rcases three a with ka | ka | ka
    · by_cases z : mg a = 0
      · refine .inl fun s hs e => ?_
        rw [mul_fi s b hs hb (by omega) kb, if_pos (by omega)]
      · refine .inr ⟨9218868437227405312, Nat.le_refl _, fun s hs e => ?_⟩
        rw [mul_fi s b hs hb (by omega) kb, if_neg (by omega), infW_form]
    · refine .inr ⟨9218868437227405312, Nat.le_refl _, fun s hs e => ?_⟩
      rw [mul_ii s b hs hb (by omega) kb, infW_form]
    · refine .inl fun s hs e => mul_nan s b (.inl ?_)
      rw [isN_true] at ka ⊢
      omega
  · exact .inl fun s _ _ => mul_nan s b (.inr kb)
theorem form_ng (s : Bool) {m : Nat} (h : m ≤ 9218868437227405312) : ng (if s = true then 9223372036854775808 + m else m) = s ∧ mg (if s = true then 9223372036854775808 + m else m) = m ∧ (if s = true then 9223372036854775808 + m else m) < 18446744073709551616 ∧ isN (if s = true then 9223372036854775808 + m else m) = false := by
  cases s
  · simp only [Bool.false_eq_true, if_false]
    have e : mg m = m := mg_of_lt (by omega)
    exact ⟨ng_of_lt (by omega), e, by omega, isN_false.2 (by omega)⟩
  · simp only [if_true]
    have e : mg (9223372036854775808 + m) = m := by unfold mg; omega
    exact ⟨ng_of_ge (by omega), e, by omega, isN_false.2 (by omega)⟩
/-- opposites: both NaN, or the one the other's opposite -/
def Opp (x y : Nat) : Prop := (isN x = true ∧ isN y = true) ∨ (isN x = false ∧ y = negB x)
theorem negB_form (s : Bool) {m : Nat} (h : m ≤ 9218868437227405312) : negB (if s = true then 9223372036854775808 + m else m) = if (!s) = true then 9223372036854775808 + m else m := by
  unfold negB
  rw [(form_ng s h).1]
  cases s
  · simp only [Bool.false_eq_true, if_false, Bool.not_false, if_true]; omega
  · simp only [if_true, Bool.not_true, Bool.false_eq_true, if_false]; omega
theorem Opp.mul {x y b : Nat} (hx : x < 18446744073709551616) (hb : b < 18446744073709551616) (hy : y < 18446744073709551616) (h : Opp x y) : Opp (mlB x b) (mlB y b) := by
  rcases h with ⟨n1, n2⟩ | ⟨n1, rfl⟩
  · refine .inl ⟨?_, ?_⟩
    · rw [mlB_none (mul_nan x b (.inl n1))]; decide
    · rw [mlB_none (mul_nan y b (.inl n2))]; decide
  · rcases mul_form x b hx hb with h | ⟨m, hm, h⟩
    · refine .inl ⟨?_, ?_⟩
      · rw [mlB_none (h x hx rfl)]; decide
      · rw [mlB_none (h _ hy (negB_mg hx))]; decide
    · refine .inr ⟨?_, ?_⟩
      · rw [mlB_some (h x hx rfl)]; exact (form_ng _ hm).2.2.2
      · rw [mlB_some (h x hx rfl), mlB_some (h _ hy (negB_mg hx)), negB_form _ hm, negB_ng hx]
        cases ng x <;> cases ng b <;> rfl
/-- not below nothing, or a NaN -/
def Nnn (x : Nat) : Prop := isN x = true ∨ ng x = false
theorem Nnn.mul {x b : Nat} (hx : x < 18446744073709551616) (hb : b < 18446744073709551616) (h : Nnn x) (k : Nnn b) : Nnn (mlB x b) := by
  rcases h with h | h
  · left; rw [mlB_none (mul_nan x b (.inl h))]; decide
  · rcases k with k | k
    · left; rw [mlB_none (mul_nan x b (.inr k))]; decide
    · rcases mul_form x b hx hb with e | ⟨m, hm, e⟩
      · left; rw [mlB_none (e x hx rfl)]; decide
      · right; rw [mlB_some (e x hx rfl), (form_ng _ hm).1, h, k]; rfl
/-- nothing, or a NaN -/
def Zn (x : Nat) : Prop := isN x = true ∨ mg x = 0
theorem Zn.mul {x b : Nat} (hx : x < 18446744073709551616) (hb : b < 18446744073709551616) (h : Zn x) : Zn (mlB x b) := by
  rcases h with h | h
  · left; rw [mlB_none (mul_nan x b (.inl h))]; decide
  · rcases three b with k | k | k
    · right
      have e : mv (mg x) * mv (mg b) = 0 := by rw [h, mv_zero, Nat.zero_mul]
      have r : rung 52 1074 0 = 0 := by decide +kernel
      rw [mlB_some (mul_d x b hx hb (by omega) k), e, r, Nat.zero_min]
      cases (ng x ^^ ng b) <;> decide
    · left; rw [mlB_none (by rw [mul_fi x b hx hb (by omega) k, if_pos h])]; decide
    · left; rw [mlB_none (mul_nan x b (.inr k))]; decide
section
variable {u d l t : Nat} (hu : u < 18446744073709551616) (hd : d < 18446744073709551616) (hl : l < 18446744073709551616) (ht : t < 18446744073709551616)
end
theorem rk_split (x : Nat) (hx : x < 18446744073709551616) (nx : isN x = false) : ∃ p, p ≤ 9218868437227405312 ∧ ((x = p ∧ rk x = p) ∨ (x = p + 9223372036854775808 ∧ rk x = -(p : Int))) := by
  have f := isN_false.1 nx
  refine ⟨mg x, f, ?_⟩
  cases g : ng x
  · have l := lt_of_ng g
    have e : mg x = x := mg_of_lt l
    exact .inl ⟨e.symm, by rw [rk_pos x l, e]⟩
  · have l := ge_of_ng g
    have e : x = mg x + 9223372036854775808 := by unfold mg; omega
    exact .inr ⟨e, by unfold rk; rw [g]; rfl⟩
theorem rk_both (m : Nat) (h : m ≤ 9218868437227405312) : rk m = (m : Int) ∧ rk (m + 9223372036854775808) = -(m : Int) ∧ isN m = false ∧ isN (m + 9223372036854775808) = false := by
  have e : mg (m + 9223372036854775808) = m := by unfold mg; omega
  refine ⟨rk_pos _ (by omega), ?_, nn_N h, isN_false.2 (by omega)⟩
  unfold rk
  rw [ng_of_ge (by omega), e]
  rfl
theorem mlB_0l {y : Nat} (y1 : y < 9218868437227405312) : mlB 0 y = 0 := by
  have e : mv (mg 0) * mv (mg y) = 0 := by rw [show mg 0 = 0 from rfl, mv_zero, Nat.zero_mul]
  have r : rung 52 1074 0 = 0 := by decide +kernel
  rw [mlB_some (mul_d 0 y (by decide) (by omega) (by decide) (by rw [mg_of_lt (by omega)]; exact y1)), e, r, Nat.zero_min, ng_of_lt (x := y) (by omega)]
  rfl
theorem mlB_le {y : Nat} (y0 : 0 < y) (y1 : y < 9218868437227405312) (p q : Nat) (hp : p ≤ 9218868437227405312) (hq : q ≤ p) : mlB q y ≤ mlB p y := by
  by_cases c2 : q = 0
  · rw [c2, mlB_0l y1]; exact Nat.zero_le _
  · exact ml_mono hq hp (by omega) y0 y1
end Go.Proofs.YtpfoohpncbkkfaaDoor

namespace Go.Proofs.YtpfoohpncbkkfaaDoor
open Tf Ieee
namespace Fc
/-- nothing, or none -/
def Zq (x : Nat) : Prop := x = 0 ∨ x = quiet
theorem cu_zq {x : Nat} (h : Zq x) : cuB x = 0 := by rcases h with rfl | rfl <;> decide
theorem cn_cn {p : Nat} (h : p ≤ 9218868437227405312) : cn (cn p) = p := by
  have hp : p < 18446744073709551616 := by omega
  unfold cn
  have c : canonB p = p := canon_nn h
  rcases canon_cases (negB_lt' hp) with ⟨k, e⟩ | ⟨k, e⟩ | ⟨k, k2, e⟩
  · rw [negB_isN hp] at k
    rw [isN_true, mg_of_lt (show p < 9223372036854775808 by omega)] at k
    omega
  · rw [e]
    rw [negB_mg hp, mg_of_lt (show p < 9223372036854775808 by omega)] at k
    rw [k]
    decide
  · rw [e, negB_negB' hp, c]
theorem sb_0l {p : Nat} (h : p ≤ 9218868437227405312) : sbB 0 (cn p) = p := by
  have hp : p < 18446744073709551616 := by omega
  have e1 := sbB_cn (a := 0) (b := p) (by omega) hp
  rw [show cn 0 = 0 by decide] at e1
  rw [e1, sbB_sw hp (show 0 < 18446744073709551616 by omega)]
  have e2 : sbB p 0 = p := by
    rcases Nat.lt_or_ge p 9218868437227405312 with k | k
    · exact sb_0r k
    · have : p = 9218868437227405312 := by omega
      subst this
      decide
  rw [e2, cn_cn h]
theorem sb_0q : sbB 0 (cn quiet) = quiet := by decide
theorem cu_nn {x : Nat} (h : x ≤ 9218868437227405312) : cuB x = min x 4652218415073722368 := by
  have r : rk x = (x : Int) := (rk_both x h).1
  have n : isN x = false := (rk_both x h).2.2.1
  rcases cuB_cases (x := x) (by omega) with ⟨k, _⟩ | ⟨_, k, e⟩ | ⟨_, k, e⟩ | ⟨_, k1, k2, e⟩
  · rw [n] at k; cases k
  · rw [e]; omega
  · omega
  · rw [e, canon_nn h]; omega
/-- a number over 1 -/
theorem dv_1 {x : Nat} (hx : x < 9218868437227405312) : dvB x 4607182418800017408 = x := by
  obtain ⟨m, a, ex, vx, mb⟩ := read_b hx
  have ed := read_norm (x := 4607182418800017408) (by decide) (by decide)
  rw [sgn_ng (by decide), show ng 4607182418800017408 = false by decide, show mg 4607182418800017408 = 4607182418800017408 by decide, show (4503599627370496 + 4607182418800017408 % 4503599627370496 : Nat) = 4503599627370496 by decide, show (4607182418800017408 / 4503599627370496 - 1 : Nat) = 1022 by decide] at ed
  have hK := lp_K
  have kv := K_eq
  have lm := log_le mb
  obtain ⟨t, ht⟩ : ∃ t, 54 + 52 - m.log2 = 52 + t := ⟨54 - m.log2, by omega⟩
  have l52 : (4503599627370496 : Nat).log2 = 52 := by decide
  have q1 : m <<< (52 + t) / 4503599627370496 = m * 2 ^ t := by
    rw [Nat.shiftLeft_eq, Nat.pow_add, show (2 : Nat) ^ 52 = 4503599627370496 by decide, Nat.mul_comm 4503599627370496, ← Nat.mul_assoc, Nat.mul_div_cancel _ (by omega)]
  have q2 : m <<< (52 + t) % 4503599627370496 = 0 := by
    rw [Nat.shiftLeft_eq, Nat.pow_add, show (2 : Nat) ^ 52 = 4503599627370496 by decide, Nat.mul_comm 4503599627370496, ← Nat.mul_assoc, Nat.mul_mod_left]
  have hW : 2 * (m <<< (52 + t) / 4503599627370496) + (m <<< (52 + t) % 4503599627370496 != 0).toNat = m * 2 ^ (t + 1) := by
    rw [q1, q2, Nat.pow_succ]
    simp
    generalize 2 ^ t = z
    rw [Nat.mul_left_comm, Nat.mul_comm z 2, Nat.mul_left_comm]
  have near : double.nearest false (m * 2 ^ (t + 1)) (double.leastPlace + (a : Int) - (double.leastPlace + ((1022 : Nat) : Int)) - ((52 + t : Nat) : Int) - 1) = x := by
    have hfb : double.fractionBits = 52 := rfl
    have w0 : ∀ r, wd false r = r := fun r => rfl
    have p0 : double.leastPlace + (a : Int) - (double.leastPlace + ((1022 : Nat) : Int)) - ((52 + t : Nat) : Int) - 1 = double.leastPlace + (a : Int) - ((t + 1 : Nat) : Int) := by rw [hK, kv]; omega
    rw [p0]
    by_cases c : t + 1 ≤ a
    · obtain ⟨d, hd⟩ : ∃ d, t + 1 + d = a := ⟨a - (t + 1), by omega⟩
      have e1 := nearest_up double false (m * 2 ^ (t + 1)) d (double.leastPlace + (a : Int) - ((t + 1 : Nat) : Int)) (by omega)
      rw [hfb, d_inf, wd_word, w0, Nat.mul_assoc, ← Nat.pow_add, hd, vx] at e1
      rw [e1, show rung 52 0 (mv x) = x from rung_mag0 52 x (by omega)]
      omega
    · obtain ⟨d, hd⟩ : ∃ d, a + d = t + 1 := ⟨t + 1 - a, by omega⟩
      have e1 := nearest_rung double false (m * 2 ^ (t + 1)) d
      rw [hfb, d_inf, wd_word, w0, ← hd, Nat.pow_add, ← Nat.mul_assoc, vx] at e1
      rw [show double.leastPlace + (a : Int) - ((t + 1 : Nat) : Int) = double.leastPlace - (d : Int) by omega, ← hd, Nat.pow_add, ← Nat.mul_assoc, vx, e1, show rung 52 d (mv x * 2 ^ d) = x from rung_mag 52 d x (by omega)]
      omega
  have e : double.div x 4607182418800017408 = some x := by
    show ((double.read x).quotient 54 (double.read 4607182418800017408)).map double.write = _
    rw [ex, ed]
    unfold Datum.quotient
    dsimp only
    rw [if_neg (by decide), l52, ht, hW]
    show some (double.nearest false _ _) = _
    rw [near]
  rw [dvB_some e, canon_nn (by omega)]
/-- a number over the infinity, and the infinity over a number -/
theorem dv_xi {x : Nat} (hx : x < 9218868437227405312) : dvB x 9218868437227405312 = 0 := by
  obtain ⟨m, a, ex, vx, mb⟩ := read_b hx
  have e : double.div x 9218868437227405312 = some 0 := by
    show ((double.read x).quotient 54 (double.read 9218868437227405312)).map double.write = _
    rw [ex, show double.read 9218868437227405312 = .infinity false by decide +kernel]
    unfold Datum.quotient
    dsimp only
    decide +kernel
  rw [dvB_some e]
  decide
theorem dv_ix {h : Nat} (h1 : h < 9218868437227405312) : dvB 9218868437227405312 h = 9218868437227405312 := by
  obtain ⟨m, a, ex, vx, mb⟩ := read_b h1
  have e : double.div 9218868437227405312 h = some 9218868437227405312 := by
    show ((double.read 9218868437227405312).quotient 54 (double.read h)).map double.write = _
    rw [ex, show double.read 9218868437227405312 = .infinity false by decide +kernel]
    unfold Datum.quotient
    dsimp only
    decide +kernel
  rw [dvB_some e]
  decide
theorem ml_xi {k : Nat} (k0 : 0 < k) (k1 : k < 9218868437227405312) : mlB k 9218868437227405312 = 9218868437227405312 := by
  have m : mg k = k := mg_of_lt (by omega)
  have e := mul_fi k 9218868437227405312 (by omega) (by decide) (by omega) (by decide)
  rw [if_neg (by omega), ng_of_lt (x := k) (by omega)] at e
  rw [mlB_some e]
  decide
theorem ml_0i : mlB 0 9218868437227405312 = quiet := by decide +kernel
theorem add_1 {y : Nat} (h : y ≤ 9218868437227405312) : 4607182418800017408 ≤ addB 4607182418800017408 y ∧ addB 4607182418800017408 y ≤ 9218868437227405312 := by
  rcases Nat.lt_or_ge y 9218868437227405312 with k | k
  · obtain ⟨n, r⟩ := add_nn (b := 4607182418800017408) (d := y) (by decide) (by decide) k
    rw [if_pos (by decide)] at r
    have l := addB_lt 4607182418800017408 y (by decide) (by omega)
    have mono : R (sv 4607182418800017408) ≤ R (sv 4607182418800017408 + (mv y : Nat)) := R_mono (by omega)
    rw [R_sv11 (by decide), show rk 4607182418800017408 = 4607182418800017408 by decide] at mono
    rw [← r] at mono
    obtain ⟨p, p1, ⟨e, q⟩ | ⟨e, q⟩⟩ := rk_split _ l n
    · rw [q] at mono
      rw [e]
      omega
    · omega
  · have : y = 9218868437227405312 := by omega
    subst this
    decide
theorem ml_small {D dt : Nat} (D1 : D ≤ 4652218415073722368) (t0 : 0 < dt) (t1 : dt ≤ 4652218415073722368) : mlB D dt ≤ 4697254411347427328 := by
  have a := mlB_le (y := dt) t0 (by omega) 4652218415073722368 D (by omega) D1
  have b := mlB_le (y := 4652218415073722368) (by omega) (by omega) 4652218415073722368 dt (by omega) t1
  rw [mlB_comm dt] at b
  have c : mlB 4652218415073722368 4652218415073722368 = 4697254411347427328 := by decide +kernel
  omega
theorem ml_nq {k e : Nat} (k1 : k < 9218868437227405312) (e1 : e ≤ 9218868437227405312) : mlB k e = quiet ∨ mlB k e ≤ 9218868437227405312 := by
  by_cases z : k = 0
  · subst z
    rcases Nat.lt_or_ge e 9218868437227405312 with h | h
    · right; rw [mlB_0l h]; omega
    · have : e = 9218868437227405312 := by omega
      subst this
      exact .inl ml_0i
  · by_cases z2 : e = 0
    · subst z2
      right
      rw [mlB_comm, mlB_0l k1]
      omega
    · exact .inr (ml_nn (by omega) e1 (by omega) (by omega))
theorem dv_nq {z h : Nat} (hz : z = quiet ∨ z ≤ 9218868437227405312) (h1 : h ≤ 9218868437227405312) : dvB z h = quiet ∨ dvB z h ≤ 9218868437227405312 := by
  rcases hz with rfl | hz
  · exact .inl (dvB_nan (by decide))
  · exact dv_nn hz h1
theorem dr_q (D dt u h : Nat) (q : dvB (mlB (mlB D dt) (mg u)) h = quiet) : drB D dt u h = quiet := by
  unfold drB
  rw [q]
  decide
/-- WATER FALLS: from rest, over a level that is higher; with drag no faster -/
theorem spB_falls {G dt D ll lr dl dr gap : Nat} (G1 : G ≤ 4652218415073722368) (t0 : 0 < dt) (t1 : dt ≤ 4652218415073722368) (D1 : D ≤ 4652218415073722368) (g1 : gap ≤ 9218868437227405312) (h1 : ll < 18446744073709551616) (h2 : lr < 18446744073709551616) (n1 : isN ll = false) (n2 : isN lr = false) (lt : rk lr < rk ll) (h3 : dl < 18446744073709551616) (h4 : dr < 18446744073709551616) :
    spB G dt D 0 ll lr dl dr gap ≤ spB G dt 0 0 ll lr dl dr gap ∧ spB G dt 0 0 ll lr dl dr gap ≤ 4652218415073722368 := by
  unfold spB
  by_cases q : fgt (hB dl dr) 0 = true
  · rw [if_pos q, if_pos q]
    have hl := hB_lt h3 h4
    generalize hB dl dr = h at *
    rw [fgt_rk h 0 hl (by decide)] at q
    simp at q
    have hh : 0 < h ∧ h ≤ 9218868437227405312 := by
      obtain ⟨p, p1, ⟨e, r⟩ | ⟨e, r⟩⟩ := rk_split h hl q.1.1
      · have := q.2; rw [show rk 0 = 0 by decide] at this; omega
      · have := q.2; rw [show rk 0 = 0 by decide] at this; omega
    have he := hi_in h1 h2 n1 n2 lt
    have kG := ml_small G1 t0 t1
    have pe : puB G dt ll lr gap = cn (puB G dt lr ll gap) := puB_sw (by omega) (by omega) h2 h1 (by omega)
    have pq : puB G dt lr ll gap = quiet ∨ puB G dt lr ll gap ≤ 9218868437227405312 := dv_nq (ml_nq (by omega) he.2) g1
    have ue : u1B G dt 0 ll lr gap = puB G dt lr ll gap := by
      unfold u1B
      rw [pe]
      rcases pq with e | e
      · rw [e]; exact sb_0q
      · exact sb_0l e
    rw [ue]
    generalize puB G dt lr ll gap = p at *
    rcases pq with rfl | hp
    · rw [dvB_nan (by decide), dvB_nan (by decide)]
      decide
    · have z0 : mlB 0 dt = 0 := mlB_0l (by omega)
      have mp : mg p = p := mg_of_lt (by omega)
      have kD := ml_small D1 t0 t1
      rcases Nat.lt_or_ge p 9218868437227405312 with hf | hf
      · have d0 : drB 0 dt p h = 4607182418800017408 := by
          unfold drB
          rw [z0, mp, mlB_0l hf]
          have : dvB 0 h = 0 := by
            rcases Nat.lt_or_ge h 9218868437227405312 with k | k
            · have mh : mg h = h := mg_of_lt (by omega)
              exact dvB_z h (by omega) (by omega) 0 (by decide)
            · have : h = 9218868437227405312 := by omega
              subst this
              exact dv_xi (by omega)
          rw [this]
          decide +kernel
        rw [d0, dv_1 hf, cu_nn (x := p) (by omega)]
        have yq : dvB (mlB (mlB D dt) (mg p)) h = quiet ∨ dvB (mlB (mlB D dt) (mg p)) h ≤ 9218868437227405312 := dv_nq (ml_nq (by omega) (by omega)) hh.2
        refine ⟨?_, Nat.min_le_right _ _⟩
        rcases yq with y | y
        · rw [dr_q D dt p h y, dvB_nan' (by decide), cu_zq (.inr rfl)]
          exact Nat.zero_le _
        · have a := add_1 y
          have dd : drB D dt p h = addB 4607182418800017408 (dvB (mlB (mlB D dt) (mg p)) h) := rfl
          rw [← dd] at a
          have le : dvB p (drB D dt p h) ≤ p := by
            rcases Nat.lt_or_ge (drB D dt p h) 9218868437227405312 with k | k
            · exact dv_le hf a.1 k
            · have : drB D dt p h = 9218868437227405312 := by omega
              rw [this, dv_xi hf]
              exact Nat.zero_le _
          rw [cu_nn (by omega)]
          omega
      · have pi : p = 9218868437227405312 := by omega
        subst pi
        have zero : ∀ E, E ≤ 4652218415073722368 → cuB (dvB 9218868437227405312 (drB E dt 9218868437227405312 h)) = 0 := fun E E1 => by
          have kE := ml_small E1 t0 t1
          by_cases z : mlB E dt = 0
          · rw [dr_q E dt _ h (by rw [z, mp, ml_0i]; exact dvB_nan (by decide)), dvB_nan' (by decide)]
            exact cu_zq (.inr rfl)
          · have e1 : mlB (mlB E dt) (mg 9218868437227405312) = 9218868437227405312 := by rw [mp]; exact ml_xi (by omega) (by omega)
            rcases Nat.lt_or_ge h 9218868437227405312 with k | k
            · have e2 : drB E dt 9218868437227405312 h = 9218868437227405312 := by
                unfold drB
                rw [e1, dv_ix k]
                decide
              rw [e2]
              decide +kernel
            · have : h = 9218868437227405312 := by omega
              subst this
              rw [dr_q E dt _ _ (by rw [e1]; decide +kernel), dvB_nan' (by decide)]
              exact cu_zq (.inr rfl)
        rw [zero D D1, zero 0 (by omega)]
        omega
  · rw [if_neg q, if_neg q]
    omega
end Fc
end Go.Proofs.YtpfoohpncbkkfaaDoor

namespace Go.Proofs.YtpfoohpncbkkfaaDoor
open Go.RowKit Tf Cu Go.Deep
/-- a list of the call's own, of so many floats -/
def OwnG (B : Nat) (v : Value) (l : List Nat) (w : World) : Prop := w.ownsRow B 22 1 v l.length (l.map (Value.float .f64))
theorem OwnG.fl {B : Nat} {v : Value} {l : List Nat} {w : World} (h : OwnG B v l w) (hl : ∀ x ∈ l, x < 18446744073709551616) : ∃ a0 cap, v = .slice a0 l.length cap ∧ IsFl w a0 l.length (fun j => l.getD j 0) := by
  rcases h.2 with ⟨rfl, h0⟩ | ⟨g, cap, cur, rfl, hb, hg, h1, h2, h3, h4⟩
  · exact ⟨none, 0, by rw [h0], fun k hk => by omega⟩
  · refine ⟨some ⟨g, 0, none⟩, cap, rfl, fun k hk => ?_⟩
    have hx : l.getD k 0 = l[k] := by simp [List.getD, hk]
    refine ⟨by dsimp only; rw [hx]; exact hl _ (List.getElem_mem _), g, 0, rfl, lt_of_block hg, ?_⟩
    have e := h.cells (g := g) rfl k (.float .f64 (l.getD k 0)) (by simp [hk])
    rw [add_off12] at e
    exact e
theorem OwnG.to {B : Nat} {v : Value} {l : List Nat} {w w' : World} (h : OwnG B v l w) (hb : Ab w w') : OwnG B v l w' := by
  refine ⟨h.1, ?_⟩
  rcases h.2 with h0 | ⟨g, cap, cur, e, hb', hg, h1, h2, h3, h4⟩
  · exact .inl h0
  · exact .inr ⟨g, cap, cur, e, hb', hb.heap hg, h1, h2, h3, h4⟩
end Go.Proofs.YtpfoohpncbkkfaaDoor
