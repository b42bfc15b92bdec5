/-
  Some of the texts of this proof, one behind the other.
-/
import Derived.Test.YtjgbaenihkplpaaDoorZ14
import Derived.Test.YtjgbaenihkplpaaDoorZ13
import Derived.Test.YtjgbaenihkplpaaDoorZ08
import Derived.Test.YtjgbaenihkplpaaDoorZ04
import Derived.Test.YtjgbaenihkplpaaDoorZ09
/-
  Levels: by plain numbers (no program).
-/
namespace Go.Proofs.YtjgbaenihkplpaaDoor
open Tf Ieee
theorem fle_of {x y : Nat} (hx : x < 18446744073709551616) (hy : y < 18446744073709551616) (nx : isN x = false) (ny : isN y = false) : (flt x y || feq x y) = decide (rk x ≤ rk y) := by
  rw [flt_rk x y hx hy, feq_rk x y hx hy, nx, ny]
  by_cases c : rk x < rk y
  · rw [decide_eq_true c, decide_eq_true (p := rk x ≤ rk y) (by omega)]; rfl
  · rw [decide_eq_false c]
    by_cases d : rk x = rk y
    · rw [decide_eq_true d, decide_eq_true (p := rk x ≤ rk y) (by omega)]; rfl
    · rw [decide_eq_false d, decide_eq_false (p := rk x ≤ rk y) (by omega)]; rfl
theorem fge_of {x y : Nat} (hx : x < 18446744073709551616) (hy : y < 18446744073709551616) (nx : isN x = false) (ny : isN y = false) : (fgt x y || feq x y) = decide (rk y ≤ rk x) := by
  rw [fgt_rk x y hx hy, feq_rk x y hx hy, nx, ny]
  by_cases c : rk y < rk x
  · rw [decide_eq_true c, decide_eq_true (p := rk y ≤ rk x) (by omega)]; rfl
  · rw [decide_eq_false c]
    by_cases d : rk x = rk y
    · rw [decide_eq_true d, decide_eq_true (p := rk y ≤ rk x) (by omega)]; rfl
    · rw [decide_eq_false d, decide_eq_false (p := rk y ≤ rk x) (by omega)]; rfl
theorem R_sv11 {x : Nat} (h : mg x ≤ 9218868437227405312) : R (sv x) = rk x := by
  have r := R_mv (mg x) h
  unfold sv rk
  cases ng x
  · simp only [Bool.false_eq_true, if_false]; exact r.1
  · simp only [if_true]; exact r.2
theorem canon_nz (x : Nat) : canonB x ≠ 9223372036854775808 := by
  unfold canonB
  split
  · decide
  · split
    · decide
    · rename_i h
      intro e
      rw [e] at h
      exact h (by decide)
theorem addB_nz (a b : Nat) : addB a b ≠ 9223372036854775808 := by
  cases h : double.add a b with
  | none => rw [addB_none h]; decide
  | some r => rw [addB_some h]; exact canon_nz r
theorem sv_nn {d : Nat} (h : d < 9223372036854775808) : sv d = (mv d : Nat) := by
  unfold sv
  rw [ng_of_lt h, mg_of_lt h]; rfl
/-- a sum with what isn't below nothing, of a number -/
theorem add_nn {b d : Nat} (hb : b < 18446744073709551616) (nb : isN b = false) (hd : d < 9218868437227405312) :
    isN (addB b d) = false ∧ rk (addB b d) = (if mg b < 9218868437227405312 then R (sv b + (mv d : Nat)) else rk b) := by
  have md : mg d = d := mg_of_lt (by omega)
  rcases three b with h | h | h
  · rw [addB_fin b d hb (by omega) h (by omega), sv_nn (d := d) (by omega), if_pos h]
    refine ⟨?_, rk_rn _ _⟩
    rw [isN_false, rn_mg]
    exact Nat.min_le_right _ _
  · rw [addB_some (add_if b d hb h (by omega)), if_neg (by omega)]
    have hw := word_eq b hb
    rw [h] at hw
    cases g : ng b
    · rw [g] at hw
      have hw : b = 9218868437227405312 := by simpa using hw
      subst hw; decide
    · rw [g] at hw
      have hw : b = 18442240474082181120 := by simpa using hw
      subst hw; decide
  · rw [h] at nb; exact absurd nb (by decide)
/-- the level -/
def lvl (b : Nat) (w a : Int) : Nat := addB b (dpB w a)
theorem lvl_lt {b : Nat} {w a : Int} (hb : b < 18446744073709551616) (w2 : w ≤ 9223372036854775807) (a2 : a ≤ 9223372036854775807) : lvl b w a < 18446744073709551616 := addB_lt b _ hb (by have := dp_le w2 a2; omega)
theorem lvl_nan {b : Nat} {w a : Int} (h : isN b = true) : lvl b w a = quiet := addB_none (add_nan b _ (.inl h))
theorem lvl_N {b : Nat} {w a : Int} (hb : b < 18446744073709551616) (nb : isN b = false) (w2 : w ≤ 9223372036854775807) (a2 : a ≤ 9223372036854775807) : isN (lvl b w a) = false := (add_nn hb nb (by have := dp_le w2 a2; omega)).1
theorem lvl_mono {b : Nat} {w w' a : Int} (hb : b < 18446744073709551616) (nb : isN b = false) (h : w ≤ w') (w2 : w' ≤ 9223372036854775807) (a2 : a ≤ 9223372036854775807) : rk (lvl b w a) ≤ rk (lvl b w' a) := by
  have l1 := dp_le (w := w) (a := a) (by omega) a2
  have l2 := dp_le (w := w') (a := a) w2 a2
  have m := dp_mono (a := a) h w2 a2
  unfold lvl
  rw [(add_nn hb nb (by omega)).2, (add_nn hb nb (by omega)).2]
  split
  · have := mv_le.2 m
    exact R_mono (by omega)
  · exact Int.le_refl _
theorem lvl_bed {b : Nat} {w a : Int} (hb : b < 18446744073709551616) (nb : isN b = false) (w2 : w ≤ 9223372036854775807) (a2 : a ≤ 9223372036854775807) : rk b ≤ rk (lvl b w a) := by
  have l1 := dp_le (w := w) (a := a) w2 a2
  unfold lvl
  rw [(add_nn hb nb (by omega)).2]
  split
  · rename_i h
    rw [← R_sv11 (x := b) (by omega)]
    exact R_mono (by omega)
  · exact Int.le_refl _
theorem lvl_dry {b : Nat} {w a : Int} (hb : b < 18446744073709551616) (nb : isN b = false) (h : w < 1 ∨ a < 1) : rk (lvl b w a) = rk b := by
  unfold lvl
  rw [dp_zero h, (add_nn hb nb (by omega)).2]
  split
  · rename_i h
    rw [mv_zero, Int.natCast_zero, Int.add_zero]
    exact R_sv11 (by omega)
  · rfl
end Go.Proofs.YtjgbaenihkplpaaDoor

/-
  Leer's slope of doubled differences is doubled, by plain numbers (no program).
-/
namespace Go.Proofs.YtjgbaenihkplpaaDoor
open Tf Ieee
theorem pr_hi2 : mv 6112028652303860605 * mv 6112028652303860605 ≤ mv 7631948660914076401 * 2 ^ K := by decide +kernel
theorem pr_rung2 {V : Nat} (h1 : mv 3110860544497550640 * mv 3110860544497550640 ≤ V) (h2 : V ≤ mv 6112028652303860605 * mv 6112028652303860605) :
    52 + 1074 ≤ V.log2 ∧ 1599789920352257571 ≤ rung 52 1074 V ∧ rung 52 1074 V ≤ 7631948660914076401 := by
  have hV : 2 ^ (52 + K) ≤ V := Nat.le_trans pr_lg h1
  have h0 : V ≠ 0 := by have := Nat.two_pow_pos (52 + K); omega
  refine ⟨?_, ?_, ?_⟩
  · have := (Nat.le_log2 h0).2 hV
    exact this
  · exact rung_ge' (d := K) (Nat.le_trans pr_lo h1)
  · exact rung_le' (d := K) (Nat.le_trans h2 pr_hi2)
theorem far2 {x y : Nat} (x1 : 3110860544497550640 ≤ x) (x2 : x ≤ 6112028652303860605) (y1 : 3110860544497550640 ≤ y) (y2 : y ≤ 6112028652303860605) :
    Far x y ∧ 1599789920352257571 ≤ mlB x y ∧ mlB x y ≤ 7631948660914076401 := by
  obtain ⟨a, b, c⟩ := pr_rung2 (Nat.mul_le_mul (mv_le.2 x1) (mv_le.2 y1)) (Nat.mul_le_mul (mv_le.2 x2) (mv_le.2 y2))
  refine ⟨.inr ?_, ?_⟩
  · rw [mg_of_lt (by omega), mg_of_lt (by omega)]
    exact ⟨a, by omega⟩
  · rw [ml_word (by omega) (by omega)]
    omega
theorem db_of {x : Nat} (x1 : 1 ≤ x) (x2 : x < 9223372036854775808) : db x = x + 4503599627370496 := by unfold db; rw [mg_of_lt x2, if_neg (by omega)]
theorem md_of {x : Nat} (x1 : 4503599627370496 ≤ x) (x2 : x + 4503599627370496 < 9218868437227405312) : Md x := by unfold Md; rw [mg_of_lt (by omega)]; omega
theorem md_db {x : Nat} (x1 : 4503599627370496 ≤ x) (x2 : x + 9007199254740992 < 9218868437227405312) : Md (db x) := by
  have e := db_of (x := x) (by omega) (by omega)
  exact md_of (by omega) (by omega)
theorem db_db {x : Nat} (x1 : 4503599627370496 ≤ x) (x2 : x + 9007199254740992 < 9218868437227405312) : db (db x) = x + 9007199254740992 := by
  have e := db_of (x := x) (by omega) (by omega)
  have e2 := db_of (x := db x) (by omega) (by omega)
  omega
/-- Leer above nothing, ahead of the look whether it is finite -/
def leer (a b : Nat) : Nat := dvB (mlB (mlB 4611686018427387904 a) b) (plB a b)
set_option maxRecDepth 100000 in
theorem leer_db {a b : Nat} (a1 : 3110860544497550640 ≤ a) (a2 : a ≤ 6103021453049119613) (b1 : 3110860544497550640 ≤ b) (b2 : b ≤ 6103021453049119613) :
    leer (db a) (db b) = db (leer a b) ∧ 4503599627370496 ≤ leer a b ∧ leer a b ≤ 9146810843189477376 := by
  have ea := db_of (x := a) (by omega) (by omega)
  have eb := db_of (x := b) (by omega) (by omega)
  have eaa := db_db (x := a) (by omega) (by omega)
  have ma := md_of (x := a) (by omega) (by omega)
  have mda : Md (db a) := md_db (by omega) (by omega)
  have mb := md_of (x := b) (by omega) (by omega)
  have mdda : Md (db (db a)) := md_db (by omega) (by omega)
  have la : db a < 18446744073709551616 := by omega
  have laa : db (db a) < 18446744073709551616 := by omega
  have t1 : mlB 4611686018427387904 a = db a := two_db (by omega) ma
  have t2 : mlB 4611686018427387904 (db a) = db (db a) := two_db la mda
  have f1 := far2 (x := db a) (y := b) (by omega) (by omega) b1 (by omega)
  have f2 := far2 (x := db (db a)) (y := b) (by omega) (by omega) b1 (by omega)
  have p1 : mlB (db (db a)) (db b) = db (db (mlB (db a) b)) := by
    rw [mlB_dbr laa (by omega) mdda mb f2.1, mlB_db la (by omega) mda mb f1.1]
  have ka : Ps 6103021453049119613 a := ⟨.inr (by rw [mg_of_lt (by omega)]; omega), by omega⟩
  have kb : Ps 6103021453049119613 b := ⟨.inr (by rw [mg_of_lt (by omega)]; omega), by omega⟩
  obtain ⟨s1, s2⟩ := plB_db ka kb (by omega) (by omega)
  have hs := plB_nn (a := a) (b := b) (by omega) (by omega)
  have hs2 : plB a b ≤ 6107525052676490109 := by
    rcases s2.1 with h | h
    · rw [s2.mg] at h; omega
    · rw [s2.mg] at h; omega
  unfold leer
  rw [t2, t1, p1, s1]
  generalize mlB (db a) b = p at *
  generalize plB a b = s at *
  have ep := db_of (x := p) (by omega) (by omega)
  have mdp : Md (db p) := md_db (by omega) (by omega)
  have ms : Md s := md_of (by omega) (by omega)
  rw [dvB_db (by omega) (by omega) mdp ms (by rw [mg_of_lt (by omega)]; omega)]
  exact dvB_dbn (by omega) (by omega) (by omega) (by omega) (by omega) (by omega)
theorem sbee_db {a b : Nat} (a1 : 4503599627370496 ≤ a) (a2 : a + 9007199254740992 < 9218868437227405312) (b1 : 4503599627370496 ≤ b) (b2 : b + 9007199254740992 < 9218868437227405312) : sbee (db a) (db b) = db (sbee a b) := by
  have ea := db_of (x := a) (by omega) (by omega)
  have eb := db_of (x := b) (by omega) (by omega)
  have t1 : mlB 4611686018427387904 a = db a := two_db (by omega) (md_of a1 (by omega))
  have t2 : mlB 4611686018427387904 b = db b := two_db (by omega) (md_of b1 (by omega))
  have t3 : mlB 4611686018427387904 (db a) = db (db a) := two_db (by omega) (md_db a1 (by omega))
  have t4 : mlB 4611686018427387904 (db b) = db (db b) := two_db (by omega) (md_db b1 (by omega))
  have eaa := db_db a1 (by omega)
  have ebb := db_db b1 (by omega)
  unfold sbee
  rw [t1, t2, t3, t4]
  have em : ∀ m, m = max (min (db a) b) (min a (db b)) → 1 ≤ m ∧ m < 9223372036854775808 := by intro m hm; omega
  have e5 := db_of (x := max (min (db a) b) (min a (db b))) (em _ rfl).1 (em _ rfl).2
  omega
end Go.Proofs.YtjgbaenihkplpaaDoor

/-
  Quotients of floats that aren't below nothing, by plain numbers (no program).
-/
namespace Go.Proofs.YtjgbaenihkplpaaDoor
open Tf Ieee
theorem near_le (W : Nat) (p : Int) : ∃ r, r ≤ 9218868437227405312 ∧ double.nearest false W p = r := by
  have hlp := d_lp
  by_cases h : double.leastPlace ≤ p
  · obtain ⟨d, hd⟩ : ∃ d : Nat, p = double.leastPlace + (d : Int) := ⟨(p - double.leastPlace).toNat, by omega⟩
    rw [nearest_up double false W d _ hd, d_word, d_inf]
    simp only [Bool.false_eq_true, if_false]
    exact ⟨_, Nat.min_le_right _ _, rfl⟩
  · obtain ⟨d, hd⟩ : ∃ d : Nat, p = double.leastPlace - (d : Int) := ⟨(double.leastPlace - p).toNat, by omega⟩
    rw [hd, nearest_rung double false W d, d_word, d_inf]
    simp only [Bool.false_eq_true, if_false]
    exact ⟨_, Nat.min_le_right _ _, rfl⟩
theorem canon_nn {r : Nat} (h : r ≤ 9218868437227405312) : canonB r = r := by
  have mr : mg r = r := mg_of_lt (by omega)
  unfold canonB
  rw [mr, if_neg (by unfold isN; rw [mr]; simp; omega)]
  split <;> omega
/-- a float that isn't below nothing, as it is read -/
theorem read_nn {x : Nat} (h : x ≤ 9218868437227405312) : double.read x = .infinity false ∨ ∃ m p, double.read x = .number false m p := by
  have mx : mg x = x := mg_of_lt (by omega)
  by_cases c : x = 9218868437227405312
  · subst c
    exact .inl (by decide +kernel)
  · right
    obtain ⟨m, a, h1, -⟩ := read_fin double x (by show mg x < 9218868437227405312; omega)
    have hs : sg double x = false := by
      rw [sg_d x (by omega)]
      exact ng_of_lt (by omega)
    rw [hs] at h1
    exact ⟨m, _, h1⟩
theorem dv_nn {x y : Nat} (hx : x ≤ 9218868437227405312) (hy : y ≤ 9218868437227405312) : dvB x y = quiet ∨ dvB x y ≤ 9218868437227405312 := by
  have key : double.div x y = none ∨ ∃ r, r ≤ 9218868437227405312 ∧ double.div x y = some r := by
    show ((double.read x).quotient 54 (double.read y)).map double.write = none ∨ ∃ r, r ≤ 9218868437227405312 ∧ ((double.read x).quotient 54 (double.read y)).map double.write = some r
    rcases read_nn hx with e1 | ⟨m, p, e1⟩ <;> rcases read_nn hy with e2 | ⟨n, q, e2⟩ <;> rw [e1, e2] <;> unfold Datum.quotient <;> dsimp only
    · exact .inl rfl
    · exact .inr ⟨9218868437227405312, Nat.le_refl _, by decide +kernel⟩
    · obtain ⟨r, r1, r2⟩ := near_le 0 0
      exact .inr ⟨r, r1, by show some (double.nearest false 0 0) = _; rw [r2]⟩
    · by_cases hn : n = 0
      · rw [if_pos hn]
        by_cases hm : m = 0
        · rw [if_pos hm]; exact .inl rfl
        · rw [if_neg hm]; exact .inr ⟨9218868437227405312, Nat.le_refl _, by decide +kernel⟩
      · rw [if_neg hn]
        obtain ⟨r, r1, r2⟩ := near_le (2 * (m <<< (54 + n.log2 - m.log2) / n) + (m <<< (54 + n.log2 - m.log2) % n != 0).toNat) (p - q - ((54 + n.log2 - m.log2 : Nat) : Int) - 1)
        exact .inr ⟨r, r1, by show some (double.nearest false _ _) = _; rw [← r2]⟩
  rcases key with h | ⟨r, r1, h⟩
  · exact .inl (dvB_none h)
  · rw [dvB_some h, canon_nn r1]
    exact .inr r1
theorem ml_nn {x y : Nat} (hx : x ≤ 9218868437227405312) (hy : y ≤ 9218868437227405312) (x0 : 0 < x) (y0 : 0 < y) : mlB x y ≤ 9218868437227405312 := by
  have mx : mg x = x := mg_of_lt (by omega)
  have my : mg y = y := mg_of_lt (by omega)
  have nx : ng x = false := ng_of_lt (by omega)
  have ny : ng y = false := ng_of_lt (by omega)
  have hi : infW (false ^^ false) = 9218868437227405312 := by decide
  by_cases cx : x = 9218868437227405312
  · by_cases cy : y = 9218868437227405312
    · have e := mul_ii x y (by omega) (by omega) (by omega) (by omega)
      rw [mlB_some e, nx, ny, hi]
      exact Nat.le_refl _
    · have e := mul_if x y (by omega) (by omega) (by omega) (by omega)
      rw [if_neg (by omega)] at e
      rw [mlB_some e, nx, ny, hi]
      exact Nat.le_refl _
  · by_cases cy : y = 9218868437227405312
    · have e := mul_fi x y (by omega) (by omega) (by omega) (by omega)
      rw [if_neg (by omega)] at e
      rw [mlB_some e, nx, ny, hi]
      exact Nat.le_refl _
    · rw [ml_word (by omega) (by omega)]
      exact Nat.min_le_right _ _
/-- Leer above nothing: a NaN, or not below nothing -/
theorem leer_nn {a b : Nat} (ha : a ≤ 9218868437227405312) (hb : b ≤ 9218868437227405312) (a0 : 0 < a) (b0 : 0 < b) : leer a b = quiet ∨ leer a b ≤ 9218868437227405312 := by
  have d := d2_facts ha
  exact dv_nn (ml_nn d.1 hb (by omega) b0) (plB_nn ha hb).1
end Go.Proofs.YtjgbaenihkplpaaDoor

/-
  What is filled in: by plain numbers (no program).
-/
namespace Go.Proofs.YtjgbaenihkplpaaDoor
open Tf Ieee
theorem R_pos {v : Int} (h : 0 < v) : 1 ≤ R v := by
  have := R_mono (show (1 : Int) ≤ v by omega)
  rwa [show R 1 = 1 by decide +kernel] at this
theorem R_top (v : Int) : R v ≤ 9218868437227405312 := by
  unfold R
  have := Nat.min_le_right (rung 52 0 v.natAbs) 9218868437227405312
  split <;> omega
/-- how high the level lies above the bed -/
theorem hi_val {l b : Nat} (hl : l < 18446744073709551616) (hb : b < 18446744073709551616) (nl : isN l = false) (nb : isN b = false) (h : rk b < rk l) :
    sbB l b = if mg l < 9218868437227405312 ∧ mg b < 9218868437227405312 then (R (sv l - sv b)).toNat else 9218868437227405312 := by
  have wl := word_eq l hl
  have wb := word_eq b hb
  have hml := isN_false.1 nl
  have hmb := isN_false.1 nb
  unfold sbB
  have hn := negB_lt' hb
  have mn := negB_mg hb
  by_cases c : mg l < 9218868437227405312
  · by_cases d : mg b < 9218868437227405312
    · rw [if_pos ⟨c, d⟩, addB_fin l (negB b) hl hn c (by omega), negB_sv hb, rn_nn]
      · rfl
      · have := (sv_lt_iff b l).2 h
        omega
    · rw [if_neg (by omega), addB_some (add_fi l (negB b) hn c (by omega)), negB_ng hb]
      cases g : ng b
      · exfalso
        have e : rk b = 9218868437227405312 := by unfold rk; rw [g, show mg b = 9218868437227405312 by omega]; rfl
        have := rk_bound l nl
        omega
      · decide
  · rw [if_neg (by omega)]
    have e : mg l = 9218868437227405312 := by omega
    have gl : ng l = false := by
      cases g : ng l
      · rfl
      · exfalso
        have e3 : rk l = -9218868437227405312 := by unfold rk; rw [g, e]; rfl
        have := rk_bound b nb
        omega
    by_cases d : mg b < 9218868437227405312
    · rw [addB_some (add_if l (negB b) hl e (by omega)), gl]; decide
    · have e2 : mg b = 9218868437227405312 := by omega
      have gb : ng b = true := by
        cases g : ng b
        · exfalso
          have e3 : rk b = 9218868437227405312 := by unfold rk; rw [g, e2]; rfl
          have := rk_bound l nl
          omega
        · rfl
      rw [addB_some (r := infW false) (by rw [add_ii l (negB b) hl hn e (by omega), negB_ng hb, gl, gb]; rfl)]
      decide
theorem hi_in {l b : Nat} (hl : l < 18446744073709551616) (hb : b < 18446744073709551616) (nl : isN l = false) (nb : isN b = false) (h : rk b < rk l) : 0 < sbB l b ∧ sbB l b ≤ 9218868437227405312 := by
  rw [hi_val hl hb nl nb h]
  split
  · have := (sv_lt_iff b l).2 h
    have := R_pos (v := sv l - sv b) (by omega)
    have := R_top (sv l - sv b)
    omega
  · omega
theorem hi_up {l l' b : Nat} (hl : l < 18446744073709551616) (hl' : l' < 18446744073709551616) (hb : b < 18446744073709551616) (nl : isN l = false) (nl' : isN l' = false) (nb : isN b = false) (h : rk b < rk l) (k : rk l ≤ rk l') : sbB l b ≤ sbB l' b := by
  have i := (hi_in hl hb nl nb h).2
  rw [hi_val hl' hb nl' nb (by omega)]
  split
  · rename_i c
    rw [hi_val hl hb nl nb h]
    have f : mg l < 9218868437227405312 := by
      have hm := isN_false.1 nl
      rcases Nat.lt_or_ge (mg l) 9218868437227405312 with q | q
      · exact q
      · exfalso
        have e : mg l = 9218868437227405312 := by omega
        unfold rk at h k
        rw [e] at h k
        split at k <;> split at h <;> (try split at k) <;> (try split at h) <;> omega
    rw [if_pos ⟨f, c.2⟩]
    have a := (sv_le_iff l l').2 k
    have := R_mono (show sv l - sv b ≤ sv l' - sv b by omega)
    omega
  · exact i
theorem hi_dn {l b b' : Nat} (hl : l < 18446744073709551616) (hb : b < 18446744073709551616) (hb' : b' < 18446744073709551616) (nl : isN l = false) (nb : isN b = false) (nb' : isN b' = false) (h : rk b' < rk l) (k : rk b ≤ rk b') : sbB l b' ≤ sbB l b := by
  have i := (hi_in hl hb' nl nb' h).2
  rw [hi_val hl hb nl nb (by omega)]
  split
  · rename_i c
    rw [hi_val hl hb' nl nb' h]
    have f : mg b' < 9218868437227405312 := by
      have hm := isN_false.1 nb'
      rcases Nat.lt_or_ge (mg b') 9218868437227405312 with q | q
      · exact q
      · exfalso
        have e : mg b' = 9218868437227405312 := by omega
        unfold rk at h k
        rw [e] at h k
        split at k <;> split at h <;> (try split at k) <;> (try split at h) <;> omega
    rw [if_pos ⟨c.1, f⟩]
    have a := (sv_le_iff b b').2 k
    have := R_mono (show sv l - sv b' ≤ sv l - sv b by omega)
    omega
  · exact i
theorem ml_mono {x x' f : Nat} (hx : x ≤ x') (hx' : x' ≤ 9218868437227405312) (x0 : 0 < x) (f0 : 0 < f) (f1 : f < 9218868437227405312) : mlB x f ≤ mlB x' f := by
  have u := ml_nn (x := x) (y := f) (by omega) (by omega) x0 f0
  by_cases c : x' = 9218868437227405312
  · subst c
    have e : mlB 9218868437227405312 f = 9218868437227405312 := by
      have mf : mg f = f := mg_of_lt (by omega)
      rw [mlB_some (r := infW false) (by
        have h := mul_if 9218868437227405312 f (by decide) (by omega) (by decide) (by rw [mf]; exact f1)
        rw [h, mf, if_neg (by omega), ng_of_lt (x := f) (by omega)]
        rfl)]
      decide
    rw [e]; exact u
  · rw [ml_word (by omega) f1, ml_word (by omega) f1]
    have := rung_mono (p := 52) (d := 1074) (by omega) (Nat.mul_le_mul_right (mv f) (mv_le.2 hx))
    omega
theorem clamp_zero : clampB 0 4503599627370496 = 0 := by decide +kernel
theorem clamp_in11 {x : Nat} (h : x ≤ 9218868437227405312) : 0 ≤ clampB x 4503599627370496 ∧ clampB x 4503599627370496 ≤ 4503599627370496 := by
  have n : isN x = false := isN_false.2 (by rw [mg_of_lt (by omega)]; exact h)
  refine ⟨?_, ?_⟩
  · have := clampB_mono 0 x 4503599627370496 (by decide) (by omega) (by decide) n (by rw [rk_pos x (by omega), show rk 0 = 0 by decide]; omega)
    rwa [clamp_zero] at this
  · rw [clampB_num x _ (by omega) n, show clampM 4503599627370496 = 4503599627370496 by decide]
    split
    · omega
    · split <;> omega
theorem clamp_mono {x y : Nat} (h : x ≤ y) (hy : y ≤ 9218868437227405312) : clampB x 4503599627370496 ≤ clampB y 4503599627370496 :=
  clampB_mono x y _ (by omega) (by omega) (isN_false.2 (by rw [mg_of_lt (by omega)]; omega)) (isN_false.2 (by rw [mg_of_lt (by omega)]; omega)) (by rw [rk_pos x (by omega), rk_pos y (by omega)]; omega)
/-- what is filled in -/
def fil (b : Nat) (a : Int) (l : Nat) : Int := if fgt l b = true ∧ 1 ≤ a then clampB (mlB (sbB l b) (fw a)) 4503599627370496 else 0
theorem fil_yes {b : Nat} {a : Int} {l : Nat} (h : fgt l b = true) (ha : 1 ≤ a) : fil b a l = clampB (mlB (sbB l b) (fw a)) 4503599627370496 := by unfold fil; rw [if_pos ⟨h, ha⟩]
theorem fil_no {b : Nat} {a : Int} {l : Nat} (h : fgt l b = false ∨ a < 1) : fil b a l = 0 := by
  unfold fil
  rw [if_neg]
  rintro ⟨h1, h2⟩
  rcases h with h | h
  · rw [h] at h1; exact absurd h1 (by decide)
  · omega
theorem fgt_iff {l b : Nat} (hl : l < 18446744073709551616) (hb : b < 18446744073709551616) : fgt l b = true ↔ isN l = false ∧ isN b = false ∧ rk b < rk l := by
  rw [fgt_rk l b hl hb]
  cases isN l <;> cases isN b <;> simp
theorem fil_prod {b : Nat} {a : Int} {l : Nat} (hl : l < 18446744073709551616) (hb : b < 18446744073709551616) (h : fgt l b = true) (ha : 1 ≤ a) (a2 : a ≤ 9223372036854775807) : mlB (sbB l b) (fw a) ≤ 9218868437227405312 := by
  obtain ⟨nl, nb, k⟩ := (fgt_iff hl hb).1 h
  have i := hi_in hl hb nl nb k
  have f := fw_in ha a2
  exact ml_nn i.2 (by omega) i.1 (by omega)
theorem fil_in {b : Nat} {a : Int} {l : Nat} (hl : l < 18446744073709551616) (hb : b < 18446744073709551616) (a2 : a ≤ 9223372036854775807) : 0 ≤ fil b a l ∧ fil b a l ≤ 4503599627370496 := by
  by_cases h : fgt l b = true ∧ 1 ≤ a
  · rw [fil_yes h.1 h.2]
    exact clamp_in11 (fil_prod hl hb h.1 h.2 a2)
  · unfold fil
    rw [if_neg h]
    omega
theorem fil_up {b : Nat} {a : Int} {l l' : Nat} (hl : l < 18446744073709551616) (hl' : l' < 18446744073709551616) (hb : b < 18446744073709551616) (a2 : a ≤ 9223372036854775807) (h : isN l' = false) (k : isN l = false → rk l ≤ rk l') : fil b a l ≤ fil b a l' := by
  by_cases c : fgt l b = true ∧ 1 ≤ a
  · obtain ⟨nl, nb, q⟩ := (fgt_iff hl hb).1 c.1
    have k := k nl
    have c' : fgt l' b = true := (fgt_iff hl' hb).2 ⟨h, nb, by omega⟩
    rw [fil_yes c.1 c.2, fil_yes c' c.2]
    have f := fw_in c.2 a2
    have i := hi_in hl hb nl nb q
    have i' := hi_in hl' hb h nb (by omega)
    exact clamp_mono (ml_mono (hi_up hl hl' hb nl h nb q k) i'.2 i.1 (by omega) (by omega)) (fil_prod hl' hb c' c.2 a2)
  · have e : fil b a l = 0 := by unfold fil; rw [if_neg c]
    rw [e]
    exact (fil_in hl' hb a2).1
theorem fil_dn {b b' : Nat} {a : Int} {l : Nat} (hl : l < 18446744073709551616) (hb : b < 18446744073709551616) (hb' : b' < 18446744073709551616) (a2 : a ≤ 9223372036854775807) (h : isN b = false) (k : isN b' = false → rk b ≤ rk b') : fil b' a l ≤ fil b a l := by
  by_cases c : fgt l b' = true ∧ 1 ≤ a
  · obtain ⟨nl, nb, q⟩ := (fgt_iff hl hb').1 c.1
    have k := k nb
    have c' : fgt l b = true := (fgt_iff hl hb).2 ⟨nl, h, by omega⟩
    rw [fil_yes c.1 c.2, fil_yes c' c.2]
    have f := fw_in c.2 a2
    have i := hi_in hl hb' nl nb q
    have i' := hi_in hl hb nl h (by omega)
    exact clamp_mono (ml_mono (hi_dn hl hb hb' nl h nb q k) i'.2 i.1 (by omega) (by omega)) (fil_prod hl hb c' c.2 a2)
  · have e : fil b' a l = 0 := by unfold fil; rw [if_neg c]
    rw [e]
    exact (fil_in hl hb a2).1
end Go.Proofs.YtjgbaenihkplpaaDoor

/-
  Slopes of two differences, by plain numbers (no program).
-/
namespace Go.Proofs.YtjgbaenihkplpaaDoor
open Tf Ieee
/-- above nothing; below nothing -/
def ps (a : Nat) : Bool := decide (0 < a ∧ a ≤ 9218868437227405312)
def ns (a : Nat) : Bool := decide (9223372036854775808 < a ∧ a ≤ 18442240474082181120)
theorem ps_iff {a : Nat} : ps a = true ↔ 0 < a ∧ a ≤ 9218868437227405312 := by unfold ps; rw [decide_eq_true_iff]
theorem ns_iff {a : Nat} : ns a = true ↔ 9223372036854775808 < a ∧ a ≤ 18442240474082181120 := by unfold ns; rw [decide_eq_true_iff]
theorem ps_no {a : Nat} : ps a = false ↔ a = 0 ∨ 9218868437227405312 < a := by unfold ps; rw [decide_eq_false_iff_not]; omega
theorem ns_no {a : Nat} : ns a = false ↔ a ≤ 9223372036854775808 ∨ 18442240474082181120 < a := by unfold ns; rw [decide_eq_false_iff_not]; omega
theorem rk_zero : rk 0 = 0 := by decide
theorem fgt_ps {a : Nat} (ha : a < 18446744073709551616) : fgt a 0 = ps a := by
  rw [fgt_rk a 0 ha (by decide), rk_zero, show isN 0 = false by decide]
  unfold ps isN rk ng mg
  by_cases c : 9223372036854775808 ≤ a
  · rw [decide_eq_true c, if_pos rfl, decide_eq_false (p := 0 < a ∧ _) (by omega), decide_eq_false (p := (0 : Int) < _) (by omega), Bool.and_false]
  · rw [decide_eq_false c, if_neg (by decide), Nat.mod_eq_of_lt (by omega)]
    by_cases d : 9218868437227405312 < a
    · rw [decide_eq_true d, decide_eq_false (p := 0 < a ∧ _) (by omega)]; rfl
    · rw [decide_eq_false d]
      by_cases e : 0 < a
      · rw [decide_eq_true (p := 0 < a ∧ _) (by omega), decide_eq_true (p := (0 : Int) < _) (by omega)]; rfl
      · rw [decide_eq_false (p := 0 < a ∧ _) (by omega), decide_eq_false (p := (0 : Int) < _) (by omega)]; rfl
theorem flt_ns {a : Nat} (ha : a < 18446744073709551616) : flt a 0 = ns a := by
  rw [flt_rk a 0 ha (by decide), rk_zero, show isN 0 = false by decide]
  unfold ns isN rk ng mg
  by_cases c : 9223372036854775808 ≤ a
  · rw [decide_eq_true c, if_pos rfl]
    have e : a % 9223372036854775808 = a - 9223372036854775808 := by omega
    rw [e]
    by_cases d : 9218868437227405312 < a - 9223372036854775808
    · rw [decide_eq_true d, decide_eq_false (p := 9223372036854775808 < a ∧ _) (by omega)]; rfl
    · rw [decide_eq_false d]
      by_cases e : 9223372036854775808 < a
      · rw [decide_eq_true (p := 9223372036854775808 < a ∧ _) (by omega), decide_eq_true (p := -_ < (0 : Int)) (by omega)]; rfl
      · rw [decide_eq_false (p := 9223372036854775808 < a ∧ _) (by omega), decide_eq_false (p := -_ < (0 : Int)) (by omega)]; rfl
  · rw [decide_eq_false c, if_neg (by decide), decide_eq_false (p := 9223372036854775808 < a ∧ _) (by omega), decide_eq_false (p := _ < (0 : Int)) (by omega), Bool.and_false]
theorem nn_N {a : Nat} (h : a ≤ 9218868437227405312) : isN a = false := isN_false.2 (by rw [mg_of_lt (by omega)]; exact h)
theorem flt_nn {a b : Nat} (ha : a ≤ 9218868437227405312) (hb : b ≤ 9218868437227405312) : flt a b = decide (a < b) := by
  rw [flt_rk a b (by omega) (by omega), rk_pos a (by omega), rk_pos b (by omega), nn_N ha, nn_N hb]
  by_cases c : a < b
  · rw [decide_eq_true c, decide_eq_true (by omega)]; rfl
  · rw [decide_eq_false c, decide_eq_false (by omega)]; rfl
theorem fgt_nn {a b : Nat} (ha : a ≤ 9218868437227405312) (hb : b ≤ 9218868437227405312) : fgt a b = decide (b < a) := by
  rw [fgt_rk a b (by omega) (by omega), rk_pos a (by omega), rk_pos b (by omega), nn_N ha, nn_N hb]
  by_cases c : b < a
  · rw [decide_eq_true c, decide_eq_true (by omega)]; rfl
  · rw [decide_eq_false c, decide_eq_false (by omega)]; rfl
theorem feq_nn {a b : Nat} (ha : a ≤ 9218868437227405312) (hb : b ≤ 9218868437227405312) : feq a b = decide (a = b) := by
  rw [feq_rk a b (by omega) (by omega), rk_pos a (by omega), rk_pos b (by omega), nn_N ha, nn_N hb]
  by_cases c : a = b
  · rw [decide_eq_true c, decide_eq_true (by omega)]; rfl
  · rw [decide_eq_false c, decide_eq_false (by omega)]; rfl
/-- Leer above nothing -/
def lr (a b : Nat) : Nat := if leer a b < 9218868437227405312 then leer a b else 0
/-- the slope of two that are above nothing -/
def lm (k : Int) (a b : Nat) : Nat := if k = 1 then min a b else if k = 2 then sbee a b else if k = 3 then lr a b else 0
/-- the opposite; of nothing: nothing -/
def op (x : Nat) : Nat := if x = 0 then 0 else x + 9223372036854775808
/-- the slope -/
def slp (k : Int) (a b : Nat) : Nat := if (ps a && ps b) = true then lm k a b else if (ns a && ns b) = true then op (lm k (a - 9223372036854775808) (b - 9223372036854775808)) else 0
theorem lr_le (a b : Nat) : lr a b < 9218868437227405312 := by unfold lr; split <;> omega
theorem lm_le (k : Int) {a b : Nat} (ha : a ≤ 9218868437227405312) (hb : b ≤ 9218868437227405312) : lm k a b ≤ 9218868437227405312 := by
  have s := sbee_facts ha hb
  have l := lr_le a b
  unfold lm
  split
  · omega
  · split
    · omega
    · split <;> omega
theorem op_lt {x : Nat} (h : x ≤ 9218868437227405312) : op x ≤ 18442240474082181120 := by unfold op; split <;> omega
theorem slp_lt (k : Int) (a b : Nat) : slp k a b < 18446744073709551616 := by
  unfold slp
  split
  · rename_i h
    rw [Bool.and_eq_true, ps_iff, ps_iff] at h
    have := lm_le k h.1.2 h.2.2
    omega
  · split
    · rename_i h
      rw [Bool.and_eq_true, ns_iff, ns_iff] at h
      have := op_lt (lm_le k (a := a - 9223372036854775808) (b := b - 9223372036854775808) (by omega) (by omega))
      omega
    · omega
theorem canon_op {x : Nat} (h : x ≤ 9218868437227405312) : canonB (negB x) = op x := by
  unfold negB op canonB
  rw [ng_of_lt (by omega)]
  simp only [Bool.false_eq_true, if_false]
  by_cases c : x = 0
  · subst c; decide
  · have m : mg (x + 9223372036854775808) = x := by unfold mg; omega
    unfold isN
    rw [m, if_neg c, if_neg (by simp; omega)]
theorem neg_ns {a : Nat} (h : 9223372036854775808 < a) : negB a = a - 9223372036854775808 := by
  unfold negB
  rw [if_pos]
  unfold ng; exact decide_eq_true (by omega)
/-- products and sums of what is above nothing have an answer -/
theorem mul_pp {x y : Nat} (hx : x ≤ 9218868437227405312) (hy : y ≤ 9218868437227405312) (x0 : 0 < x) (y0 : 0 < y) : Ieee.double.mul x y = some (mlB x y) := by
  have h := ml_nn hx hy x0 y0
  cases e : Ieee.double.mul x y with
  | none => rw [mlB_none e] at h; unfold quiet at h; omega
  | some r => rw [mlB_some e]
theorem add_pp {x y : Nat} (hx : x ≤ 9218868437227405312) (hy : y ≤ 9218868437227405312) : Ieee.double.add x y = some (plB x y) := by
  have h := (plB_nn hx hy).1
  cases e : Ieee.double.add x y with
  | none => rw [plB_none e] at h; unfold quiet at h; omega
  | some r => rw [plB_some e]
/-- the lesser and the greater of two -/
theorem order_pp {a b : Nat} (ha : a ≤ 9218868437227405312) (hb : b ≤ 9218868437227405312) : Ieee.double.order a b = some (if a < b then .lt else if b < a then .gt else .eq) := by
  have h1 := flt_nn ha hb
  have h2 := fgt_nn ha hb
  have h3 := feq_nn ha hb
  unfold flt at h1
  unfold fgt at h2
  unfold feq at h3
  by_cases c : a < b
  · rw [if_pos c]; rw [decide_eq_true c] at h1; simpa using h1
  · rw [if_neg c]
    by_cases d : b < a
    · rw [if_pos d]; rw [decide_eq_true d] at h2; simpa using h2
    · rw [if_neg d]; rw [decide_eq_true (by omega)] at h3; simpa using h3
/-- whether it is finite, whatever the word -/
theorem lr_le_of {r : Nat} {a b : Nat} (h : IsC r (leer a b)) (hn : leer a b = quiet ∨ leer a b ≤ 9218868437227405312) :
    (flt r 9218868437227405311 || feq r 9218868437227405311) = decide (leer a b < 9218868437227405312) ∧ (leer a b < 9218868437227405312 → canonB r = leer a b) := by
  obtain ⟨h1, h2⟩ := h
  refine ⟨?_, fun _ => h2⟩
  rcases hn with e | e
  · rw [e] at h2 ⊢
    have nr : isN r = true := by
      cases k : isN r
      · unfold canonB at h2
        rw [k] at h2
        have := isN_false.1 k
        simp only [Bool.false_eq_true, if_false] at h2
        split at h2
        · exact absurd h2 (by decide)
        · rw [h2] at k; exact absurd k (by decide)
      · rfl
    rw [flt_rk r _ h1 (by decide), feq_rk r _ h1 (by decide), nr]
    rfl
  · have nr : isN r = false := by
      cases k : isN r
      · rfl
      · unfold canonB at h2
        rw [k, if_pos rfl] at h2
        rw [← h2] at e
        unfold quiet at e
        omega
    have rr : rk r = leer a b := by
      unfold canonB at h2
      rw [nr, if_neg (by decide)] at h2
      split at h2
      · rename_i m
        rw [← h2]
        unfold rk
        rw [m]; split <;> rfl
      · rw [h2]; exact rk_pos _ (by omega)
    rw [flt_rk r _ h1 (by decide), feq_rk r _ h1 (by decide), nr, rr, show isN 9218868437227405311 = false by decide, rk_pos 9218868437227405311 (by decide)]
    by_cases c : leer a b < 9218868437227405312
    · rw [decide_eq_true c]
      by_cases d : leer a b = 9218868437227405311
      · rw [d]; decide
      · rw [decide_eq_true (p := (_ : Int) < _) (by omega)]; rfl
    · rw [decide_eq_false c, decide_eq_false (p := (_ : Int) < _) (by omega), decide_eq_false (p := (_ : Int) = _) (by omega)]; rfl
end Go.Proofs.YtjgbaenihkplpaaDoor

/-
  Opposite and exchanged differences, by plain numbers (no program).
-/
namespace Go.Proofs.YtjgbaenihkplpaaDoor
open Tf Ieee
theorem neg_ps {a : Nat} (h : a < 9223372036854775808) : negB a = a + 9223372036854775808 := by
  unfold negB
  rw [ng_of_lt h, if_neg (by decide)]
theorem two_neg {p : Nat} (hp : p ≤ 9218868437227405312) : mlB 4611686018427387904 (p + 9223372036854775808) = mlB 4611686018427387904 p + 9223372036854775808 := by
  by_cases c : p = 9218868437227405312
  · subst c; decide +kernel
  · have mp : mg p = p := mg_of_lt (by omega)
    have mq : mg (p + 9223372036854775808) = p := by unfold mg; omega
    have nq : ng (p + 9223372036854775808) = true := ng_of_ge (by omega)
    rw [mul_w (by decide) (by omega) (by decide) (by omega), mul_w (by decide) (by omega) (by decide) (by omega), mp, mq, nq, ng_of_lt (x := p) (by omega), show ng 4611686018427387904 = false by decide]
    simp only [Bool.false_xor, if_true, Bool.false_eq_true, if_false]
    exact Nat.add_comm _ _
theorem fin_two_p {a : Nat} (h : ps a = true) : fin (mlB 4611686018427387904 a) = decide (mlB 4611686018427387904 a < 9218868437227405312) := by
  obtain ⟨-, h⟩ := ps_iff.1 h
  have := (d2_facts h).1
  unfold fin
  rw [mg_of_lt (by omega)]
theorem fin_two_n {a : Nat} (h : ns a = true) : fin (mlB 4611686018427387904 a) = decide (mlB 4611686018427387904 (a - 9223372036854775808) < 9218868437227405312) := by
  obtain ⟨h0, h⟩ := ns_iff.1 h
  obtain ⟨p, e⟩ : ∃ p, a = p + 9223372036854775808 := ⟨a - 9223372036854775808, by omega⟩
  subst e
  rw [Nat.add_sub_cancel, two_neg (by omega)]
  have := (d2_facts (a := p) (by omega)).1
  unfold fin
  have m : mg (mlB 4611686018427387904 p + 9223372036854775808) = mlB 4611686018427387904 p := by unfold mg; omega
  rw [m]
theorem ps_neg {a : Nat} (ha : a < 18446744073709551616) : ps (negB a) = ns a := by
  by_cases c : a < 9223372036854775808
  · rw [neg_ps c, ps_no.2 (by omega), ns_no.2 (by omega)]
  · have e : negB a = a - 9223372036854775808 := by
      unfold negB
      rw [ng_of_ge (by omega), if_pos rfl]
    rw [e]
    by_cases d : ns a = true
    · have := ns_iff.1 d
      rw [d, ps_iff.2 (by omega)]
    · have d := Bool.eq_false_iff.2 d
      have := ns_no.1 d
      rw [d, ps_no.2 (by omega)]
theorem ns_neg {a : Nat} (ha : a < 18446744073709551616) : ns (negB a) = ps a := by
  rw [← ps_neg (negB_lt' ha), negB_negB' ha]
theorem ps_ns {a : Nat} (h : ps a = true) : ns a = false := ns_no.2 (by have := ps_iff.1 h; omega)
theorem ns_ps {a : Nat} (h : ns a = true) : ps a = false := ps_no.2 (by have := ns_iff.1 h; omega)
theorem slp_p {k : Int} {a b : Nat} (ha : ps a = true) (hb : ps b = true) : slp k a b = lm k a b := by unfold slp; rw [ha, hb]; rfl
theorem slp_n {k : Int} {a b : Nat} (ha : ns a = true) (hb : ns b = true) : slp k a b = op (lm k (a - 9223372036854775808) (b - 9223372036854775808)) := by
  unfold slp; rw [ns_ps ha, ns_ps hb, ha, hb]; simp
theorem slp_z {k : Int} {a b : Nat} (ha : (ps a && ps b) = false) (hb : (ns a && ns b) = false) : slp k a b = 0 := by
  unfold slp; rw [ha, hb]; simp
theorem canon_op' {x : Nat} (h : x ≤ 9218868437227405312) : canonB (negB (op x)) = x := by
  unfold op
  by_cases c : x = 0
  · subst c; decide
  · rw [if_neg c, neg_ns (by omega), Nat.add_sub_cancel]
    exact canon_nn h
theorem slp_neg (k : Int) {a b : Nat} (ha : a < 18446744073709551616) (hb : b < 18446744073709551616) : slp k (negB a) (negB b) = canonB (negB (slp k a b)) := by
  cases p : (ps a && ps b)
  · cases n : (ns a && ns b)
    · rw [slp_z p n, slp_z (by rw [ps_neg ha, ps_neg hb]; exact n) (by rw [ns_neg ha, ns_neg hb]; exact p)]
      decide
    · rw [Bool.and_eq_true] at n
      have h1 := ns_iff.1 n.1
      have h2 := ns_iff.1 n.2
      rw [slp_n n.1 n.2, slp_p (by rw [ps_neg ha]; exact n.1) (by rw [ps_neg hb]; exact n.2), neg_ns h1.1, neg_ns h2.1, canon_op' (lm_le k (by omega) (by omega))]
  · rw [Bool.and_eq_true] at p
    have h1 := ps_iff.1 p.1
    have h2 := ps_iff.1 p.2
    rw [slp_p p.1 p.2, slp_n (by rw [ns_neg ha]; exact p.1) (by rw [ns_neg hb]; exact p.2), neg_ps (by omega), neg_ps (by omega), Nat.add_sub_cancel, Nat.add_sub_cancel, canon_op (lm_le k h1.2 h2.2)]
theorem lr_comm {a b : Nat} (ha : ps a = true) (hb : ps b = true) (fa : mlB 4611686018427387904 a < 9218868437227405312) (fb : mlB 4611686018427387904 b < 9218868437227405312) : lr b a = lr a b := by
  have a1 := ps_iff.1 ha
  have b1 := ps_iff.1 hb
  have da := d2_facts a1.2
  have db := d2_facts b1.2
  have e : leer b a = leer a b := by
    unfold leer
    rw [leer_comm (by omega) (by omega) fb fa]
    congr 1
    unfold plB
    rw [addB_comm_fin b a (by omega) (by omega) (by rw [mg_of_lt (by omega)]; omega) (by rw [mg_of_lt (by omega)]; omega)]
  unfold lr
  rw [e]
theorem lm_comm {k : Int} {a b : Nat} (ha : ps a = true) (hb : ps b = true) (h : k = 3 → mlB 4611686018427387904 a < 9218868437227405312 ∧ mlB 4611686018427387904 b < 9218868437227405312) : lm k b a = lm k a b := by
  unfold lm
  rw [Nat.min_comm b a, sbee_comm b a]
  split
  · rfl
  · split
    · rfl
    · split
      · rename_i c
        exact lr_comm ha hb (h c).1 (h c).2
      · rfl
theorem slp_comm {k : Int} {a b : Nat} (h : k = 3 → fin (mlB 4611686018427387904 a) = true ∧ fin (mlB 4611686018427387904 b) = true) : slp k b a = slp k a b := by
  cases p : (ps a && ps b)
  · cases n : (ns a && ns b)
    · rw [slp_z p n, slp_z (by rw [Bool.and_comm]; exact p) (by rw [Bool.and_comm]; exact n)]
    · rw [Bool.and_eq_true] at n
      rw [slp_n n.1 n.2, slp_n n.2 n.1]
      have h1 := ns_iff.1 n.1
      have h2 := ns_iff.1 n.2
      rw [lm_comm (ps_iff.2 (by omega)) (ps_iff.2 (by omega)) (fun e => by
        have := h e
        rw [fin_two_n n.1, fin_two_n n.2, decide_eq_true_iff, decide_eq_true_iff] at this
        exact this)]
  · rw [Bool.and_eq_true] at p
    rw [slp_p p.1 p.2, slp_p p.2 p.1]
    exact lm_comm p.1 p.2 (fun e => by
        have := h e
        rw [fin_two_p p.1, fin_two_p p.2, decide_eq_true_iff, decide_eq_true_iff] at this
        exact this)
theorem fin_q {r q : Nat} (h : IsQ r q) : fin r = fin q := by
  obtain ⟨h1, h2⟩ := h
  cases n : isN r
  · rw [qB_of n] at h2; rw [h2]
  · rw [qB_N n] at h2
    rw [← h2]
    have := isN_true.1 n
    unfold fin
    rw [decide_eq_false (by omega), decide_eq_false (by decide)]
end Go.Proofs.YtjgbaenihkplpaaDoor

/-
  The depth over an edge, as a number: by plain numbers (no program).
-/
namespace Go.Proofs.YtjgbaenihkplpaaDoor
open Tf Ieee
/-- what is above nothing, else +0 -/
def pos0 (r : Nat) : Nat := if fgt r 0 = true then r else 0
/-- the depth put forward by half a slope -/
def rcV (k : Int) (h hb hd : Nat) : Nat := plB h (mlB 4602678819172646912 (slp k (sbB h hb) (sbB hd h)))
/-- what stands above the higher bed -/
def rcG (l bu bd : Nat) : Nat := sbB l (maxB bu bd)
/-- the depth over an edge: of the depths here, behind and ahead, the level here and both beds -/
def rcR (k : Int) (h hb hd l bu bd : Nat) : Nat := pos0 (minB (rcV k h hb hd) (rcG l bu bd))
theorem pos0_lt {r : Nat} (h : r < 18446744073709551616) : pos0 r < 18446744073709551616 := by unfold pos0; split <;> omega
theorem isC_N {r c : Nat} (h : IsC r c) : isN r = isN c := by
  have e := h.2
  unfold canonB at e
  split at e
  · rename_i k; rw [k, ← e]; decide
  · rename_i k
    split at e
    · have n : isN r = false := by simpa using k
      rw [← e, n]; decide
    · rw [e]
theorem isC_or {r c : Nat} (h : IsC r c) (n : isN r = false) : (mg r = 0 ∧ c = 0) ∨ r = c := by
  have e := h.2
  unfold canonB at e
  rw [n] at e
  by_cases z : mg r = 0
  · exact .inl ⟨z, by simpa [z] using e.symm⟩
  · exact .inr (by simpa [z] using e)
theorem isC_ps {r c : Nat} (h : IsC r c) : ps r = ps c ∧ ns r = ns c := by
  cases n : isN r
  · rcases isC_or h n with ⟨z, rfl⟩ | rfl
    · have m := h.1
      have : r = 0 ∨ r = 9223372036854775808 := by unfold mg at z; omega
      rcases this with rfl | rfl <;> decide
    · exact ⟨rfl, rfl⟩
  · have nc : isN c = true := by rw [← isC_N h]; exact n
    have a := isN_true.1 n
    have b := isN_true.1 nc
    have c2 : c < 18446744073709551616 := by
      have := h.2
      rw [← this]
      unfold canonB
      rw [n, if_pos rfl]
      decide
    have h1 := h.1
    unfold mg at a b
    refine ⟨?_, ?_⟩
    · rw [ps_no.2 (by omega), ps_no.2 (by omega)]
    · rw [ns_no.2 (by omega), ns_no.2 (by omega)]
theorem slp_c (k : Int) {r c s d : Nat} (h : IsC r c) (g : IsC s d) (hr : ∀ _ : ps r = true ∨ ns r = true, r = c) (hs : ∀ _ : ps s = true ∨ ns s = true, s = d) : slp k r s = slp k c d := by
  have a := isC_ps h
  have b := isC_ps g
  by_cases p : (ps r && ps s) = true
  · have q := (Bool.and_eq_true _ _).mp p
    rw [hr (.inl q.1), hs (.inl q.2)]
  · by_cases n : (ns r && ns s) = true
    · have q := (Bool.and_eq_true _ _).mp n
      rw [hr (.inr q.1), hs (.inr q.2)]
    · have p' : (ps r && ps s) = false := by simpa using p
      have n' : (ns r && ns s) = false := by simpa using n
      rw [slp_z p' n', slp_z (by rw [← a.1, ← b.1]; exact p') (by rw [← a.2, ← b.2]; exact n')]
theorem isC_pn {r c : Nat} (h : IsC r c) (k : ps r = true ∨ ns r = true) : r = c := by
  have e := h.2
  have h1 := h.1
  have n : isN r = false := isN_false.2 (by
    rcases k with k | k
    · have := ps_iff.1 k; unfold mg; omega
    · have := ns_iff.1 k; unfold mg; omega)
  rcases isC_or h n with ⟨z, rfl⟩ | e
  · exfalso
    rcases k with k | k
    · have := ps_iff.1 k; unfold mg at z; omega
    · have := ns_iff.1 k; unfold mg at z; omega
  · exact e
/-- a slope of differences as they come is that of the differences in one form -/
theorem slp_raw (k : Int) {r c s d : Nat} (h : IsC r c) (g : IsC s d) : slp k r s = slp k c d := slp_c k h g (isC_pn h) (isC_pn g)
theorem slp_N (k : Int) (a b : Nat) : isN (slp k a b) = false := by
  unfold slp
  split
  · rename_i c
    have q := (Bool.and_eq_true _ _).mp c
    exact nn_N (lm_le k (ps_iff.1 q.1).2 (ps_iff.1 q.2).2)
  · split
    · rename_i c
      have q := (Bool.and_eq_true _ _).mp c
      have a1 := ns_iff.1 q.1
      have b1 := ns_iff.1 q.2
      have l := lm_le k (a := a - 9223372036854775808) (b := b - 9223372036854775808) (by omega) (by omega)
      refine isN_false.2 ?_
      unfold op
      split
      · unfold mg; omega
      · unfold mg; omega
    · decide
theorem minB_q {r v g : Nat} (h : IsQ r v) : minB r g = minB v g := by
  have e := h.2
  unfold qB at e
  split at e
  · rename_i n
    have nv : isN v = true := by rw [← e]; decide
    unfold minB
    rw [if_pos (by simp [n]), if_pos (by simp [nv])]
  · rw [e]
theorem minB_lt {a b : Nat} (ha : a < 18446744073709551616) (hb : b < 18446744073709551616) : minB a b < 18446744073709551616 := by
  unfold minB
  split
  · decide
  · split <;> assumption
/-- the lesser of two numbers: it is one of them, and not above either -/
theorem minB_num {a b : Nat} (ha : a < 18446744073709551616) (hb : b < 18446744073709551616) (na : isN a = false) (nb : isN b = false) :
    (minB a b = a ∨ minB a b = b) ∧ rk (minB a b) ≤ rk a ∧ rk (minB a b) ≤ rk b := by
  unfold minB
  rw [na, nb, if_neg (by decide)]
  have key : ∀ x y : Nat, x < 18446744073709551616 → y < 18446744073709551616 → placeB x ≤ placeB y → rk x ≤ rk y := by
    intro x y hx hy h
    unfold placeB at h
    unfold rk
    cases gx : ng x <;> cases gy : ng y <;> simp only [gx, gy, if_true, if_false, Bool.false_eq_true] at h ⊢ <;> unfold ng at gx gy <;> simp only [decide_eq_true_eq, decide_eq_false_iff_not] at gx gy <;> unfold mg <;> omega
  split
  · rename_i c
    exact ⟨.inr rfl, key _ _ hb ha (by omega), Int.le_refl _⟩
  · rename_i c
    exact ⟨.inl rfl, Int.le_refl _, key _ _ ha hb (by omega)⟩
theorem minB_nan {a b : Nat} (h : isN a = true ∨ isN b = true) : minB a b = quiet := by
  unfold minB
  rw [if_pos (by rcases h with h | h <;> simp [h])]
theorem pos0_q : pos0 quiet = 0 := by decide
theorem fgt_rk0 {x : Nat} (hx : x < 18446744073709551616) (n : isN x = false) : fgt x 0 = decide (0 < rk x) := by
  cases e : fgt x 0
  · symm
    rw [decide_eq_false_iff_not]
    intro h
    have := (fgt_iff (b := 0) hx (by decide)).2 ⟨n, by decide, by rw [rk_zero]; exact h⟩
    rw [e] at this; cases this
  · have := ((fgt_iff hx (by decide)).1 e).2.2
    rw [rk_zero] at this
    rw [decide_eq_true this]
/-- of a difference in another form of nothing it is the same -/
theorem pos0_c {v r g : Nat} (hv : v < 18446744073709551616) (h : IsC r g) : pos0 (minB v r) = pos0 (minB v g) := by
  cases nv : isN v
  · cases nr : isN r
    · rcases isC_or h nr with ⟨z, rfl⟩ | rfl
      · have m1 := minB_num hv h.1 nv nr
        have m2 := minB_num hv (b := 0) (by decide) nv (by decide)
        have r0 : rk r = 0 := by unfold rk; rw [z]; simp
        have l1 := minB_lt hv h.1
        have l2 := minB_lt hv (b := 0) (by decide)
        have z1 : pos0 (minB v r) = 0 := by
          unfold pos0
          rw [if_neg]
          intro q
          have := ((fgt_iff l1 (by decide)).1 q).2.2
          rw [rk_zero] at this
          omega
        have z2 : pos0 (minB v 0) = 0 := by
          unfold pos0
          rw [if_neg]
          intro q
          have := ((fgt_iff l2 (by decide)).1 q).2.2
          rw [rk_zero] at this m2
          omega
        rw [z1, z2]
      · rfl
    · rw [minB_nan (.inr nr), minB_nan (.inr (by rw [← isC_N h]; exact nr))]
  · rw [minB_nan (.inl nv), minB_nan (.inl nv)]
end Go.Proofs.YtjgbaenihkplpaaDoor

/-
  The depth over an edge: what it is held against (by plain numbers, no program).
-/
namespace Go.Proofs.YtjgbaenihkplpaaDoor
open Tf Ieee
theorem pos0_or (r : Nat) : fgt (pos0 r) 0 = true ∨ pos0 r = 0 := by
  by_cases c : fgt r 0 = true
  · left; unfold pos0; rw [if_pos c]; exact c
  · right; unfold pos0; rw [if_neg c]
theorem pos0_yes {r : Nat} (h : fgt (pos0 r) 0 = true) : pos0 r = r ∧ fgt r 0 = true := by
  by_cases c : fgt r 0 = true
  · exact ⟨by unfold pos0; rw [if_pos c], c⟩
  · unfold pos0 at h
    rw [if_neg c] at h
    exact absurd h (by decide)
/-- where it is above nothing it is the lesser of both -/
theorem gate_yes {v g : Nat} (hv : v < 18446744073709551616) (hg : g < 18446744073709551616) (h : fgt (pos0 (minB v g)) 0 = true) :
    fgt (pos0 (minB v g)) v = false ∧ fgt (pos0 (minB v g)) g = false ∧ (feq (pos0 (minB v g)) v = true ∨ feq (pos0 (minB v g)) g = true) := by
  obtain ⟨e, f⟩ := pos0_yes h
  rw [e]
  have hm := minB_lt hv hg
  cases nv : isN v
  · cases ng : isN g
    · obtain ⟨o, a, b⟩ := minB_num hv hg nv ng
      have nm : isN (minB v g) = false := by rcases o with o | o <;> rw [o] <;> assumption
      refine ⟨?_, ?_, ?_⟩
      · cases q : fgt (minB v g) v
        · rfl
        · have := ((fgt_iff hm hv).1 q).2.2
          omega
      · cases q : fgt (minB v g) g
        · rfl
        · have := ((fgt_iff hm hg).1 q).2.2
          omega
      · rcases o with o | o
        · left; rw [o, feq_rk v v hv hv, nv]; simp
        · right; rw [o, feq_rk g g hg hg, ng]; simp
    · rw [minB_nan (.inr ng)] at f; exact absurd f (by decide)
  · rw [minB_nan (.inl nv)] at f; exact absurd f (by decide)
theorem gate_no {v g : Nat} (hv : v < 18446744073709551616) (hg : g < 18446744073709551616) (h : fgt (pos0 (minB v g)) 0 = false) : (fgt v 0 && fgt g 0) = false := by
  cases a : fgt v 0
  · rfl
  · cases b : fgt g 0
    · rfl
    · exfalso
      have pa := (fgt_iff hv (b := 0) (by decide)).1 a
      have pb := (fgt_iff hg (b := 0) (by decide)).1 b
      obtain ⟨o, -, -⟩ := minB_num hv hg pa.1 pb.1
      have f : fgt (minB v g) 0 = true := by rcases o with o | o <;> rw [o] <;> assumption
      unfold pos0 at h
      rw [if_pos f, f] at h
      cases h
theorem rn_mv11 {d : Nat} (h : d ≤ 9218868437227405312) : rn false (mv d : Int) = d := by
  rw [rn_nn (Int.natCast_nonneg _), (R_mv d h).1]
  exact Int.toNat_natCast d
theorem sv_z : sv 9223372036854775808 = 0 := by
  have h : sv 9223372036854775808 = -((mv 0 : Nat) : Int) := rfl
  rw [h, show mv 0 = 0 by decide]
  rfl
theorem sv_0 : sv 0 = 0 := by
  rw [sv_nn (by decide), show mv 0 = 0 by decide]
  rfl
theorem add_0l {d : Nat} (h : d < 9218868437227405312) : addB 0 d = d := by
  have m : mg d = d := mg_of_lt (by omega)
  rw [addB_fin 0 d (by decide) (by omega) (by decide) (by omega), sv_nn (d := d) (by omega), sv_0, Int.zero_add]
  exact rn_mv11 (by omega)
theorem sb_0r {d : Nat} (h : d < 9218868437227405312) : sbB d 0 = d := by
  have m : mg d = d := mg_of_lt (by omega)
  unfold sbB
  rw [show negB 0 = 9223372036854775808 by decide, addB_fin d _ (by omega) (by decide) (by omega) (by decide), sv_nn (d := d) (by omega), sv_z, Int.add_zero]
  exact rn_mv11 (by omega)
/-- a sum of what isn't below nothing with a finite number -/
theorem pl_fin {h f : Nat} (hh : h < 9218868437227405312) (hf : f < 18446744073709551616) (ff : mg f < 9218868437227405312) : plB h f = rn false ((mv h : Int) + sv f) := by
  have m : mg h = h := mg_of_lt (by omega)
  rw [plB_some (add_d h f (by omega) hf (by omega) ff), ng_of_lt (x := h) (by omega), sv_nn (d := h) (by omega)]
  rfl
theorem pl_0r {h : Nat} (hh : h < 9218868437227405312) : plB h 0 = h := by
  rw [pl_fin hh (by decide) (by decide), sv_0, Int.add_zero]
  exact rn_mv11 (by omega)
theorem ml_h0 : mlB 4602678819172646912 0 = 0 := by decide +kernel
theorem minB_nn {a b : Nat} (ha : a ≤ 9218868437227405312) (hb : b ≤ 9218868437227405312) : minB a b = min a b := by
  unfold minB
  rw [nn_N ha, nn_N hb, if_neg (by decide)]
  unfold placeB
  rw [ng_of_lt (x := a) (by omega), ng_of_lt (x := b) (by omega)]
  simp only [Bool.false_eq_true, if_false]
  split <;> omega
theorem pos0_nn {h : Nat} (hh : h ≤ 9218868437227405312) : pos0 h = h := by
  unfold pos0
  rw [fgt_nn hh (by decide)]
  by_cases c : 0 < h
  · rw [if_pos (decide_eq_true c)]
  · rw [if_neg (by rw [decide_eq_false c]; decide)]
    omega
/-- over a flat bed: the depth put forward, and no more than the depth here -/
theorem flat_R (k : Int) {h hb hd : Nat} (hh : h < 9218868437227405312) : rcR k h hb hd (addB 0 h) 0 0 = pos0 (minB (rcV k h hb hd) h) := by
  unfold rcR rcG
  rw [add_0l hh, show maxB 0 0 = 0 by decide, sb_0r hh]
theorem flat_z {k : Int} {h hb hd : Nat} (hh : h < 9218868437227405312) (hs : slp k (sbB h hb) (sbB hd h) = 0) : pos0 (minB (rcV k h hb hd) h) = h := by
  unfold rcV
  rw [hs, ml_h0, pl_0r hh, minB_nn (by omega) (by omega), Nat.min_self]
  exact pos0_nn (by omega)
theorem flat_le {v h : Nat} (hv : v < 18446744073709551616) (hh : h < 9218868437227405312) : (flt (pos0 (minB v h)) h || feq (pos0 (minB v h)) h) = true := by
  have nh : isN h = false := nn_N (by omega)
  have rh : rk h = (h : Int) := by
    unfold rk
    rw [ng_of_lt (by omega), mg_of_lt (by omega)]
    rfl
  cases nv : isN v
  · obtain ⟨o, a, b⟩ := minB_num hv (b := h) (by omega) nv nh
    have nm : isN (minB v h) = false := by rcases o with o | o <;> rw [o] <;> assumption
    have lm := minB_lt hv (b := h) (by omega)
    unfold pos0
    split
    · rw [fle_of lm (by omega) nm nh]
      exact decide_eq_true b
    · rw [fle_of (by decide) (by omega) (by decide) nh, rk_zero, rh]
      exact decide_eq_true (by omega)
  · rw [minB_nan (.inl nv), pos0_q, fle_of (by decide) (by omega) (by decide) nh, rk_zero, rh]
    exact decide_eq_true (by omega)
end Go.Proofs.YtjgbaenihkplpaaDoor

/-
  The depth over an edge by sides of cells, and turns: by plain numbers (no program).
-/
namespace Go.Proofs.YtjgbaenihkplpaaDoor
open Tf Ieee Cu
/-- the depth from one cell into another, by their areas, beds and waters -/
def ovC (k : Int) (A : Nat → Int) (B : Nat → Nat) (W : Nat → Int) (up down back : Nat) : Nat :=
  rcR k (dpB (W up) (A up)) (dpB (W back) (A back)) (dpB (W down) (A down)) (lvl (B up) (W up) (A up)) (B up) (B down)
/-- the cell behind the cell of a side -/
def bkC (n t : Nat) : Nat := bsC n (t / 4) ((t % 4 + 2) % 4)
/-- the depth over a side, out of its cell -/
def sdD (n : Nat) (k : Int) (A : Nat → Int) (B : Nat → Nat) (W : Nat → Int) (t : Nat) : Nat := ovC k A B W (t / 4) (mt n t / 4) (bkC n t)
/-- the depth over an edge, by its Left's side and the speed -/
def rdT (n : Nat) (k : Int) (A : Nat → Int) (B : Nat → Nat) (W : Nat → Int) (t u : Nat) : Nat :=
  if fgt u 0 = true then sdD n k A B W t else if flt u 0 = true then sdD n k A B W (mt n t) else 0
theorem ovC_or (k : Int) (A : Nat → Int) (B : Nat → Nat) (W : Nat → Int) (a b c : Nat) : fgt (ovC k A B W a b c) 0 = true ∨ ovC k A B W a b c = 0 := pos0_or _
theorem rdT_or (n : Nat) (k : Int) (A : Nat → Int) (B : Nat → Nat) (W : Nat → Int) (t u : Nat) : fgt (rdT n k A B W t u) 0 = true ∨ rdT n k A B W t u = 0 := by
  unfold rdT
  split
  · exact ovC_or _ _ _ _ _ _ _
  · split
    · exact ovC_or _ _ _ _ _ _ _
    · exact .inr rfl
/-- one is above nothing, the opposite below -/
theorem sgn_1 : fgt 4607182418800017408 0 = true ∧ flt 4607182418800017408 0 = false ∧ fgt 13830554455654793216 0 = false ∧ flt 13830554455654793216 0 = true ∧ fgt 0 0 = false ∧ flt 0 0 = false := by decide
theorem rdT_p {n : Nat} {k : Int} {A : Nat → Int} {B : Nat → Nat} {W : Nat → Int} {t u : Nat} (h : fgt u 0 = true) : rdT n k A B W t u = sdD n k A B W t := by unfold rdT; rw [if_pos h]
theorem rdT_n {n : Nat} {k : Int} {A : Nat → Int} {B : Nat → Nat} {W : Nat → Int} {t u : Nat} (h : fgt u 0 = false) (g : flt u 0 = true) : rdT n k A B W t u = sdD n k A B W (mt n t) := by unfold rdT; rw [if_neg (by rw [h]; decide), if_pos g]
theorem rdT_0 {n : Nat} {k : Int} {A : Nat → Int} {B : Nat → Nat} {W : Nat → Int} {t u : Nat} (h : fgt u 0 = false) (g : flt u 0 = false) : rdT n k A B W t u = 0 := by unfold rdT; rw [if_neg (by rw [h]; decide), if_neg (by rw [g]; decide)]
/-- a side that is turned -/
def tnT (n r t : Nat) : Nat := 4 * tnC n r (t / 4) + (t % 4 + tnS n r (t / 4)) % 4
theorem tnT_dec (n r t : Nat) : tnT n r t / 4 = tnC n r (t / 4) ∧ tnT n r t % 4 = (t % 4 + tnS n r (t / 4)) % 4 := by unfold tnT; omega
theorem tnT_lt {n r t : Nat} (hn : 1 ≤ n) (ht : t < 24 * n * n) (hr : r < 24) : tnT n r t < 24 * n * n := by
  have g := turned_geo (k := t / 4) hn rfl (t_cell ht) (show t % 4 < 4 by omega) hr (t_cell ht)
  exact t_lt g.1.1 (by omega)
theorem mt_tn {n r t : Nat} (hn : 1 ≤ n) (ht : t < 24 * n * n) (hr : r < 24) : mt n (tnT n r t) = tnT n r (mt n t) := by
  have g := turned_geo (k := t / 4) hn rfl (t_cell ht) (show t % 4 < 4 by omega) hr (t_cell ht)
  have d := tnT_dec n r t
  have m := mt_dec hn ht
  unfold mt
  rw [d.1, d.2, g.2.1, g.2.2.1]
  show _ = tnT n r (mt n t)
  unfold tnT
  rw [m.1, m.2]
theorem bk_tn {n r t : Nat} (hn : 1 ≤ n) (ht : t < 24 * n * n) (hr : r < 24) : bkC n (tnT n r t) = tnC n r (bkC n t) := by
  have g := turned_geo (s := (t % 4 + 2) % 4) (k := t / 4) hn rfl (t_cell ht) (by omega) hr (t_cell ht)
  have d := tnT_dec n r t
  unfold bkC
  rw [d.1, d.2, ← g.2.1]
  congr 1
  omega
theorem bk_lt {n t : Nat} (hn : 1 ≤ n) (ht : t < 24 * n * n) : bkC n t < 6 * n * n := by
  have g := turned_geo (s := (t % 4 + 2) % 4) (t := 0) (k := t / 4) hn rfl (t_cell ht) (by omega) (by decide) (t_cell ht)
  exact g.1.2.2.1
/-- a turned sea has the same depth over a turned side -/
theorem sd_tn {n r t : Nat} {k : Int} {A A' : Nat → Int} {B B' : Nat → Nat} {W W' : Nat → Int} (hn : 1 ≤ n) (ht : t < 24 * n * n) (hr : r < 24)
    (hA : ∀ c, c < 6 * n * n → A' (tnC n r c) = A c) (hB : ∀ c, c < 6 * n * n → B' (tnC n r c) = B c) (hW : ∀ c, c < 6 * n * n → W' (tnC n r c) = W c) : sdD n k A' B' W' (tnT n r t) = sdD n k A B W t := by
  have d := tnT_dec n r t
  have m := mt_lt hn ht
  have d2 := tnT_dec n r (mt n t)
  have c1 := t_cell ht
  have c2 := t_cell m
  have c3 := bk_lt hn ht
  unfold sdD ovC
  rw [mt_tn hn ht hr, bk_tn hn ht hr, d.1, d2.1, hA _ c1, hA _ c2, hA _ c3, hB _ c1, hB _ c2, hW _ c1, hW _ c2, hW _ c3]
/-- the edge over a side, and the sign with which the side is its Left -/
theorem rd_side {n t u v : Nat} {k : Int} {A : Nat → Int} {B : Nat → Nat} {W : Nat → Int} (hn : 1 ≤ n) (ht : t < 24 * n * n)
    (hu : (fgt u 0 = true ∧ fgt v 0 = false ∧ flt v 0 = true) ∨ (fgt u 0 = false ∧ flt u 0 = true ∧ fgt v 0 = true)) :
    rdT n k A B W (mt n t) v = rdT n k A B W t u := by
  rcases hu with ⟨h1, h2, h3⟩ | ⟨h1, h2, h3⟩
  · rw [rdT_p h1, rdT_n h2 h3, mt_mt hn ht]
  · rw [rdT_n h1 h2, rdT_p h3]
/-- it hangs on three cells alone, of the one behind on its water -/
theorem sd_local {n t : Nat} {k : Int} {A : Nat → Int} {B B' : Nat → Nat} {W W' : Nat → Int} (b1 : B (t / 4) = B' (t / 4)) (b2 : B (mt n t / 4) = B' (mt n t / 4)) (w1 : W (t / 4) = W' (t / 4)) (w2 : W (mt n t / 4) = W' (mt n t / 4)) (w3 : W (bkC n t) = W' (bkC n t)) : sdD n k A B W t = sdD n k A B' W' t := by
  unfold sdD ovC
  rw [b1, b2, w1, w2, w3]
end Go.Proofs.YtjgbaenihkplpaaDoor
