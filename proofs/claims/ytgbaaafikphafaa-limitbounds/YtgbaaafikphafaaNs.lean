/-
  Vectors doubled, by plain numbers (no program).
-/
import Derived.Test.YtgbaaafikphafaaNr
import Derived.Test.YtgbaaafikphafaaNk
namespace Go.Proofs.Ytgbaaafikphafaa
open Tf Ieee
def Hi (h x : Nat) : Prop := mg x = 0 ∨ (238690780250636288 ≤ mg x ∧ mg x ≤ h)
theorem Hi.md {h x : Nat} (k : Hi h x) (hh : h + 4503599627370496 < 9218868437227405312) : Md x := by
  rcases k with k | k
  · exact .inl k
  · exact .inr ⟨by omega, by omega⟩
theorem mv_52 {r : Nat} (h : 238690780250636288 ≤ r) : ∃ q, mv r = q * 4503599627370496 := by
  unfold mv mag
  have e : (2 : Nat) ^ 52 = 4503599627370496 := by decide
  rw [if_neg (by omega), e]
  obtain ⟨j, hj⟩ : ∃ j, r / 4503599627370496 - 1 = 52 + j := ⟨r / 4503599627370496 - 1 - 52, by omega⟩
  rw [hj, Nat.pow_add, e]
  exact ⟨(4503599627370496 + r % 4503599627370496) * 2 ^ j, by rw [← Nat.mul_assoc, Nat.mul_right_comm]⟩
theorem Hi.sv {h x : Nat} (k : Hi h x) : ∃ q : Int, sv x = q * 4503599627370496 := by
  unfold Tf.sv
  rcases k with k | k
  · rw [k, mv_zero]; exact ⟨0, by cases ng x <;> rfl⟩
  · obtain ⟨q, hq⟩ := mv_52 k.1
    rw [hq]
    cases ng x
    · exact ⟨q, by simp⟩
    · exact ⟨-q, by simp; omega⟩
theorem Hi.abs {h x : Nat} (k : Hi h x) : (Tf.sv x).natAbs ≤ mv h := by
  have : (Tf.sv x).natAbs = mv (mg x) := by unfold Tf.sv; cases ng x <;> simp
  rw [this]
  rcases k with k | k
  · rw [k, mv_zero]; omega
  · exact mv_le.2 k.2
theorem sum_ok {h a b : Nat} (ka : Hi h a) (kb : Hi h b) (h1 : 4503599627370496 ≤ h) (h2 : h + 9007199254740992 < 9218868437227405312) :
    (sv a + sv b = 0 ∨ (4503599627370496 ≤ (sv a + sv b).natAbs ∧ rung 52 0 (sv a + sv b).natAbs + 4503599627370496 ≤ 9218868437227405312)) ∧ rung 52 0 (sv a + sv b).natAbs ≤ h + 4503599627370496 := by
  obtain ⟨p, hp⟩ := ka.sv
  obtain ⟨q, hq⟩ := kb.sv
  have x1 := ka.abs
  have x2 := kb.abs
  have hle : rung 52 0 (sv a + sv b).natAbs ≤ h + 4503599627370496 := by
    refine rung_le (by omega) ?_
    rw [Nat.pow_zero, Nat.mul_one]
    have : mv (h + 4503599627370496) = 2 * mv h := mv_dbl h1
    show _ ≤ mv (h + 4503599627370496)
    omega
  refine ⟨?_, hle⟩
  by_cases c : sv a + sv b = 0
  · exact .inl c
  · refine .inr ⟨?_, by omega⟩
    rw [hp, hq] at c ⊢
    have : p + q ≠ 0 := by
      intro e
      have : p * 4503599627370496 + q * 4503599627370496 = (p + q) * 4503599627370496 := by rw [Int.add_mul]
      rw [this, e] at c
      exact c (by omega)
    omega
theorem addB_db {h a b : Nat} (ha : a < 18446744073709551616) (hb : b < 18446744073709551616) (ka : Hi h a) (kb : Hi h b) (h1 : 4503599627370496 ≤ h) (h2 : h + 9007199254740992 < 9218868437227405312) :
    addB (db a) (db b) = db (addB a b) ∧ Md (addB a b) := by
  have ma := ka.md (by omega)
  have mb := kb.md (by omega)
  obtain ⟨s1, s2⟩ := sum_ok ka kb h1 h2
  rw [addB_fin _ _ (db_lt ma.w ha) (db_lt mb.w hb) ma.dfin mb.dfin, addB_fin a b ha hb ma.fin mb.fin, db_sv ma ha, db_sv mb hb, ← Int.mul_add, rn_dbl false s1]
  refine ⟨rfl, ?_⟩
  unfold Md
  rw [rn_mg]
  rcases s1 with s1 | s1
  · rw [s1]; left; rw [show (0 : Int).natAbs = 0 from rfl, rung_none]; rfl
  · right
    have hb := rung_ge (p := 52) (d := 0) (r := 4503599627370496) (V := (sv a + sv b).natAbs) (by omega) (by
      rw [Nat.pow_zero, Nat.mul_one, show mag 52 4503599627370496 = 4503599627370496 by decide]; exact s1.1)
    generalize rung 52 0 (sv a + sv b).natAbs = r at *
    omega
theorem sbB_db {h a b : Nat} (ha : a < 18446744073709551616) (hb : b < 18446744073709551616) (ka : Hi h a) (kb : Hi h b) (h1 : 4503599627370496 ≤ h) (h2 : h + 9007199254740992 < 9218868437227405312) :
    sbB (db a) (db b) = db (sbB a b) ∧ Md (sbB a b) := by
  have mb := kb.md (by omega)
  have kn : Hi h (negB b) := by unfold Hi; rw [negB_mg hb]; exact kb
  unfold sbB
  rw [← db_neg mb hb]
  exact addB_db ha (negB_lt' hb) ka kn h1 h2
/-- a number that is no less than nothing -/
def Ps (h x : Nat) : Prop := Hi h x ∧ x < 9223372036854775808
theorem Ps.lt {h x : Nat} (k : Ps h x) : x < 18446744073709551616 := by have := k.2; omega
theorem Ps.ng {h x : Nat} (k : Ps h x) : Tf.ng x = false := ng_of_lt k.2
theorem Ps.mg {h x : Nat} (k : Ps h x) : Tf.mg x = x := mg_of_lt k.2
theorem Ps.up {h g x : Nat} (k : Ps h x) (hg : h ≤ g) : Ps g x := ⟨by rcases k.1 with a | a; exact .inl a; exact .inr ⟨a.1, by omega⟩, k.2⟩
theorem Ps.db {h x : Nat} (k : Ps h x) (hh : h + 4503599627370496 < 9218868437227405312) : Ps (h + 4503599627370496) (db x) := by
  have m := k.1.md hh
  have e := db_mg m.w
  have e2 := db_ng m.w k.lt
  rw [k.ng] at e2
  refine ⟨?_, lt_of_ng e2⟩
  unfold Hi
  rw [e]
  rcases k.1 with a | a
  · rw [if_pos a]; exact .inl rfl
  · rw [if_neg (by omega)]; exact .inr ⟨by omega, by omega⟩
theorem plB_db {h a b : Nat} (ka : Ps h a) (kb : Ps h b) (h1 : 4503599627370496 ≤ h) (h2 : h + 9007199254740992 < 9218868437227405312) :
    plB (db a) (db b) = db (plB a b) ∧ Ps (h + 4503599627370496) (plB a b) := by
  have ma := ka.1.md (by omega)
  have mb := kb.1.md (by omega)
  obtain ⟨s1, s2⟩ := sum_ok ka.1 kb.1 h1 h2
  rw [plB_some (add_d _ _ (db_lt ma.w ka.lt) (db_lt mb.w kb.lt) ma.dfin mb.dfin), plB_some (add_d a b ka.lt kb.lt ma.fin mb.fin), db_sv ma ka.lt, db_sv mb kb.lt, ← Int.mul_add, db_ng ma.w ka.lt, rn_dbl _ s1, db_ng mb.w kb.lt]
  refine ⟨rfl, ?_⟩
  have ea : sv a = (mv a : Int) := by unfold sv; rw [ka.ng, ka.mg]; rfl
  have eb : sv b = (mv b : Int) := by unfold sv; rw [kb.ng, kb.mg]; rfl
  have hlt : rn (ng a && ng b) (sv a + sv b) < 9223372036854775808 := by
    rw [ka.ng, ea, eb]
    unfold rn
    have : ¬ ((mv a : Int) + (mv b : Int) < 0) := by omega
    rw [decide_eq_false this]
    simp only [Bool.false_and, ite_self, Bool.false_eq_true, if_false]
    exact Nat.lt_of_le_of_lt (Nat.min_le_right _ _) (by decide)
  refine ⟨?_, hlt⟩
  unfold Hi
  rw [rn_mg]
  rw [Nat.min_eq_left (by omega)]
  rcases ka.1 with a0 | a1
  · rcases kb.1 with b0 | b1
    · left
      rw [ka.mg] at a0
      rw [kb.mg] at b0
      rw [ea, eb, a0, b0, mv_zero]
      exact rung_none 0
    · right
      refine ⟨rung_ge (by omega) ?_, s2⟩
      rw [kb.mg] at b1
      rw [Nat.pow_zero, Nat.mul_one]
      have : mv 238690780250636288 ≤ mv b := mv_le.2 b1.1
      show mv 238690780250636288 ≤ _
      omega
  · right
    refine ⟨rung_ge (by omega) ?_, s2⟩
    rw [ka.mg] at a1
    rw [Nat.pow_zero, Nat.mul_one]
    have : mv 238690780250636288 ≤ mv a := mv_le.2 a1.1
    show mv 238690780250636288 ≤ _
    omega
theorem key_db {h a b : Nat} (ka : Ps h a) (kb : Ps h b) (hh : h + 4503599627370496 < 9218868437227405312) : (key (db b) < key (db a)) = (key b < key a) := by
  have da := ka.db hh
  have db' := kb.db hh
  have ea := db_mg (ka.1.md hh).w
  have eb := db_mg (kb.1.md hh).w
  unfold key
  rw [da.ng, db'.ng, ka.ng, kb.ng, ea, eb]
  apply propext
  by_cases ca : mg a = 0
  · by_cases cb : mg b = 0
    · rw [if_pos ca, if_pos cb, ca, cb]
    · rw [if_pos ca, if_neg cb]; omega
  · by_cases cb : mg b = 0
    · rw [if_neg ca, if_pos cb]; simp; omega
    · rw [if_neg ca, if_neg cb]; simp
theorem lo_db {h a b : Nat} (ka : Ps h a) (kb : Ps h b) (hh : h + 4503599627370496 < 9218868437227405312) : loB (db a) (db b) = db (loB a b) ∧ hiB (db a) (db b) = db (hiB a b) ∧ Ps h (loB a b) ∧ Ps h (hiB a b) := by
  have e := key_db ka kb hh
  unfold loB hiB
  by_cases c : key b < key a
  · rw [if_pos (by rw [e]; exact c), if_pos c, if_pos (by rw [e]; exact c), if_pos c]
    exact ⟨rfl, rfl, kb, ka⟩
  · rw [if_neg (by rw [e]; exact c), if_neg c, if_neg (by rw [e]; exact c), if_neg c]
    exact ⟨rfl, rfl, ka, kb⟩
theorem thB_db {h a b c : Nat} (ka : Ps h a) (kb : Ps h b) (kc : Ps h c) (h1 : 4503599627370496 ≤ h) (h2 : h + 13510798882111488 < 9218868437227405312) :
    thB (db a) (db b) (db c) = db (thB a b c) ∧ Ps (h + 9007199254740992) (thB a b c) := by
  obtain ⟨e1, e2, k1, k2⟩ := lo_db ka kb (by omega)
  obtain ⟨e3, e4, k3, k4⟩ := lo_db k2 kc (by omega)
  obtain ⟨e5, e6, k5, k6⟩ := lo_db k1 k3 (by omega)
  obtain ⟨p1, p2⟩ := plB_db k5 k6 h1 (by omega)
  obtain ⟨g, hg⟩ : ∃ g, h + 4503599627370496 = g := ⟨_, rfl⟩
  rw [hg] at p2
  have k7 : Ps g (hiB (hiB a b) c) := k4.up (by omega)
  obtain ⟨p3, p4⟩ := plB_db p2 k7 (by omega) (by omega)
  have p5 : Ps (h + 9007199254740992) (plB (plB (loB (loB a b) (loB (hiB a b) c)) (hiB (loB a b) (loB (hiB a b) c))) (hiB (hiB a b) c)) := p4.up (by omega)
  unfold thB
  rw [e1, e2, e3, e4, e5, e6, p1, p3]
  exact ⟨rfl, p5⟩
/-- from 1e-100 to 1e100, or nought -/
def In1 (x : Nat) : Prop := mg x = 0 ∨ (3110860544497550640 ≤ mg x ∧ mg x ≤ 6103021453049119613)
theorem In1.hi {x : Nat} (k : In1 x) : Hi 6103021453049119613 x := by
  rcases k with k | k
  · exact .inl k
  · exact .inr ⟨by omega, k.2⟩
theorem In1.md {x : Nat} (k : In1 x) : Md x := k.hi.md (by omega)
theorem pr_lo : mv 1599789920352257571 * 2 ^ K ≤ mv 3110860544497550640 * mv 3110860544497550640 := by decide +kernel
theorem pr_hi : mv 6103021453049119613 * mv 6103021453049119613 ≤ mv 7613934262404594417 * 2 ^ K := by decide +kernel
theorem pr_lg : 2 ^ (52 + K) ≤ mv 3110860544497550640 * mv 3110860544497550640 := by decide +kernel
theorem rung_ge' {d r V : Nat} (h : mv r * 2 ^ d ≤ V) : r ≤ rung 52 d V := rung_ge (by omega) h
theorem rung_le' {d r V : Nat} (h : V ≤ mv r * 2 ^ d) : rung 52 d V ≤ r := rung_le (by omega) h
theorem pr_rung {V : Nat} (h1 : mv 3110860544497550640 * mv 3110860544497550640 ≤ V) (h2 : V ≤ mv 6103021453049119613 * mv 6103021453049119613) :
    52 + 1074 ≤ V.log2 ∧ 1599789920352257571 ≤ rung 52 1074 V ∧ rung 52 1074 V ≤ 7613934262404594417 := by
  have hV : 2 ^ (52 + K) ≤ V := Nat.le_trans pr_lg h1
  have h0 : V ≠ 0 := by have := Nat.two_pow_pos (52 + K); omega
  refine ⟨?_, ?_, ?_⟩
  · have := (Nat.le_log2 h0).2 hV
    exact this
  · exact rung_ge' (d := K) (Nat.le_trans pr_lo h1)
  · exact rung_le' (d := K) (Nat.le_trans h2 pr_hi)
theorem In1.far {x y : Nat} (kx : In1 x) (ky : In1 y) : Far x y := by
  rcases kx with kx | kx
  · exact .inl (.inl kx)
  · rcases ky with ky | ky
    · exact .inl (.inr ky)
    · obtain ⟨a, b, c⟩ := pr_rung (Nat.mul_le_mul (mv_le.2 kx.1) (mv_le.2 ky.1)) (Nat.mul_le_mul (mv_le.2 kx.2) (mv_le.2 ky.2))
      exact .inr ⟨a, by omega⟩
theorem In1.prod {x y : Nat} (hx : x < 18446744073709551616) (hy : y < 18446744073709551616) (kx : In1 x) (ky : In1 y) : Hi 7613934262404594417 (mlB x y) := by
  rw [mul_w hx hy kx.md.fin ky.md.fin]
  show Hi _ (wd (ng x ^^ ng y) _)
  unfold Hi
  have z : (mg x = 0 ∨ mg y = 0) → mv (mg x) * mv (mg y) = 0 := by
    intro h
    rcases h with h | h
    · rw [h, mv_zero, Nat.zero_mul]
    · rw [h, mv_zero, Nat.mul_zero]
  rcases kx with kx | kx
  · rw [z (.inl kx), rung_none, Nat.zero_min, wd_mg (by omega)]; exact .inl rfl
  · rcases ky with ky | ky
    · rw [z (.inr ky), rung_none, Nat.zero_min, wd_mg (by omega)]; exact .inl rfl
    · obtain ⟨a, b, c⟩ := pr_rung (Nat.mul_le_mul (mv_le.2 kx.1) (mv_le.2 ky.1)) (Nat.mul_le_mul (mv_le.2 kx.2) (mv_le.2 ky.2))
      generalize rung 52 1074 (mv (mg x) * mv (mg y)) = r at *
      rw [Nat.min_eq_left (by omega), wd_mg (by omega)]
      exact .inr ⟨by omega, c⟩
theorem In1.sq {x : Nat} (hx : x < 18446744073709551616) (k : In1 x) : Ps 7613934262404594417 (sqB x) := by
  refine ⟨k.prod hx hx k, ?_⟩
  unfold sqB
  rw [mul_w hx hx k.md.fin k.md.fin, Bool.xor_self]
  simp only [Bool.false_eq_true, if_false]
  exact Nat.lt_of_le_of_lt (Nat.min_le_right _ _) (by decide)
theorem In1.sq_db {x : Nat} (hx : x < 18446744073709551616) (k : In1 x) : sqB (db x) = db (db (sqB x)) := by
  have m := k.md
  have md : Md (db x) := by
    unfold Md
    rw [db_mg m.w]
    rcases k with k | k
    · rw [if_pos k]; exact .inl rfl
    · rw [if_neg (by omega)]; exact .inr ⟨by omega, by omega⟩
  have f : Far x (db x) := by
    unfold Far
    rw [db_mg m.w]
    rcases k with k | k
    · exact .inl (.inl k)
    · rw [if_neg (by omega)]
      obtain ⟨a, b, c⟩ := pr_rung (Nat.mul_le_mul (mv_le.2 k.1) (mv_le.2 k.1)) (Nat.mul_le_mul (mv_le.2 k.2) (mv_le.2 k.2))
      have h0 : mv (mg x) * mv (mg x) ≠ 0 := by intro e; rw [e] at a; simp at a
      rw [mv_dbl (by omega), show mv (mg x) * (2 * mv (mg x)) = mv (mg x) * mv (mg x) * 2 by rw [Nat.mul_left_comm, Nat.mul_comm]]
      have hl : (mv (mg x) * mv (mg x) * 2).log2 = (mv (mg x) * mv (mg x)).log2 + 1 := by
        have := log2_mul_pow (mv (mg x) * mv (mg x)) 1 h0
        rwa [Nat.pow_one] at this
      rw [rung_dbl h0 a, hl]
      exact .inr ⟨by omega, by omega⟩
  unfold sqB
  rw [mlB_db hx (db_lt m.w hx) m md f, mlB_dbr hx hx m m (k.far k)]
/-- how long a doubled vector is -/
theorem In1.ln {x y z : Nat} (hx : x < 18446744073709551616) (hy : y < 18446744073709551616) (hz : z < 18446744073709551616) (kx : In1 x) (ky : In1 y) (kz : In1 z) :
    lnB (db x) (db y) (db z) = db (lnB x y z) ∧ Md (lnB x y z) := by
  have s1 := kx.sq hx
  have s2 := ky.sq hy
  have s3 := kz.sq hz
  obtain ⟨t1, t2⟩ := thB_db s1 s2 s3 (by omega) (by omega)
  obtain ⟨t3, _⟩ := thB_db (s1.db (by omega)) (s2.db (by omega)) (s3.db (by omega)) (by omega) (by omega)
  unfold lnB
  rw [kx.sq_db hx, ky.sq_db hy, kz.sq_db hz, t3, t1]
  refine rtB_db t2.lt t2.ng ?_
  rcases t2.1 with h | h
  · exact .inl h
  · exact .inr ⟨by omega, by omega⟩
theorem lv_db {l : Nat} (hl : l < 18446744073709551616) (hn : ng l = false) (m : Md l) : lvB (db l) = lvB l := by
  rw [lv_class hl hn, lv_class (db_lt m.w hl) (by rw [db_ng m.w hl]; exact hn)]
  unfold classB
  rw [db_mg m.w]
  rcases m with h | h
  · rw [if_pos h, h]
  · rw [if_neg (show ¬ mg l = 0 by omega)]
    rw [if_neg (show ¬ mg l + 4503599627370496 = 0 by omega), if_neg (show ¬ mg l + 4503599627370496 < 4503599627370496 by omega), if_pos (show mg l + 4503599627370496 < 9218868437227405312 by omega), if_neg (show ¬ mg l = 0 by omega), if_neg (show ¬ mg l < 4503599627370496 by omega), if_pos (show mg l < 9218868437227405312 by omega)]
theorem un_db {x l : Nat} (hx : x < 18446744073709551616) (hl : l < 18446744073709551616) (hn : ng l = false) (mx : Md x) (ml : Md l) : unB (db l) (db x) = unB l x := by
  unfold unB
  rw [lv_db hl hn ml]
  by_cases c : lvB l = true
  · rw [if_pos c, if_pos c]
    refine dvB_db hx hl mx ml ?_
    intro h
    rw [lv_class hl hn] at c
    unfold classB at c
    rw [if_pos h] at c
    simp at c
  · rw [if_neg c, if_neg c]
theorem can_db {m : Nat} (hc : canonB m = m) (k : Md m) : canonB (db m) = db m := by
  have hN : ¬ isN (db m) = true := by have := k.dfin; rw [isN_true]; omega
  unfold canonB
  rw [if_neg hN, db_mg k.w]
  rcases k with k | k
  · rw [if_pos k, if_pos rfl]
    unfold canonB at hc
    rw [if_neg (by rw [isN_true]; omega), if_pos k] at hc
    rw [← hc]; decide
  · rw [if_neg (show ¬ mg m = 0 by omega), if_neg (by omega)]
end Go.Proofs.Ytgbaaafikphafaa
