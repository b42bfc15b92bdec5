/-
  Some of the texts of this proof, one behind the other.
-/
import Derived.Test.YtomenbbhdnfciaaGreatDoorQ10
namespace Go.Proofs.YtomenbbhdnfciaaGreatDoor
open Tf Ieee
def Hi (h x : Nat) : Prop := mg x = 0 ∨ (238690780250636288 ≤ mg x ∧ mg x ≤ h)
theorem Hi.md {h x : Nat} (k : Hi h x) (hh : h + 4503599627370496 < 9218868437227405312) : Md x := by
  rcases k with k | k
  · exact .inl k
  · exact .inr ⟨by omega, by omega⟩
theorem mv_52 {r : Nat} (h : 238690780250636288 ≤ r) : ∃ q, mv r = q * 4503599627370496 := by
  unfold mv mag
  have e : (2 : Nat) ^ 52 = 4503599627370496 := by decide
  rw [if_neg (by omega), e]
  obtain ⟨j, hj⟩ : ∃ j, r / 4503599627370496 - 1 = 52 + j := ⟨r / 4503599627370496 - 1 - 52, by omega⟩
  rw [hj, Nat.pow_add, e]
  exact ⟨(4503599627370496 + r % 4503599627370496) * 2 ^ j, by rw [← Nat.mul_assoc, Nat.mul_right_comm]⟩
theorem Hi.sv {h x : Nat} (k : Hi h x) : ∃ q : Int, sv x = q * 4503599627370496 := by
  unfold Tf.sv
  rcases k with k | k
  · rw [k, mv_zero]; exact ⟨0, by cases ng x <;> rfl⟩
  · obtain ⟨q, hq⟩ := mv_52 k.1
    rw [hq]
    cases ng x
    · exact ⟨q, by simp⟩
    · exact ⟨-q, by simp; omega⟩
theorem Hi.abs {h x : Nat} (k : Hi h x) : (Tf.sv x).natAbs ≤ mv h := by
  have : (Tf.sv x).natAbs = mv (mg x) := by unfold Tf.sv; cases ng x <;> simp
  rw [this]
  rcases k with k | k
  · rw [k, mv_zero]; omega
  · exact mv_le.2 k.2
theorem sum_ok {h a b : Nat} (ka : Hi h a) (kb : Hi h b) (h1 : 4503599627370496 ≤ h) (h2 : h + 9007199254740992 < 9218868437227405312) :
    (sv a + sv b = 0 ∨ (4503599627370496 ≤ (sv a + sv b).natAbs ∧ rung 52 0 (sv a + sv b).natAbs + 4503599627370496 ≤ 9218868437227405312)) ∧ rung 52 0 (sv a + sv b).natAbs ≤ h + 4503599627370496 := by
  obtain ⟨p, hp⟩ := ka.sv
  obtain ⟨q, hq⟩ := kb.sv
  have x1 := ka.abs
  have x2 := kb.abs
  have hle : rung 52 0 (sv a + sv b).natAbs ≤ h + 4503599627370496 := by
    refine rung_le (by omega) ?_
    rw [Nat.pow_zero, Nat.mul_one]
    have : mv (h + 4503599627370496) = 2 * mv h := mv_dbl h1
    show _ ≤ mv (h + 4503599627370496)
    omega
  refine ⟨?_, hle⟩
  by_cases c : sv a + sv b = 0
  · exact .inl c
  · refine .inr ⟨?_, by omega⟩
    rw [hp, hq] at c ⊢
    have : p + q ≠ 0 := by
      intro e
      have : p * 4503599627370496 + q * 4503599627370496 = (p + q) * 4503599627370496 := by rw [Int.add_mul]
      rw [this, e] at c
      exact c (by omega)
    omega
/-- a number that is no less than nothing -/
def Ps (h x : Nat) : Prop := Hi h x ∧ x < 9223372036854775808
theorem Ps.lt {h x : Nat} (k : Ps h x) : x < 18446744073709551616 := by have := k.2; omega
theorem Ps.ng {h x : Nat} (k : Ps h x) : Tf.ng x = false := ng_of_lt k.2
theorem Ps.mg {h x : Nat} (k : Ps h x) : Tf.mg x = x := mg_of_lt k.2
theorem Ps.up {h g x : Nat} (k : Ps h x) (hg : h ≤ g) : Ps g x := ⟨by rcases k.1 with a | a; exact .inl a; exact .inr ⟨a.1, by omega⟩, k.2⟩
theorem Ps.db {h x : Nat} (k : Ps h x) (hh : h + 4503599627370496 < 9218868437227405312) : Ps (h + 4503599627370496) (db x) := by
  have m := k.1.md hh
  have e := db_mg m.w
  have e2 := db_ng m.w k.lt
  rw [k.ng] at e2
  refine ⟨?_, lt_of_ng e2⟩
  unfold Hi
  rw [e]
  rcases k.1 with a | a
  · rw [if_pos a]; exact .inl rfl
  · rw [if_neg (by omega)]; exact .inr ⟨by omega, by omega⟩
theorem plB_db {h a b : Nat} (ka : Ps h a) (kb : Ps h b) (h1 : 4503599627370496 ≤ h) (h2 : h + 9007199254740992 < 9218868437227405312) :
    plB (db a) (db b) = db (plB a b) ∧ Ps (h + 4503599627370496) (plB a b) := by
  have ma := ka.1.md (by omega)
  have mb := kb.1.md (by omega)
  obtain ⟨s1, s2⟩ := sum_ok ka.1 kb.1 h1 h2
  rw [plB_some (add_d _ _ (db_lt ma.w ka.lt) (db_lt mb.w kb.lt) ma.dfin mb.dfin), plB_some (add_d a b ka.lt kb.lt ma.fin mb.fin), db_sv ma ka.lt, db_sv mb kb.lt, ← Int.mul_add, db_ng ma.w ka.lt, rn_dbl _ s1, db_ng mb.w kb.lt]
  refine ⟨rfl, ?_⟩
  have ea : sv a = (mv a : Int) := by unfold sv; rw [ka.ng, ka.mg]; rfl
  have eb : sv b = (mv b : Int) := by unfold sv; rw [kb.ng, kb.mg]; rfl
  have hlt : rn (ng a && ng b) (sv a + sv b) < 9223372036854775808 := by
    rw [ka.ng, ea, eb]
    unfold rn
    have : ¬ ((mv a : Int) + (mv b : Int) < 0) := by omega
    rw [decide_eq_false this]
    simp only [Bool.false_and, ite_self, Bool.false_eq_true, if_false]
    exact Nat.lt_of_le_of_lt (Nat.min_le_right _ _) (by decide)
  refine ⟨?_, hlt⟩
  unfold Hi
  rw [rn_mg]
  rw [Nat.min_eq_left (by omega)]
  rcases ka.1 with a0 | a1
  · rcases kb.1 with b0 | b1
    · left
      rw [ka.mg] at a0
      rw [kb.mg] at b0
      rw [ea, eb, a0, b0, mv_zero]
      exact rung_none 0
    · right
      refine ⟨rung_ge (by omega) ?_, s2⟩
      rw [kb.mg] at b1
      rw [Nat.pow_zero, Nat.mul_one]
      have : mv 238690780250636288 ≤ mv b := mv_le.2 b1.1
      show mv 238690780250636288 ≤ _
      omega
  · right
    refine ⟨rung_ge (by omega) ?_, s2⟩
    rw [ka.mg] at a1
    rw [Nat.pow_zero, Nat.mul_one]
    have : mv 238690780250636288 ≤ mv a := mv_le.2 a1.1
    show mv 238690780250636288 ≤ _
    omega
theorem key_db {h a b : Nat} (ka : Ps h a) (kb : Ps h b) (hh : h + 4503599627370496 < 9218868437227405312) : (key (db b) < key (db a)) = (key b < key a) := by
  have da := ka.db hh
  have db' := kb.db hh
  have ea := db_mg (ka.1.md hh).w
  have eb := db_mg (kb.1.md hh).w
  unfold key
  rw [da.ng, db'.ng, ka.ng, kb.ng, ea, eb]
  apply propext
  by_cases ca : mg a = 0
  · by_cases cb : mg b = 0
    · rw [if_pos ca, if_pos cb, ca, cb]
    · rw [if_pos ca, if_neg cb]; omega
  · by_cases cb : mg b = 0
    · rw [if_neg ca, if_pos cb]; simp; omega
    · rw [if_neg ca, if_neg cb]; simp
theorem lo_db {h a b : Nat} (ka : Ps h a) (kb : Ps h b) (hh : h + 4503599627370496 < 9218868437227405312) : loB (db a) (db b) = db (loB a b) ∧ hiB (db a) (db b) = db (hiB a b) ∧ Ps h (loB a b) ∧ Ps h (hiB a b) := by
  have e := key_db ka kb hh
  unfold loB hiB
  by_cases c : key b < key a
  · rw [if_pos (by rw [e]; exact c), if_pos c, if_pos (by rw [e]; exact c), if_pos c]
    exact ⟨rfl, rfl, kb, ka⟩
  · rw [if_neg (by rw [e]; exact c), if_neg c, if_neg (by rw [e]; exact c), if_neg c]
    exact ⟨rfl, rfl, ka, kb⟩
theorem thB_db {h a b c : Nat} (ka : Ps h a) (kb : Ps h b) (kc : Ps h c) (h1 : 4503599627370496 ≤ h) (h2 : h + 13510798882111488 < 9218868437227405312) :
    thB (db a) (db b) (db c) = db (thB a b c) ∧ Ps (h + 9007199254740992) (thB a b c) := by
  obtain ⟨e1, e2, k1, k2⟩ := lo_db ka kb (by omega)
  obtain ⟨e3, e4, k3, k4⟩ := lo_db k2 kc (by omega)
  obtain ⟨e5, e6, k5, k6⟩ := lo_db k1 k3 (by omega)
  obtain ⟨p1, p2⟩ := plB_db k5 k6 h1 (by omega)
  obtain ⟨g, hg⟩ : ∃ g, h + 4503599627370496 = g := ⟨_, rfl⟩
  rw [hg] at p2
  have k7 : Ps g (hiB (hiB a b) c) := k4.up (by omega)
  obtain ⟨p3, p4⟩ := plB_db p2 k7 (by omega) (by omega)
  have p5 : Ps (h + 9007199254740992) (plB (plB (loB (loB a b) (loB (hiB a b) c)) (hiB (loB a b) (loB (hiB a b) c))) (hiB (hiB a b) c)) := p4.up (by omega)
  unfold thB
  rw [e1, e2, e3, e4, e5, e6, p1, p3]
  exact ⟨rfl, p5⟩
/-- from 1e-100 to 1e100, or nought -/
def In1 (x : Nat) : Prop := mg x = 0 ∨ (3110860544497550640 ≤ mg x ∧ mg x ≤ 6103021453049119613)
theorem In1.hi {x : Nat} (k : In1 x) : Hi 6103021453049119613 x := by
  rcases k with k | k
  · exact .inl k
  · exact .inr ⟨by omega, k.2⟩
theorem In1.md {x : Nat} (k : In1 x) : Md x := k.hi.md (by omega)
theorem pr_lo : mv 1599789920352257571 * 2 ^ K ≤ mv 3110860544497550640 * mv 3110860544497550640 := by decide +kernel
theorem pr_hi : mv 6103021453049119613 * mv 6103021453049119613 ≤ mv 7613934262404594417 * 2 ^ K := by decide +kernel
theorem pr_lg : 2 ^ (52 + K) ≤ mv 3110860544497550640 * mv 3110860544497550640 := by decide +kernel
theorem rung_ge' {d r V : Nat} (h : mv r * 2 ^ d ≤ V) : r ≤ rung 52 d V := rung_ge (by omega) h
theorem rung_le' {d r V : Nat} (h : V ≤ mv r * 2 ^ d) : rung 52 d V ≤ r := rung_le (by omega) h
theorem pr_rung {V : Nat} (h1 : mv 3110860544497550640 * mv 3110860544497550640 ≤ V) (h2 : V ≤ mv 6103021453049119613 * mv 6103021453049119613) :
    52 + 1074 ≤ V.log2 ∧ 1599789920352257571 ≤ rung 52 1074 V ∧ rung 52 1074 V ≤ 7613934262404594417 := by
  have hV : 2 ^ (52 + K) ≤ V := Nat.le_trans pr_lg h1
  have h0 : V ≠ 0 := by have := Nat.two_pow_pos (52 + K); omega
  refine ⟨?_, ?_, ?_⟩
  · have := (Nat.le_log2 h0).2 hV
    exact this
  · exact rung_ge' (d := K) (Nat.le_trans pr_lo h1)
  · exact rung_le' (d := K) (Nat.le_trans h2 pr_hi)
theorem In1.far {x y : Nat} (kx : In1 x) (ky : In1 y) : Far x y := by
  rcases kx with kx | kx
  · exact .inl (.inl kx)
  · rcases ky with ky | ky
    · exact .inl (.inr ky)
    · obtain ⟨a, b, c⟩ := pr_rung (Nat.mul_le_mul (mv_le.2 kx.1) (mv_le.2 ky.1)) (Nat.mul_le_mul (mv_le.2 kx.2) (mv_le.2 ky.2))
      exact .inr ⟨a, by omega⟩
theorem In1.prod {x y : Nat} (hx : x < 18446744073709551616) (hy : y < 18446744073709551616) (kx : In1 x) (ky : In1 y) : Hi 7613934262404594417 (mlB x y) := by
  rw [mul_w hx hy kx.md.fin ky.md.fin]
  show Hi _ (wd (ng x ^^ ng y) _)
  unfold Hi
  have z : (mg x = 0 ∨ mg y = 0) → mv (mg x) * mv (mg y) = 0 := by
    intro h
    rcases h with h | h
    · rw [h, mv_zero, Nat.zero_mul]
    · rw [h, mv_zero, Nat.mul_zero]
  rcases kx with kx | kx
  · rw [z (.inl kx), rung_none, Nat.zero_min, wd_mg (by omega)]; exact .inl rfl
  · rcases ky with ky | ky
    · rw [z (.inr ky), rung_none, Nat.zero_min, wd_mg (by omega)]; exact .inl rfl
    · obtain ⟨a, b, c⟩ := pr_rung (Nat.mul_le_mul (mv_le.2 kx.1) (mv_le.2 ky.1)) (Nat.mul_le_mul (mv_le.2 kx.2) (mv_le.2 ky.2))
      generalize rung 52 1074 (mv (mg x) * mv (mg y)) = r at *
      rw [Nat.min_eq_left (by omega), wd_mg (by omega)]
      exact .inr ⟨by omega, c⟩
theorem In1.sq {x : Nat} (hx : x < 18446744073709551616) (k : In1 x) : Ps 7613934262404594417 (sqB x) := by
  refine ⟨k.prod hx hx k, ?_⟩
  unfold sqB
  rw [mul_w hx hx k.md.fin k.md.fin, Bool.xor_self]
  simp only [Bool.false_eq_true, if_false]
  exact Nat.lt_of_le_of_lt (Nat.min_le_right _ _) (by decide)
theorem In1.sq_db {x : Nat} (hx : x < 18446744073709551616) (k : In1 x) : sqB (db x) = db (db (sqB x)) := by
  have m := k.md
  have md : Md (db x) := by
    unfold Md
    rw [db_mg m.w]
    rcases k with k | k
    · rw [if_pos k]; exact .inl rfl
    · rw [if_neg (by omega)]; exact .inr ⟨by omega, by omega⟩
  have f : Far x (db x) := by
    unfold Far
    rw [db_mg m.w]
    rcases k with k | k
    · exact .inl (.inl k)
    · rw [if_neg (by omega)]
      obtain ⟨a, b, c⟩ := pr_rung (Nat.mul_le_mul (mv_le.2 k.1) (mv_le.2 k.1)) (Nat.mul_le_mul (mv_le.2 k.2) (mv_le.2 k.2))
      have h0 : mv (mg x) * mv (mg x) ≠ 0 := by intro e; rw [e] at a; simp at a
      rw [mv_dbl (by omega), show mv (mg x) * (2 * mv (mg x)) = mv (mg x) * mv (mg x) * 2 by rw [Nat.mul_left_comm, Nat.mul_comm]]
      have hl : (mv (mg x) * mv (mg x) * 2).log2 = (mv (mg x) * mv (mg x)).log2 + 1 := by
        have := log2_mul_pow (mv (mg x) * mv (mg x)) 1 h0
        rwa [Nat.pow_one] at this
      rw [rung_dbl h0 a, hl]
      exact .inr ⟨by omega, by omega⟩
  unfold sqB
  rw [mlB_db hx (db_lt m.w hx) m md f, mlB_dbr hx hx m m (k.far k)]
/-- how long a doubled vector is -/
theorem In1.ln {x y z : Nat} (hx : x < 18446744073709551616) (hy : y < 18446744073709551616) (hz : z < 18446744073709551616) (kx : In1 x) (ky : In1 y) (kz : In1 z) :
    lnB (db x) (db y) (db z) = db (lnB x y z) ∧ Md (lnB x y z) := by
  have s1 := kx.sq hx
  have s2 := ky.sq hy
  have s3 := kz.sq hz
  obtain ⟨t1, t2⟩ := thB_db s1 s2 s3 (by omega) (by omega)
  obtain ⟨t3, _⟩ := thB_db (s1.db (by omega)) (s2.db (by omega)) (s3.db (by omega)) (by omega) (by omega)
  unfold lnB
  rw [kx.sq_db hx, ky.sq_db hy, kz.sq_db hz, t3, t1]
  refine rtB_db t2.lt t2.ng ?_
  rcases t2.1 with h | h
  · exact .inl h
  · exact .inr ⟨by omega, by omega⟩
end Go.Proofs.YtomenbbhdnfciaaGreatDoor

namespace Go.Proofs.YtomenbbhdnfciaaGreatDoor
open Tf Ieee
theorem mv_2 : mv 4611686018427387904 = 2 * 2 ^ K := by rw [← mv_ONE]; exact mv_dbl (r := 4607182418800017408) (by omega)
/-- a product of two floats that aren't below nothing -/
theorem ml_word {a b : Nat} (ha : a < 9218868437227405312) (hb : b < 9218868437227405312) : mlB a b = min (rung 52 1074 (mv a * mv b)) 9218868437227405312 := by
  have ma : mg a = a := mg_of_lt (by omega)
  have mb : mg b = b := mg_of_lt (by omega)
  rw [mul_w (by omega) (by omega) (by omega) (by omega), ng_of_lt (by omega), ng_of_lt (by omega), ma, mb]
  simp only [Bool.xor_self, Bool.false_eq_true, if_false]
theorem mv_sm {r : Nat} (h : r < 9007199254740992) : mv r = r := by
  by_cases c : r < 4503599627370496
  · have := mv_zero
    unfold mv mag
    rw [if_pos c]
  · rw [mv_parts (by omega), show r % 4503599627370496 = r - 4503599627370496 by omega, show r / 4503599627370496 - 1 = 0 by omega, Nat.pow_zero, Nat.mul_one]
    omega
/-- doubling: a whole number of units that is a float's, or too great -/
theorem dbl_ex (a : Nat) : ∃ r, mv r = 2 * mv a ∧ a ≤ r ∧ (a ≠ 0 → a < r) := by
  by_cases h : 4503599627370496 ≤ a
  · exact ⟨a + 4503599627370496, mv_dbl h, by omega, fun _ => by omega⟩
  · refine ⟨2 * a, ?_, by omega, fun _ => by omega⟩
    rw [mv_sm (r := 2 * a) (by omega), mv_sm (r := a) (by omega)]
theorem d2_word {a : Nat} (ha : a < 9218868437227405312) : mlB 4611686018427387904 a = min (rung 52 0 (2 * mv a)) 9218868437227405312 := by
  rw [ml_word (by omega) ha, mv_2, show 2 * 2 ^ K * mv a = (2 * mv a) * 2 ^ K by rw [Nat.mul_right_comm]]
  have h := rung_scale 52 0 K (2 * mv a)
  rw [Nat.zero_add] at h
  exact congrArg (min · 9218868437227405312) h
/-- 2 * a of a that isn't below nothing: exact, or the infinity -/
theorem d2_facts {a : Nat} (ha : a ≤ 9218868437227405312) : mlB 4611686018427387904 a ≤ 9218868437227405312 ∧ a ≤ mlB 4611686018427387904 a ∧ (mlB 4611686018427387904 a < 9218868437227405312 → mv (mlB 4611686018427387904 a) = 2 * mv a) := by
  by_cases h : a < 9218868437227405312
  · obtain ⟨r, h1, h2, -⟩ := dbl_ex a
    rw [d2_word h, ← h1, rung_mv]
    refine ⟨Nat.min_le_right _ _, by omega, fun k => ?_⟩
    rw [Nat.min_eq_left (by omega), h1]
  · obtain rfl : a = 9218868437227405312 := by omega
    have e : mlB 4611686018427387904 9218868437227405312 = 9218868437227405312 := by decide +kernel
    rw [e]
    exact ⟨Nat.le_refl _, Nat.le_refl _, fun k => by omega⟩
theorem d2_mono {a b : Nat} (h : a ≤ b) (hb : b ≤ 9218868437227405312) : mlB 4611686018427387904 a ≤ mlB 4611686018427387904 b := by
  by_cases k : b < 9218868437227405312
  · rw [d2_word (by omega), d2_word k]
    have := rung_mono (p := 52) (d := 0) (V := 2 * mv a) (V' := 2 * mv b) (by omega) (Nat.mul_le_mul_left 2 (mv_le.2 h))
    omega
  · obtain rfl : b = 9218868437227405312 := by omega
    have e : mlB 4611686018427387904 9218868437227405312 = 9218868437227405312 := by decide +kernel
    rw [e]
    exact (d2_facts (by omega)).1
/-- Superbee above nothing -/
def sbee (a b : Nat) : Nat := max (min (mlB 4611686018427387904 a) b) (min a (mlB 4611686018427387904 b))
theorem sbee_facts {a b : Nat} (ha : a ≤ 9218868437227405312) (hb : b ≤ 9218868437227405312) : min a b ≤ sbee a b ∧ sbee a b ≤ max a b ∧ sbee a b ≤ mlB 4611686018427387904 (min a b) := by
  have fa := d2_facts ha
  have fb := d2_facts hb
  have mono : ∀ x y, x ≤ y → y ≤ 9218868437227405312 → mlB 4611686018427387904 x ≤ mlB 4611686018427387904 y := fun x y h k => d2_mono h k
  unfold sbee
  rcases Nat.le_total a b with h | h
  · rw [Nat.min_eq_left h]
    omega
  · rw [Nat.min_eq_right h]
    omega
end Go.Proofs.YtomenbbhdnfciaaGreatDoor

namespace Go.Proofs.YtomenbbhdnfciaaGreatDoor
open Tf Ieee
def Er17 : Nat := 2030
theorem mv_E17 : mv 9146810843189477376 = 2 ^ (52 + Er17) := mv_two_pow Er17 _ (by decide)
theorem le_E17 {W d : Nat} (hW : W ≤ 2 ^ 57) (hd : d ≤ 2025) : W * 2 ^ d ≤ mv 9146810843189477376 := by
  rw [mv_E17]
  have h1 : 2 ^ d ≤ 2 ^ (Er17 - 5) := Nat.pow_le_pow_right (by omega) (by unfold Er17; omega)
  have h2 := Nat.mul_le_mul hW h1
  have e : 2 ^ 57 * 2 ^ (Er17 - 5) = 2 ^ (52 + Er17) := by rw [← Nat.pow_add]; congr 1
  rw [e] at h2
  exact h2
theorem quo_lo {m n : Nat} (m1 : 4503599627370496 ≤ m) (m2 : m < 9007199254740992) (n1 : 4503599627370496 ≤ n) (n2 : n < 9007199254740992) : 9007199254740992 ≤ m <<< 54 / n ∧ m <<< 54 / n ≤ 36028797018963968 := by
  rw [Nat.shiftLeft_eq]
  constructor
  · rw [Nat.le_div_iff_mul_le (by omega)]
    have := Nat.mul_le_mul_right (2 ^ 54) m1
    omega
  · refine Nat.div_le_of_le_mul ?_
    omega
set_option maxRecDepth 100000 in
theorem div_pos {x l : Nat} (x1 : 4503599627370496 ≤ x) (x2 : x < 9218868437227405312) (l1 : 4503599627370496 ≤ l) (l2 : l < 9218868437227405312) :
    ∃ W, 18014398509481984 ≤ W ∧ W ≤ 2 ^ 57 ∧ W = 2 * ((4503599627370496 + x % 4503599627370496) <<< 54 / (4503599627370496 + l % 4503599627370496)) + ((4503599627370496 + x % 4503599627370496) <<< 54 % (4503599627370496 + l % 4503599627370496) != 0).toNat ∧ double.div x l = some (double.nearest false W (((x / 4503599627370496 - 1 : Nat) : Int) - ((l / 4503599627370496 - 1 : Nat) : Int) - 55)) := by
  have ml : mg l = l := mg_of_lt (by omega)
  have mx : mg x = x := mg_of_lt (by omega)
  have el := read_norm (x := l) (by omega) (by omega)
  rw [ml, sgn_ng (by omega), ng_of_lt (by omega)] at el
  have ex := read_norm (x := x) (by omega) (by omega)
  rw [mx, sgn_ng (by omega), ng_of_lt (by omega)] at ex
  have hn : 4503599627370496 + l % 4503599627370496 ≠ 0 := by omega
  have lx : (4503599627370496 + x % 4503599627370496).log2 = 52 := log_m _ (Nat.mod_lt _ (by omega))
  have ll : (4503599627370496 + l % 4503599627370496).log2 = 52 := log_m _ (Nat.mod_lt _ (by omega))
  have hq := quo_lo (m := 4503599627370496 + x % 4503599627370496) (n := 4503599627370496 + l % 4503599627370496) (by omega) (by omega) (by omega) (by omega)
  refine ⟨_, ?_, ?_, rfl, ?_⟩
  · omega
  · have : ((4503599627370496 + x % 4503599627370496) <<< 54 % (4503599627370496 + l % 4503599627370496) != 0).toNat ≤ 1 := by cases ((4503599627370496 + x % 4503599627370496) <<< 54 % (4503599627370496 + l % 4503599627370496) != 0) <;> simp
    omega
  · show ((double.read x).quotient 54 (double.read l)).map double.write = _
    rw [ex, el]
    unfold Datum.quotient
    dsimp only
    rw [if_neg hn, lx, ll]
    simp only [Bool.xor_false]
    show some (double.nearest false _ _) = some (double.nearest false _ _)
    congr 2
    omega
theorem rung_E17 {V : Nat} (h : V ≤ mv 9146810843189477376) : rung 52 0 V ≤ 9146810843189477376 := by
  refine rung_le (by omega) ?_
  rw [Nat.pow_zero, Nat.mul_one]
  exact h
end Go.Proofs.YtomenbbhdnfciaaGreatDoor

namespace Go.Proofs.YtomenbbhdnfciaaGreatDoor
open Tf Ieee
/-- the whole quotient twice, and one more where that isn't all -/
def stQ (N n : Nat) : Nat := 2 * (N / n) + (N % n != 0).toNat
theorem canon_nn' {q : Nat} (q1 : 4503599627370496 ≤ q) (q2 : q < 9218868437227405312) : canonB q = q := by
  have mq : mg q = q := mg_of_lt (by omega)
  unfold canonB
  rw [mq, if_neg (by unfold isN; rw [mq]; simp; omega), if_neg (by omega)]
set_option maxRecDepth 100000 in
/-- what a quotient of two numbers above nothing is -/
theorem dv_core {x l : Nat} (x1 : 4503599627370496 ≤ x) (x2 : x < 9218868437227405312) (l1 : 4503599627370496 ≤ l) (l2 : l < 9218868437227405312)
    (h1 : l / 4503599627370496 ≤ x / 4503599627370496 + 1010) (h2 : x / 4503599627370496 ≤ l / 4503599627370496 + 1006) :
    ∃ N n d g, 0 < g ∧ 0 < n ∧ 18014398509481984 ≤ stQ N n ∧ dvB x l = rung 52 0 (stQ N n * 2 ^ d) ∧ n * g = mv l ∧ N * 2 ^ (d + 2) * g = 2 * (mv x * 2 ^ K) ∧ 4503599627370496 ≤ dvB x l ∧ dvB x l ≤ 9146810843189477376 := by
  obtain ⟨W, w1, w2, w3, e1⟩ := div_pos x1 x2 l1 l2
  have hq : W = stQ ((4503599627370496 + x % 4503599627370496) * 2 ^ 54) (4503599627370496 + l % 4503599627370496) := by rw [w3]; unfold stQ; rw [Nat.shiftLeft_eq]
  have px := mv_parts x1
  have pl := mv_parts l1
  have hlp := d_lp
  have ha : 1 ≤ x / 4503599627370496 ∧ 1 ≤ l / 4503599627370496 := by omega
  clear w3
  generalize x / 4503599627370496 = a at *
  generalize l / 4503599627370496 = c at *
  obtain ⟨d, hd⟩ : ∃ d : Nat, (((a - 1 : Nat) : Int) - ((c - 1 : Nat) : Int) - 55) = double.leastPlace + (d : Int) := ⟨((((a - 1 : Nat) : Int) - ((c - 1 : Nat) : Int) - 55) - double.leastPlace).toNat, by omega⟩
  have hdle : d ≤ 2025 := by omega
  have hdk : d + 2 + 54 + (c - 1) = (a - 1) + 1 + K := by unfold K; omega
  rw [nearest_up double false W d _ hd, d_word, d_inf] at e1
  have h0 : W * 2 ^ d ≠ 0 := Nat.mul_ne_zero (by omega) (by have := Nat.two_pow_pos d; omega)
  have hlog : 52 + 0 ≤ (W * 2 ^ d).log2 := by
    refine (Nat.le_log2 h0).2 ?_
    have e : (2 : Nat) ^ (52 + 0) = 4503599627370496 := by decide
    rw [e]
    have := Nat.two_pow_pos d
    exact Nat.le_trans (by omega) (Nat.le_mul_of_pos_right W this)
  have hb := rung_big hlog h0
  have hle := rung_E17 (le_E17 w2 hdle)
  have hfb : double.fractionBits = 52 := rfl
  rw [hfb] at e1
  refine ⟨(4503599627370496 + x % 4503599627370496) * 2 ^ 54, 4503599627370496 + l % 4503599627370496, d, 2 ^ (c - 1), Nat.two_pow_pos _, by omega, by omega, ?_, pl.symm, ?_, ?_⟩
  · rw [← hq]
    generalize rung 52 0 (W * 2 ^ d) = r at *
    simp only [Bool.false_eq_true, if_false] at e1
    rw [Nat.min_eq_left (by omega)] at e1
    rw [dvB_some e1]
    exact canon_nn' hb (by omega)
  · rw [px]
    generalize 4503599627370496 + x % 4503599627370496 = m
    rw [show m * 2 ^ 54 * 2 ^ (d + 2) * 2 ^ (c - 1) = m * 2 ^ (d + 2 + 54 + (c - 1)) by rw [Nat.mul_assoc, Nat.mul_assoc, ← Nat.pow_add, ← Nat.pow_add]; congr 2; omega, hdk, Nat.pow_add, Nat.pow_add, Nat.pow_one]
    generalize 2 ^ (a - 1) = u
    generalize 2 ^ K = v
    rw [show u * 2 * v = 2 * (u * v) by rw [Nat.mul_comm u 2, Nat.mul_assoc], ← Nat.mul_assoc m 2, Nat.mul_comm m 2, Nat.mul_assoc, Nat.mul_assoc]
  · generalize rung 52 0 (W * 2 ^ d) = r at *
    simp only [Bool.false_eq_true, if_false] at e1
    rw [Nat.min_eq_left (by omega)] at e1
    rw [dvB_some e1, canon_nn' hb (by omega)]
    exact ⟨hb, hle⟩
end Go.Proofs.YtomenbbhdnfciaaGreatDoor

namespace Go.Proofs.YtomenbbhdnfciaaGreatDoor
open Tf Ieee
/-- numbers whose quotient is far from both ends -/
def Qn (x l : Nat) : Prop := (4503599627370496 ≤ x ∧ x < 9218868437227405312) ∧ (4503599627370496 ≤ l ∧ l < 9218868437227405312) ∧ l / 4503599627370496 ≤ x / 4503599627370496 + 1010 ∧ x / 4503599627370496 ≤ l / 4503599627370496 + 1006
theorem dq_in {x l : Nat} (q : Qn x l) : 4503599627370496 ≤ dvB x l ∧ dvB x l ≤ 9146810843189477376 := by
  obtain ⟨⟨x1, x2⟩, ⟨l1, l2⟩, h1, h2⟩ := q
  obtain ⟨N, n, d, g, hg, hn, hW, e, e1, e2, e3⟩ := dv_core x1 x2 l1 l2 h1 h2
  exact e3
end Go.Proofs.YtomenbbhdnfciaaGreatDoor

namespace Go.Proofs.YtomenbbhdnfciaaGreatDoor
open Tf Ieee
/-- a whole number as a float -/
def fw (n : Int) : Nat := rn false (n * one)
theorem R_one : R one = 4607182418800017408 := (R_mv 4607182418800017408 (by decide)).1
theorem mv_2_63 : mv 4890909195324358656 = 9223372036854775808 * one := by
  have h := mv_from_one 63 4890909195324358656 (by decide)
  have e : (2 : Nat) ^ 63 = 9223372036854775808 := by decide
  rw [e] at h
  exact h
theorem R_max : R (9223372036854775808 * one) = 4890909195324358656 := by
  have h := (R_mv 4890909195324358656 (by decide)).1
  rw [mv_2_63, Int.natCast_mul] at h
  exact h
theorem rn_nn {v : Int} (h : 0 ≤ v) : rn false v = (R v).toNat := by
  unfold rn R
  generalize min (rung 52 0 v.natAbs) 9218868437227405312 = m
  by_cases z : v = 0
  · rw [if_pos z, if_neg (by decide), if_neg (by omega), Int.toNat_natCast]
  · rw [if_neg z, decide_eq_false (by omega), if_neg (by decide), if_neg (by omega), Int.toNat_natCast]
theorem fw_R {n : Int} (h : 0 ≤ n) : fw n = (R (n * one)).toNat := rn_nn (Int.mul_nonneg h (Int.le_of_lt onep))
theorem fw_in {n : Int} (h1 : 1 ≤ n) (h2 : n ≤ 9223372036854775807) : 4607182418800017408 ≤ fw n ∧ fw n ≤ 4890909195324358656 := by
  have a := R_mono (Int.mul_le_mul_of_nonneg_right h1 (Int.le_of_lt onep))
  have b := R_mono (Int.mul_le_mul_of_nonneg_right (show n ≤ 9223372036854775808 by omega) (Int.le_of_lt onep))
  rw [Int.one_mul, R_one] at a
  rw [R_max] at b
  rw [fw_R (by omega)]
  omega
theorem fw_Qn {n m : Int} (n1 : 1 ≤ n) (n2 : n ≤ 9223372036854775807) (m1 : 1 ≤ m) (m2 : m ≤ 9223372036854775807) : Qn (fw n) (fw m) := by
  have a := fw_in n1 n2
  have b := fw_in m1 m2
  unfold Qn
  omega
/-- the depth -/
def dpB (w a : Int) : Nat := if w < 1 ∨ a < 1 then 0 else dvB (fw w) (fw a)
theorem dp_zero {w a : Int} (h : w < 1 ∨ a < 1) : dpB w a = 0 := by unfold dpB; rw [if_pos h]
theorem dp_of {w a : Int} (h1 : 1 ≤ w) (h2 : 1 ≤ a) : dpB w a = dvB (fw w) (fw a) := by unfold dpB; rw [if_neg (by omega)]
theorem dp_in {w a : Int} (h1 : 1 ≤ w) (h2 : 1 ≤ a) (w2 : w ≤ 9223372036854775807) (a2 : a ≤ 9223372036854775807) : 4503599627370496 ≤ dpB w a ∧ dpB w a ≤ 9146810843189477376 := by
  rw [dp_of h1 h2]
  exact dq_in (fw_Qn h1 w2 h2 a2)
theorem dp_le {w a : Int} (w2 : w ≤ 9223372036854775807) (a2 : a ≤ 9223372036854775807) : dpB w a ≤ 9146810843189477376 := by
  by_cases h : w < 1 ∨ a < 1
  · rw [dp_zero h]; omega
  · exact (dp_in (by omega) (by omega) w2 a2).2
end Go.Proofs.YtomenbbhdnfciaaGreatDoor

namespace Go.Proofs.YtomenbbhdnfciaaGreatDoor
open Tf Ieee
theorem sv_nn {d : Nat} (h : d < 9223372036854775808) : sv d = (mv d : Nat) := by
  unfold sv
  rw [ng_of_lt h, mg_of_lt h]; rfl
/-- the level -/
def lvl (b : Nat) (w a : Int) : Nat := addB b (dpB w a)
theorem lvl_lt {b : Nat} {w a : Int} (hb : b < 18446744073709551616) (w2 : w ≤ 9223372036854775807) (a2 : a ≤ 9223372036854775807) : lvl b w a < 18446744073709551616 := addB_lt b _ hb (by have := dp_le w2 a2; omega)
end Go.Proofs.YtomenbbhdnfciaaGreatDoor

namespace Go.Proofs.YtomenbbhdnfciaaGreatDoor
open Tf Ieee
/-- Leer above nothing, ahead of the look whether it is finite -/
def leer (a b : Nat) : Nat := dvB (mlB (mlB 4611686018427387904 a) b) (plB a b)
end Go.Proofs.YtomenbbhdnfciaaGreatDoor

namespace Go.Proofs.YtomenbbhdnfciaaGreatDoor
open Tf Ieee
theorem near_le (W : Nat) (p : Int) : ∃ r, r ≤ 9218868437227405312 ∧ double.nearest false W p = r := by
  have hlp := d_lp
  by_cases h : double.leastPlace ≤ p
  · obtain ⟨d, hd⟩ : ∃ d : Nat, p = double.leastPlace + (d : Int) := ⟨(p - double.leastPlace).toNat, by omega⟩
    rw [nearest_up double false W d _ hd, d_word, d_inf]
    simp only [Bool.false_eq_true, if_false]
    exact ⟨_, Nat.min_le_right _ _, rfl⟩
  · obtain ⟨d, hd⟩ : ∃ d : Nat, p = double.leastPlace - (d : Int) := ⟨(double.leastPlace - p).toNat, by omega⟩
    rw [hd, nearest_rung double false W d, d_word, d_inf]
    simp only [Bool.false_eq_true, if_false]
    exact ⟨_, Nat.min_le_right _ _, rfl⟩
theorem canon_nn {r : Nat} (h : r ≤ 9218868437227405312) : canonB r = r := by
  have mr : mg r = r := mg_of_lt (by omega)
  unfold canonB
  rw [mr, if_neg (by unfold isN; rw [mr]; simp; omega)]
  split <;> omega
/-- a float that isn't below nothing, as it is read -/
theorem read_nn {x : Nat} (h : x ≤ 9218868437227405312) : double.read x = .infinity false ∨ ∃ m p, double.read x = .number false m p := by
  have mx : mg x = x := mg_of_lt (by omega)
  by_cases c : x = 9218868437227405312
  · subst c
    exact .inl (by decide +kernel)
  · right
    obtain ⟨m, a, h1, -⟩ := read_fin double x (by show mg x < 9218868437227405312; omega)
    have hs : sg double x = false := by
      rw [sg_d x (by omega)]
      exact ng_of_lt (by omega)
    rw [hs] at h1
    exact ⟨m, _, h1⟩
theorem dv_nn {x y : Nat} (hx : x ≤ 9218868437227405312) (hy : y ≤ 9218868437227405312) : dvB x y = quiet ∨ dvB x y ≤ 9218868437227405312 := by
  have key : double.div x y = none ∨ ∃ r, r ≤ 9218868437227405312 ∧ double.div x y = some r := by
    show ((double.read x).quotient 54 (double.read y)).map double.write = none ∨ ∃ r, r ≤ 9218868437227405312 ∧ ((double.read x).quotient 54 (double.read y)).map double.write = some r
    rcases read_nn hx with e1 | ⟨m, p, e1⟩ <;> rcases read_nn hy with e2 | ⟨n, q, e2⟩ <;> rw [e1, e2] <;> unfold Datum.quotient <;> dsimp only
    · exact .inl rfl
    · exact .inr ⟨9218868437227405312, Nat.le_refl _, by decide +kernel⟩
    · obtain ⟨r, r1, r2⟩ := near_le 0 0
      exact .inr ⟨r, r1, by show some (double.nearest false 0 0) = _; rw [r2]⟩
    · by_cases hn : n = 0
      · rw [if_pos hn]
        by_cases hm : m = 0
        · rw [if_pos hm]; exact .inl rfl
        · rw [if_neg hm]; exact .inr ⟨9218868437227405312, Nat.le_refl _, by decide +kernel⟩
      · rw [if_neg hn]
        obtain ⟨r, r1, r2⟩ := near_le (2 * (m <<< (54 + n.log2 - m.log2) / n) + (m <<< (54 + n.log2 - m.log2) % n != 0).toNat) (p - q - ((54 + n.log2 - m.log2 : Nat) : Int) - 1)
        exact .inr ⟨r, r1, by show some (double.nearest false _ _) = _; rw [← r2]⟩
  rcases key with h | ⟨r, r1, h⟩
  · exact .inl (dvB_none h)
  · rw [dvB_some h, canon_nn r1]
    exact .inr r1
theorem ml_nn {x y : Nat} (hx : x ≤ 9218868437227405312) (hy : y ≤ 9218868437227405312) (x0 : 0 < x) (y0 : 0 < y) : mlB x y ≤ 9218868437227405312 := by
  have mx : mg x = x := mg_of_lt (by omega)
  have my : mg y = y := mg_of_lt (by omega)
  have nx : ng x = false := ng_of_lt (by omega)
  have ny : ng y = false := ng_of_lt (by omega)
  have hi : infW (false ^^ false) = 9218868437227405312 := by decide
  by_cases cx : x = 9218868437227405312
  · by_cases cy : y = 9218868437227405312
    · have e := mul_ii x y (by omega) (by omega) (by omega) (by omega)
      rw [mlB_some e, nx, ny, hi]
      exact Nat.le_refl _
    · have e := mul_if x y (by omega) (by omega) (by omega) (by omega)
      rw [if_neg (by omega)] at e
      rw [mlB_some e, nx, ny, hi]
      exact Nat.le_refl _
  · by_cases cy : y = 9218868437227405312
    · have e := mul_fi x y (by omega) (by omega) (by omega) (by omega)
      rw [if_neg (by omega)] at e
      rw [mlB_some e, nx, ny, hi]
      exact Nat.le_refl _
    · rw [ml_word (by omega) (by omega)]
      exact Nat.min_le_right _ _
/-- Leer above nothing: a NaN, or not below nothing -/
theorem leer_nn {a b : Nat} (ha : a ≤ 9218868437227405312) (hb : b ≤ 9218868437227405312) (a0 : 0 < a) (b0 : 0 < b) : leer a b = quiet ∨ leer a b ≤ 9218868437227405312 := by
  have d := d2_facts ha
  exact dv_nn (ml_nn d.1 hb (by omega) b0) (plB_nn ha hb).1
end Go.Proofs.YtomenbbhdnfciaaGreatDoor

namespace Go.Proofs.YtomenbbhdnfciaaGreatDoor
open Tf Ieee
theorem fgt_iff {l b : Nat} (hl : l < 18446744073709551616) (hb : b < 18446744073709551616) : fgt l b = true ↔ isN l = false ∧ isN b = false ∧ rk b < rk l := by
  rw [fgt_rk l b hl hb]
  cases isN l <;> cases isN b <;> simp
end Go.Proofs.YtomenbbhdnfciaaGreatDoor

namespace Go.Proofs.YtomenbbhdnfciaaGreatDoor
open Tf Ieee
/-- above nothing; below nothing -/
def ps (a : Nat) : Bool := decide (0 < a ∧ a ≤ 9218868437227405312)
def ns (a : Nat) : Bool := decide (9223372036854775808 < a ∧ a ≤ 18442240474082181120)
theorem ps_iff {a : Nat} : ps a = true ↔ 0 < a ∧ a ≤ 9218868437227405312 := by unfold ps; rw [decide_eq_true_iff]
theorem ns_iff {a : Nat} : ns a = true ↔ 9223372036854775808 < a ∧ a ≤ 18442240474082181120 := by unfold ns; rw [decide_eq_true_iff]
theorem ps_no {a : Nat} : ps a = false ↔ a = 0 ∨ 9218868437227405312 < a := by unfold ps; rw [decide_eq_false_iff_not]; omega
theorem rk_zero : rk 0 = 0 := by decide
theorem fgt_ps {a : Nat} (ha : a < 18446744073709551616) : fgt a 0 = ps a := by
  rw [fgt_rk a 0 ha (by decide), rk_zero, show isN 0 = false by decide]
  unfold ps isN rk ng mg
  by_cases c : 9223372036854775808 ≤ a
  · rw [decide_eq_true c, if_pos rfl, decide_eq_false (p := 0 < a ∧ _) (by omega), decide_eq_false (p := (0 : Int) < _) (by omega), Bool.and_false]
  · rw [decide_eq_false c, if_neg (by decide), Nat.mod_eq_of_lt (by omega)]
    by_cases d : 9218868437227405312 < a
    · rw [decide_eq_true d, decide_eq_false (p := 0 < a ∧ _) (by omega)]; rfl
    · rw [decide_eq_false d]
      by_cases e : 0 < a
      · rw [decide_eq_true (p := 0 < a ∧ _) (by omega), decide_eq_true (p := (0 : Int) < _) (by omega)]; rfl
      · rw [decide_eq_false (p := 0 < a ∧ _) (by omega), decide_eq_false (p := (0 : Int) < _) (by omega)]; rfl
theorem flt_ns {a : Nat} (ha : a < 18446744073709551616) : flt a 0 = ns a := by
  rw [flt_rk a 0 ha (by decide), rk_zero, show isN 0 = false by decide]
  unfold ns isN rk ng mg
  by_cases c : 9223372036854775808 ≤ a
  · rw [decide_eq_true c, if_pos rfl]
    have e : a % 9223372036854775808 = a - 9223372036854775808 := by omega
    rw [e]
    by_cases d : 9218868437227405312 < a - 9223372036854775808
    · rw [decide_eq_true d, decide_eq_false (p := 9223372036854775808 < a ∧ _) (by omega)]; rfl
    · rw [decide_eq_false d]
      by_cases e : 9223372036854775808 < a
      · rw [decide_eq_true (p := 9223372036854775808 < a ∧ _) (by omega), decide_eq_true (p := -_ < (0 : Int)) (by omega)]; rfl
      · rw [decide_eq_false (p := 9223372036854775808 < a ∧ _) (by omega), decide_eq_false (p := -_ < (0 : Int)) (by omega)]; rfl
  · rw [decide_eq_false c, if_neg (by decide), decide_eq_false (p := 9223372036854775808 < a ∧ _) (by omega), decide_eq_false (p := _ < (0 : Int)) (by omega), Bool.and_false]
theorem nn_N {a : Nat} (h : a ≤ 9218868437227405312) : isN a = false := isN_false.2 (by rw [mg_of_lt (by omega)]; exact h)
theorem flt_nn {a b : Nat} (ha : a ≤ 9218868437227405312) (hb : b ≤ 9218868437227405312) : flt a b = decide (a < b) := by
  rw [flt_rk a b (by omega) (by omega), rk_pos a (by omega), rk_pos b (by omega), nn_N ha, nn_N hb]
  by_cases c : a < b
  · rw [decide_eq_true c, decide_eq_true (by omega)]; rfl
  · rw [decide_eq_false c, decide_eq_false (by omega)]; rfl
theorem fgt_nn {a b : Nat} (ha : a ≤ 9218868437227405312) (hb : b ≤ 9218868437227405312) : fgt a b = decide (b < a) := by
  rw [fgt_rk a b (by omega) (by omega), rk_pos a (by omega), rk_pos b (by omega), nn_N ha, nn_N hb]
  by_cases c : b < a
  · rw [decide_eq_true c, decide_eq_true (by omega)]; rfl
  · rw [decide_eq_false c, decide_eq_false (by omega)]; rfl
theorem feq_nn {a b : Nat} (ha : a ≤ 9218868437227405312) (hb : b ≤ 9218868437227405312) : feq a b = decide (a = b) := by
  rw [feq_rk a b (by omega) (by omega), rk_pos a (by omega), rk_pos b (by omega), nn_N ha, nn_N hb]
  by_cases c : a = b
  · rw [decide_eq_true c, decide_eq_true (by omega)]; rfl
  · rw [decide_eq_false c, decide_eq_false (by omega)]; rfl
/-- Leer above nothing -/
def lr (a b : Nat) : Nat := if leer a b < 9218868437227405312 then leer a b else 0
/-- the slope of two that are above nothing -/
def lm (k : Int) (a b : Nat) : Nat := if k = 1 then min a b else if k = 2 then sbee a b else if k = 3 then lr a b else 0
/-- the opposite; of nothing: nothing -/
def op (x : Nat) : Nat := if x = 0 then 0 else x + 9223372036854775808
/-- the slope -/
def slp (k : Int) (a b : Nat) : Nat := if (ps a && ps b) = true then lm k a b else if (ns a && ns b) = true then op (lm k (a - 9223372036854775808) (b - 9223372036854775808)) else 0
theorem lr_le (a b : Nat) : lr a b < 9218868437227405312 := by unfold lr; split <;> omega
theorem lm_le (k : Int) {a b : Nat} (ha : a ≤ 9218868437227405312) (hb : b ≤ 9218868437227405312) : lm k a b ≤ 9218868437227405312 := by
  have s := sbee_facts ha hb
  have l := lr_le a b
  unfold lm
  split
  · omega
  · split
    · omega
    · split <;> omega
theorem op_lt {x : Nat} (h : x ≤ 9218868437227405312) : op x ≤ 18442240474082181120 := by unfold op; split <;> omega
theorem slp_lt (k : Int) (a b : Nat) : slp k a b < 18446744073709551616 := by
  unfold slp
  split
  · rename_i h
    rw [Bool.and_eq_true, ps_iff, ps_iff] at h
    have := lm_le k h.1.2 h.2.2
    omega
  · split
    · rename_i h
      rw [Bool.and_eq_true, ns_iff, ns_iff] at h
      have := op_lt (lm_le k (a := a - 9223372036854775808) (b := b - 9223372036854775808) (by omega) (by omega))
      omega
    · omega
theorem canon_op {x : Nat} (h : x ≤ 9218868437227405312) : canonB (negB x) = op x := by
  unfold negB op canonB
  rw [ng_of_lt (by omega)]
  simp only [Bool.false_eq_true, if_false]
  by_cases c : x = 0
  · subst c; decide
  · have m : mg (x + 9223372036854775808) = x := by unfold mg; omega
    unfold isN
    rw [m, if_neg c, if_neg (by simp; omega)]
theorem neg_ns {a : Nat} (h : 9223372036854775808 < a) : negB a = a - 9223372036854775808 := by
  unfold negB
  rw [if_pos]
  unfold ng; exact decide_eq_true (by omega)
/-- products and sums of what is above nothing have an answer -/
theorem mul_pp {x y : Nat} (hx : x ≤ 9218868437227405312) (hy : y ≤ 9218868437227405312) (x0 : 0 < x) (y0 : 0 < y) : Ieee.double.mul x y = some (mlB x y) := by
  have h := ml_nn hx hy x0 y0
  cases e : Ieee.double.mul x y with
  | none => rw [mlB_none e] at h; unfold quiet at h; omega
  | some r => rw [mlB_some e]
theorem add_pp {x y : Nat} (hx : x ≤ 9218868437227405312) (hy : y ≤ 9218868437227405312) : Ieee.double.add x y = some (plB x y) := by
  have h := (plB_nn hx hy).1
  cases e : Ieee.double.add x y with
  | none => rw [plB_none e] at h; unfold quiet at h; omega
  | some r => rw [plB_some e]
/-- the lesser and the greater of two -/
theorem order_pp {a b : Nat} (ha : a ≤ 9218868437227405312) (hb : b ≤ 9218868437227405312) : Ieee.double.order a b = some (if a < b then .lt else if b < a then .gt else .eq) := by
  have h1 := flt_nn ha hb
  have h2 := fgt_nn ha hb
  have h3 := feq_nn ha hb
  unfold flt at h1
  unfold fgt at h2
  unfold feq at h3
  by_cases c : a < b
  · rw [if_pos c]; rw [decide_eq_true c] at h1; simpa using h1
  · rw [if_neg c]
    by_cases d : b < a
    · rw [if_pos d]; rw [decide_eq_true d] at h2; simpa using h2
    · rw [if_neg d]; rw [decide_eq_true (by omega)] at h3; simpa using h3
/-- whether it is finite, whatever the word -/
theorem lr_le_of {r : Nat} {a b : Nat} (h : IsC r (leer a b)) (hn : leer a b = quiet ∨ leer a b ≤ 9218868437227405312) :
    (flt r 9218868437227405311 || feq r 9218868437227405311) = decide (leer a b < 9218868437227405312) ∧ (leer a b < 9218868437227405312 → canonB r = leer a b) := by
  obtain ⟨h1, h2⟩ := h
  refine ⟨?_, fun _ => h2⟩
  rcases hn with e | e
  · rw [e] at h2 ⊢
    have nr : isN r = true := by
      cases k : isN r
      · unfold canonB at h2
        rw [k] at h2
        have := isN_false.1 k
        simp only [Bool.false_eq_true, if_false] at h2
        split at h2
        · exact absurd h2 (by decide)
        · rw [h2] at k; exact absurd k (by decide)
      · rfl
    rw [flt_rk r _ h1 (by decide), feq_rk r _ h1 (by decide), nr]
    rfl
  · have nr : isN r = false := by
      cases k : isN r
      · rfl
      · unfold canonB at h2
        rw [k, if_pos rfl] at h2
        rw [← h2] at e
        unfold quiet at e
        omega
    have rr : rk r = leer a b := by
      unfold canonB at h2
      rw [nr, if_neg (by decide)] at h2
      split at h2
      · rename_i m
        rw [← h2]
        unfold rk
        rw [m]; split <;> rfl
      · rw [h2]; exact rk_pos _ (by omega)
    rw [flt_rk r _ h1 (by decide), feq_rk r _ h1 (by decide), nr, rr, show isN 9218868437227405311 = false by decide, rk_pos 9218868437227405311 (by decide)]
    by_cases c : leer a b < 9218868437227405312
    · rw [decide_eq_true c]
      by_cases d : leer a b = 9218868437227405311
      · rw [d]; decide
      · rw [decide_eq_true (p := (_ : Int) < _) (by omega)]; rfl
    · rw [decide_eq_false c, decide_eq_false (p := (_ : Int) < _) (by omega), decide_eq_false (p := (_ : Int) = _) (by omega)]; rfl
end Go.Proofs.YtomenbbhdnfciaaGreatDoor

namespace Go.Proofs.YtomenbbhdnfciaaGreatDoor
open Tf Ieee
theorem infW_form (s : Bool) : infW s = if s = true then 9223372036854775808 + 9218868437227405312 else 9218868437227405312 := by cases s <;> rfl
/-- a product's magnitude hangs on the magnitudes alone, its sign on the signs -/
theorem mul_form (a b : Nat) (_ha : a < 18446744073709551616) (hb : b < 18446744073709551616) :
    (∀ s, s < 18446744073709551616 → mg s = mg a → double.mul s b = none) ∨
    ∃ m, m ≤ 9218868437227405312 ∧ ∀ s, s < 18446744073709551616 → mg s = mg a → double.mul s b = some (if (ng s ^^ ng b) = true then 9223372036854775808 + m else m) := by
  rcases three b with kb | kb | kb
  · rcases three a with ka | ka | ka
    · refine .inr ⟨min (rung 52 1074 (mv (mg a) * mv (mg b))) 9218868437227405312, Nat.min_le_right _ _, fun s hs e => ?_⟩
      rw [mul_d s b hs hb (by omega) kb, e]
    · by_cases z : mg b = 0
      · refine .inl fun s hs e => ?_
        rw [mul_if s b hs hb (by omega) kb, if_pos z]
      · refine .inr ⟨9218868437227405312, Nat.le_refl _, fun s hs e => ?_⟩
        rw [mul_if s b hs hb (by omega) kb, if_neg z, infW_form]
    · refine .inl fun s hs e => mul_nan s b (.inl ?_)
      rw [isN_true] at ka ⊢
      omega
  · rcases three a with ka | ka | ka
    · by_cases z : mg a = 0
      · refine .inl fun s hs e => ?_
        rw [mul_fi s b hs hb (by omega) kb, if_pos (by omega)]
      · refine .inr ⟨9218868437227405312, Nat.le_refl _, fun s hs e => ?_⟩
        rw [mul_fi s b hs hb (by omega) kb, if_neg (by omega), infW_form]
    · refine .inr ⟨9218868437227405312, Nat.le_refl _, fun s hs e => ?_⟩
      rw [mul_ii s b hs hb (by omega) kb, infW_form]
    · refine .inl fun s hs e => mul_nan s b (.inl ?_)
      rw [isN_true] at ka ⊢
      omega
  · exact .inl fun s _ _ => mul_nan s b (.inr kb)
theorem form_ng (s : Bool) {m : Nat} (h : m ≤ 9218868437227405312) : ng (if s = true then 9223372036854775808 + m else m) = s ∧ mg (if s = true then 9223372036854775808 + m else m) = m ∧ (if s = true then 9223372036854775808 + m else m) < 18446744073709551616 ∧ isN (if s = true then 9223372036854775808 + m else m) = false := by
  cases s
  · simp only [Bool.false_eq_true, if_false]
    have e : mg m = m := mg_of_lt (by omega)
    exact ⟨ng_of_lt (by omega), e, by omega, isN_false.2 (by omega)⟩
  · simp only [if_true]
    have e : mg (9223372036854775808 + m) = m := by unfold mg; omega
    exact ⟨ng_of_ge (by omega), e, by omega, isN_false.2 (by omega)⟩
/-- opposites: both NaN, or the one the other's opposite -/
def Opp (x y : Nat) : Prop := (isN x = true ∧ isN y = true) ∨ (isN x = false ∧ y = negB x)
theorem negB_form (s : Bool) {m : Nat} (h : m ≤ 9218868437227405312) : negB (if s = true then 9223372036854775808 + m else m) = if (!s) = true then 9223372036854775808 + m else m := by
  unfold negB
  rw [(form_ng s h).1]
  cases s
  · simp only [Bool.false_eq_true, if_false, Bool.not_false, if_true]; omega
  · simp only [if_true, Bool.not_true, Bool.false_eq_true, if_false]; omega
theorem Opp.mul {x y b : Nat} (hx : x < 18446744073709551616) (hb : b < 18446744073709551616) (hy : y < 18446744073709551616) (h : Opp x y) : Opp (mlB x b) (mlB y b) := by
  rcases h with ⟨n1, n2⟩ | ⟨n1, rfl⟩
  · refine .inl ⟨?_, ?_⟩
    · rw [mlB_none (mul_nan x b (.inl n1))]; decide
    · rw [mlB_none (mul_nan y b (.inl n2))]; decide
  · rcases mul_form x b hx hb with h | ⟨m, hm, h⟩
    · refine .inl ⟨?_, ?_⟩
      · rw [mlB_none (h x hx rfl)]; decide
      · rw [mlB_none (h _ hy (negB_mg hx))]; decide
    · refine .inr ⟨?_, ?_⟩
      · rw [mlB_some (h x hx rfl)]; exact (form_ng _ hm).2.2.2
      · rw [mlB_some (h x hx rfl), mlB_some (h _ hy (negB_mg hx)), negB_form _ hm, negB_ng hx]
        cases ng x <;> cases ng b <;> rfl
/-- not below nothing, or a NaN -/
def Nnn (x : Nat) : Prop := isN x = true ∨ ng x = false
theorem Nnn.mul {x b : Nat} (hx : x < 18446744073709551616) (hb : b < 18446744073709551616) (h : Nnn x) (k : Nnn b) : Nnn (mlB x b) := by
  rcases h with h | h
  · left; rw [mlB_none (mul_nan x b (.inl h))]; decide
  · rcases k with k | k
    · left; rw [mlB_none (mul_nan x b (.inr k))]; decide
    · rcases mul_form x b hx hb with e | ⟨m, hm, e⟩
      · left; rw [mlB_none (e x hx rfl)]; decide
      · right; rw [mlB_some (e x hx rfl), (form_ng _ hm).1, h, k]; rfl
/-- nothing, or a NaN -/
def Zn (x : Nat) : Prop := isN x = true ∨ mg x = 0
theorem Zn.mul {x b : Nat} (hx : x < 18446744073709551616) (hb : b < 18446744073709551616) (h : Zn x) : Zn (mlB x b) := by
  rcases h with h | h
  · left; rw [mlB_none (mul_nan x b (.inl h))]; decide
  · rcases three b with k | k | k
    · right
      have e : mv (mg x) * mv (mg b) = 0 := by rw [h, mv_zero, Nat.zero_mul]
      have r : rung 52 1074 0 = 0 := by decide +kernel
      rw [mlB_some (mul_d x b hx hb (by omega) k), e, r, Nat.zero_min]
      cases (ng x ^^ ng b) <;> decide
    · left; rw [mlB_none (by rw [mul_fi x b hx hb (by omega) k, if_pos h])]; decide
    · left; rw [mlB_none (mul_nan x b (.inr k))]; decide
theorem clamp_zn {x : Nat} (hx : x < 18446744073709551616) (h : Zn x) : clampB x 4503599627370496 = 0 := by
  rcases h with h | h
  · unfold clampB; rw [if_pos h]
  · have : x = 0 ∨ x = 9223372036854775808 := by unfold mg at h; omega
    rcases this with rfl | rfl <;> decide +kernel
/-- the four floats' product, and the quanta -/
def qt4 (u d l t : Nat) : Nat := mlB (mlB (mlB (mlB u d) l) t) 4742290407621132288
def qnB (u d l t : Nat) : Int := clampB (qt4 u d l t) 4503599627370496
section
variable {u d l t : Nat} (hu : u < 18446744073709551616) (hd : d < 18446744073709551616) (hl : l < 18446744073709551616) (ht : t < 18446744073709551616)
theorem qt_lt (hu : u < 18446744073709551616) (hd : d < 18446744073709551616) (hl : l < 18446744073709551616) (ht : t < 18446744073709551616) : mlB u d < 18446744073709551616 ∧ mlB (mlB u d) l < 18446744073709551616 ∧ mlB (mlB (mlB u d) l) t < 18446744073709551616 ∧ qt4 u d l t < 18446744073709551616 := by
  have a := mlB_lt hu hd
  have b := mlB_lt a hl
  have c := mlB_lt b ht
  exact ⟨a, b, c, mlB_lt c (by decide)⟩
theorem qn_z1 (hu : u < 18446744073709551616) (hd : d < 18446744073709551616) (hl : l < 18446744073709551616) (ht : t < 18446744073709551616) (z : mg u = 0) : qnB u d l t = 0 := by
  have a := qt_lt hu hd hl ht
  have h0 : Zn u := .inr z
  exact clamp_zn a.2.2.2 ((((h0.mul hu hd).mul a.1 hl).mul a.2.1 ht).mul a.2.2.1 (by decide))
end
end Go.Proofs.YtomenbbhdnfciaaGreatDoor

namespace Go.Proofs.YtomenbbhdnfciaaGreatDoor
open Tf Ieee
/-- what is above nothing, else +0 -/
def pos0 (r : Nat) : Nat := if fgt r 0 = true then r else 0
/-- the depth put forward by half a slope -/
def rcV (k : Int) (h hb hd : Nat) : Nat := plB h (mlB 4602678819172646912 (slp k (sbB h hb) (sbB hd h)))
/-- what stands above the higher bed -/
def rcG (l bu bd : Nat) : Nat := sbB l (maxB bu bd)
/-- the depth over an edge: of the depths here, behind and ahead, the level here and both beds -/
def rcR (k : Int) (h hb hd l bu bd : Nat) : Nat := pos0 (minB (rcV k h hb hd) (rcG l bu bd))
theorem pos0_lt {r : Nat} (h : r < 18446744073709551616) : pos0 r < 18446744073709551616 := by unfold pos0; split <;> omega
theorem isC_N {r c : Nat} (h : IsC r c) : isN r = isN c := by
  have e := h.2
  unfold canonB at e
  split at e
  · rename_i k; rw [k, ← e]; decide
  · rename_i k
    split at e
    · have n : isN r = false := by simpa using k
      rw [← e, n]; decide
    · rw [e]
theorem isC_or {r c : Nat} (h : IsC r c) (n : isN r = false) : (mg r = 0 ∧ c = 0) ∨ r = c := by
  have e := h.2
  unfold canonB at e
  rw [n] at e
  by_cases z : mg r = 0
  · exact .inl ⟨z, by simpa [z] using e.symm⟩
  · exact .inr (by simpa [z] using e)
theorem slp_N (k : Int) (a b : Nat) : isN (slp k a b) = false := by
  unfold slp
  split
  · rename_i c
    have q := (Bool.and_eq_true _ _).mp c
    exact nn_N (lm_le k (ps_iff.1 q.1).2 (ps_iff.1 q.2).2)
  · split
    · rename_i c
      have q := (Bool.and_eq_true _ _).mp c
      have a1 := ns_iff.1 q.1
      have b1 := ns_iff.1 q.2
      have l := lm_le k (a := a - 9223372036854775808) (b := b - 9223372036854775808) (by omega) (by omega)
      refine isN_false.2 ?_
      unfold op
      split
      · unfold mg; omega
      · unfold mg; omega
    · decide
theorem minB_lt {a b : Nat} (ha : a < 18446744073709551616) (hb : b < 18446744073709551616) : minB a b < 18446744073709551616 := by
  unfold minB
  split
  · decide
  · split <;> assumption
/-- the lesser of two numbers: it is one of them, and not above either -/
theorem minB_num {a b : Nat} (ha : a < 18446744073709551616) (hb : b < 18446744073709551616) (na : isN a = false) (nb : isN b = false) :
    (minB a b = a ∨ minB a b = b) ∧ rk (minB a b) ≤ rk a ∧ rk (minB a b) ≤ rk b := by
  unfold minB
  rw [na, nb, if_neg (by decide)]
  have key : ∀ x y : Nat, x < 18446744073709551616 → y < 18446744073709551616 → placeB x ≤ placeB y → rk x ≤ rk y := by
    intro x y hx hy h
    unfold placeB at h
    unfold rk
    cases gx : ng x <;> cases gy : ng y <;> simp only [gx, gy, if_true, if_false, Bool.false_eq_true] at h ⊢ <;> unfold ng at gx gy <;> simp only [decide_eq_true_eq, decide_eq_false_iff_not] at gx gy <;> unfold mg <;> omega
  split
  · rename_i c
    exact ⟨.inr rfl, key _ _ hb ha (by omega), Int.le_refl _⟩
  · rename_i c
    exact ⟨.inl rfl, Int.le_refl _, key _ _ ha hb (by omega)⟩
theorem minB_nan {a b : Nat} (h : isN a = true ∨ isN b = true) : minB a b = quiet := by
  unfold minB
  rw [if_pos (by rcases h with h | h <;> simp [h])]
/-- of a difference in another form of nothing it is the same -/
theorem pos0_c {v r g : Nat} (hv : v < 18446744073709551616) (h : IsC r g) : pos0 (minB v r) = pos0 (minB v g) := by
  cases nv : isN v
  · cases nr : isN r
    · rcases isC_or h nr with ⟨z, rfl⟩ | rfl
      · have m1 := minB_num hv h.1 nv nr
        have m2 := minB_num hv (b := 0) (by decide) nv (by decide)
        have r0 : rk r = 0 := by unfold rk; rw [z]; simp
        have l1 := minB_lt hv h.1
        have l2 := minB_lt hv (b := 0) (by decide)
        have z1 : pos0 (minB v r) = 0 := by
          unfold pos0
          rw [if_neg]
          intro q
          have := ((fgt_iff l1 (by decide)).1 q).2.2
          rw [rk_zero] at this
          omega
        have z2 : pos0 (minB v 0) = 0 := by
          unfold pos0
          rw [if_neg]
          intro q
          have := ((fgt_iff l2 (by decide)).1 q).2.2
          rw [rk_zero] at this m2
          omega
        rw [z1, z2]
      · rfl
    · rw [minB_nan (.inr nr), minB_nan (.inr (by rw [← isC_N h]; exact nr))]
  · rw [minB_nan (.inl nv), minB_nan (.inl nv)]
end Go.Proofs.YtomenbbhdnfciaaGreatDoor

namespace Go.Proofs.YtomenbbhdnfciaaGreatDoor
open Tf Ieee Cu
/-- the depth from one cell into another, by their areas, beds and waters -/
def ovC (k : Int) (A : Nat → Int) (B : Nat → Nat) (W : Nat → Int) (up down back : Nat) : Nat :=
  rcR k (dpB (W up) (A up)) (dpB (W back) (A back)) (dpB (W down) (A down)) (lvl (B up) (W up) (A up)) (B up) (B down)
/-- the cell behind the cell of a side -/
def bkC (n t : Nat) : Nat := bsC n (t / 4) ((t % 4 + 2) % 4)
/-- the depth over a side, out of its cell -/
def sdD (n : Nat) (k : Int) (A : Nat → Int) (B : Nat → Nat) (W : Nat → Int) (t : Nat) : Nat := ovC k A B W (t / 4) (mt n t / 4) (bkC n t)
/-- the depth over an edge, by its Left's side and the speed -/
def rdT (n : Nat) (k : Int) (A : Nat → Int) (B : Nat → Nat) (W : Nat → Int) (t u : Nat) : Nat :=
  if fgt u 0 = true then sdD n k A B W t else if flt u 0 = true then sdD n k A B W (mt n t) else 0
theorem rdT_p {n : Nat} {k : Int} {A : Nat → Int} {B : Nat → Nat} {W : Nat → Int} {t u : Nat} (h : fgt u 0 = true) : rdT n k A B W t u = sdD n k A B W t := by unfold rdT; rw [if_pos h]
theorem rdT_n {n : Nat} {k : Int} {A : Nat → Int} {B : Nat → Nat} {W : Nat → Int} {t u : Nat} (h : fgt u 0 = false) (g : flt u 0 = true) : rdT n k A B W t u = sdD n k A B W (mt n t) := by unfold rdT; rw [if_neg (by rw [h]; decide), if_pos g]
theorem rdT_0 {n : Nat} {k : Int} {A : Nat → Int} {B : Nat → Nat} {W : Nat → Int} {t u : Nat} (h : fgt u 0 = false) (g : flt u 0 = false) : rdT n k A B W t u = 0 := by unfold rdT; rw [if_neg (by rw [h]; decide), if_neg (by rw [g]; decide)]
theorem bk_lt {n t : Nat} (hn : 1 ≤ n) (ht : t < 24 * n * n) : bkC n t < 6 * n * n := by
  have g := turned_geo (s := (t % 4 + 2) % 4) (t := 0) (k := t / 4) hn rfl (t_cell ht) (by omega) (by decide) (t_cell ht)
  exact g.1.2.2.1
end Go.Proofs.YtomenbbhdnfciaaGreatDoor

namespace Go.Proofs.YtomenbbhdnfciaaGreatDoor
open Tf Ieee
/-- a difference of two depths -/
theorem sb_nn {x y : Nat} (hx : x < 9218868437227405312) (hy : y < 9218868437227405312) : sbB x y = rn false ((mv x : Int) - mv y) := by
  have mx : mg x = x := mg_of_lt (by omega)
  have my : mg y = y := mg_of_lt (by omega)
  have e := sub_d x y (by omega) (by omega) (by omega) (by omega)
  rw [sub_add x y (by omega)] at e
  unfold sbB
  rw [addB_some e, canon_rn, sv_nn (d := x) (by omega), sv_nn (d := y) (by omega)]
end Go.Proofs.YtomenbbhdnfciaaGreatDoor
