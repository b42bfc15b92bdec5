/-
  Doubled numbers: their sums, products, squares, roots and quotients, by plain numbers (no program).
-/
import Derived.Test.YtgbaaafikphafaaNp
namespace Go.Proofs.Ytgbaaafikphafaa
open Tf Ieee
theorem mul_w {x y : Nat} (hx : x < 18446744073709551616) (hy : y < 18446744073709551616) (fx : mg x < 9218868437227405312) (fy : mg y < 9218868437227405312) :
    mlB x y = if (ng x ^^ ng y) then 9223372036854775808 + min (rung 52 1074 (mv (mg x) * mv (mg y))) 9218868437227405312 else min (rung 52 1074 (mv (mg x) * mv (mg y))) 9218868437227405312 :=
  mlB_some (mul_d x y hx hy fx fy)
theorem rung_none (d : Nat) : rung 52 d 0 = 0 := by
  have := rung_mag 52 d 0 (by omega)
  rwa [mag_zero, Nat.zero_mul] at this
/-- a word by its sign and its rung -/
def wd (s : Bool) (r : Nat) : Nat := if s then 9223372036854775808 + r else r
theorem wd_mg {s : Bool} {r : Nat} (h : r < 9223372036854775808) : mg (wd s r) = r := by unfold wd mg; cases s <;> simp <;> omega
theorem wd_db {s : Bool} {r : Nat} (h : r < 9223372036854775808) (h0 : r ≠ 0) : db (wd s r) = wd s (r + 4503599627370496) := by
  unfold db
  rw [wd_mg h, if_neg h0]
  unfold wd
  cases s <;> simp <;> omega
theorem wd_dz (s : Bool) : db (wd s 0) = wd s 0 := by cases s <;> decide
/-- the product of two such numbers stays far from both ends -/
def Far (x y : Nat) : Prop := (mg x = 0 ∨ mg y = 0) ∨ (52 + 1074 ≤ (mv (mg x) * mv (mg y)).log2 ∧ rung 52 1074 (mv (mg x) * mv (mg y)) + 4503599627370496 < 9218868437227405312)
theorem mlB_db {x y : Nat} (hx : x < 18446744073709551616) (hy : y < 18446744073709551616) (mx : Md x) (my : Md y) (h : Far x y) : mlB (db x) y = db (mlB x y) := by
  rw [mul_w (db_lt mx.w hx) hy mx.dfin my.fin, mul_w hx hy mx.fin my.fin, db_ng mx.w hx, db_mg mx.w]
  show wd (ng x ^^ ng y) _ = db (wd (ng x ^^ ng y) _)
  generalize (ng x ^^ ng y) = s
  rcases h with h | ⟨h1, h2⟩
  · have e1 : mv (if mg x = 0 then 0 else mg x + 4503599627370496) * mv (mg y) = 0 := by
      rcases h with h | h
      · rw [if_pos h, mv_zero, Nat.zero_mul]
      · rw [h, mv_zero, Nat.mul_zero]
    have e2 : mv (mg x) * mv (mg y) = 0 := by
      rcases h with h | h
      · rw [h, mv_zero, Nat.zero_mul]
      · rw [h, mv_zero, Nat.mul_zero]
    rw [e1, e2, rung_none, Nat.zero_min, wd_dz]
  · have h0 : mv (mg x) * mv (mg y) ≠ 0 := by
      intro e
      rw [e] at h1
      simp at h1
    have hx0 : mg x ≠ 0 := by intro e; rw [e, mv_zero, Nat.zero_mul] at h0; exact h0 rfl
    have hb := rung_big h1 h0
    rw [if_neg hx0, mv_dbl (mx.resolve_left hx0).1, show 2 * mv (mg x) * mv (mg y) = mv (mg x) * mv (mg y) * 2 by rw [Nat.mul_comm 2, Nat.mul_right_comm], rung_dbl h0 h1]
    generalize rung 52 1074 (mv (mg x) * mv (mg y)) = r at *
    rw [Nat.min_eq_left (by omega), Nat.min_eq_left (by omega), wd_db (by omega) (by omega)]
theorem mlB_Md {x y : Nat} (hx : x < 18446744073709551616) (hy : y < 18446744073709551616) (mx : Md x) (my : Md y) (h : Far x y) : Md (mlB x y) := by
  rw [mul_w hx hy mx.fin my.fin]
  show Md (wd (ng x ^^ ng y) _)
  unfold Md
  rcases h with h | ⟨h1, h2⟩
  · have e2 : mv (mg x) * mv (mg y) = 0 := by
      rcases h with h | h
      · rw [h, mv_zero, Nat.zero_mul]
      · rw [h, mv_zero, Nat.mul_zero]
    rw [e2, rung_none, Nat.zero_min, wd_mg (by omega)]
    exact .inl rfl
  · have h0 : mv (mg x) * mv (mg y) ≠ 0 := by
      intro e
      rw [e] at h1
      simp at h1
    have hb := rung_big h1 h0
    generalize rung 52 1074 (mv (mg x) * mv (mg y)) = r at *
    rw [Nat.min_eq_left (by omega), wd_mg (by omega)]
    exact .inr ⟨hb, h2⟩
theorem mlB_dbr {x y : Nat} (hx : x < 18446744073709551616) (hy : y < 18446744073709551616) (mx : Md x) (my : Md y) (h : Far x y) : mlB x (db y) = db (mlB x y) := by
  rw [mlB_comm x (db y), mlB_comm x y]
  refine mlB_db hy hx my mx ?_
  rcases h with h | h
  · exact .inl h.symm
  · rw [Nat.mul_comm] at h; exact .inr h
/-- two times a number -/
theorem two_db {x : Nat} (hx : x < 18446744073709551616) (h : Md x) : mlB 4611686018427387904 x = db x := by
  have m2 : mv 4611686018427387904 = 2 ^ K * 2 := by
    have := mv_from_one 1 4611686018427387904 (by decide)
    rw [this, one_pow, Nat.pow_one, Nat.mul_comm]
  rw [mul_w (by decide) hx (by decide) h.fin, show mg 4611686018427387904 = 4611686018427387904 by decide, m2, show ng 4611686018427387904 = false by decide, Bool.false_xor]
  have es : 2 ^ K * 2 * mv (mg x) = (mv (mg x) * 2) * 2 ^ K := by rw [Nat.mul_comm (2 ^ K) 2, Nat.mul_comm, ← Nat.mul_assoc]
  have er : rung 52 1074 ((mv (mg x) * 2) * 2 ^ K) = rung 52 0 (mv (mg x) * 2) := by
    have h := rung_scale 52 0 K (mv (mg x) * 2)
    rw [Nat.zero_add] at h
    exact h
  rw [es, er]
  have hw := word_eq x hx
  rcases h with h | ⟨h1, h2⟩
  · rw [h, mv_zero, Nat.zero_mul, rung_none, Nat.zero_min]
    rw [h] at hw
    unfold db
    rw [if_pos h]
    exact hw.symm
  · have hm : mv (mg x) ≠ 0 := by
      intro e
      have := (mv_inj (r := mg x) (r' := 0)).1 (by rw [e, mv_zero])
      omega
    have hl : 52 + 0 ≤ (mv (mg x)).log2 := by
      have e : (2 : Nat) ^ 52 = 4503599627370496 := by decide
      have h3 : 2 ^ 52 ≤ mv (mg x) := by
        have : mv 4503599627370496 ≤ mv (mg x) := mv_le.2 h1
        rwa [show mv 4503599627370496 = 2 ^ 52 by decide] at this
      exact (Nat.le_log2 hm).2 h3
    rw [rung_dbl hm hl, rung_mv, Nat.min_eq_left (by omega)]
    unfold db
    rw [if_neg (show ¬ mg x = 0 by omega)]
    clear er es m2
    generalize mg x = r at *
    cases k : ng x
    · rw [k] at hw; simp at hw ⊢; omega
    · rw [k] at hw; simp at hw ⊢; omega
end Go.Proofs.Ytgbaaafikphafaa
