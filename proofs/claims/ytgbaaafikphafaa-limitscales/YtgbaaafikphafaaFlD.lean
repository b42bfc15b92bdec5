/-
  Sums, differences and products of doubles, by their bits (no program).
-/
import Derived.Test.YtgbaaafikphafaaFlC
namespace Go.Proofs.Ytgbaaafikphafaa.Tf
open Ieee

/-- a whole number of units of 2 ^ -1074, rounded to a double; 'z': the sign of nothing -/
def rn (z : Bool) (v : Int) : Nat :=
  if (if v = 0 then z else decide (v < 0)) then 9223372036854775808 + min (rung 52 0 v.natAbs) 9218868437227405312 else min (rung 52 0 v.natAbs) 9218868437227405312

theorem rnd_d (z : Bool) (v : Int) : rnd double z v = rn z v := by
  unfold rnd rn; rw [d_word, d_inf]; rfl

theorem rn_lt (z : Bool) (v : Int) : rn z v < 18446744073709551616 := by
  unfold rn
  generalize (if v = 0 then z else decide (v < 0)) = c
  cases c <;> simp <;> omega

theorem add_d (x y : Nat) (hx : x < 18446744073709551616) (hy : y < 18446744073709551616) (fx : mg x < 9218868437227405312) (fy : mg y < 9218868437227405312) :
    double.add x y = some (rn (ng x && ng y) (sv x + sv y)) := by
  have ei := d_inf
  rw [add_fin double x y (by rw [rg_d]; omega) (by rw [rg_d]; omega), rnd_d, sg_d x hx, sg_d y hy, sval_d x hx, sval_d y hy]
theorem sub_d (x y : Nat) (hx : x < 18446744073709551616) (hy : y < 18446744073709551616) (fx : mg x < 9218868437227405312) (fy : mg y < 9218868437227405312) :
    double.sub x y = some (rn (ng x && !ng y) (sv x - sv y)) := by
  have ei := d_inf
  rw [sub_fin double x y (by rw [rg_d]; omega) (by rw [rg_d]; omega), rnd_d, sg_d x hx, sg_d y hy, sval_d x hx, sval_d y hy]
theorem mul_d (x y : Nat) (hx : x < 18446744073709551616) (hy : y < 18446744073709551616) (fx : mg x < 9218868437227405312) (fy : mg y < 9218868437227405312) :
    double.mul x y = some (if (ng x ^^ ng y) then 9223372036854775808 + min (rung 52 1074 (mv (mg x) * mv (mg y))) 9218868437227405312 else min (rung 52 1074 (mv (mg x) * mv (mg y))) 9218868437227405312) := by
  have ei := d_inf
  rw [mul_fin double x y 1074 d_lp (by rw [rg_d]; omega) (by rw [rg_d]; omega), sg_d x hx, sg_d y hy, rg_d, rg_d, d_word, d_inf]
  rfl

theorem mv_zero : mv 0 = 0 := mag_zero 52
theorem mv_lt {r r' : Nat} : mv r < mv r' ↔ r < r' := mag_lt
theorem mv_le {r r' : Nat} : mv r ≤ mv r' ↔ r ≤ r' := mag_le
theorem mv_inj {r r' : Nat} : mv r = mv r' ↔ r = r' := mag_inj
theorem rung_mv (r : Nat) : rung 52 0 (mv r) = r := rung_mag0 52 r (by omega)

/-- a whole number of units that a double has is that double -/
theorem rn_pos (z : Bool) (r : Nat) (h0 : 0 < r) (h : r ≤ 9218868437227405312) : rn z (mv r : Int) = r := by
  have := (@mv_lt 0 r).2 h0
  rw [mv_zero] at this
  unfold rn
  rw [Int.natAbs_natCast, rung_mv, if_neg (show ¬ (mv r : Int) = 0 by omega)]
  have : decide ((mv r : Int) < 0) = false := by simp
  rw [this]; simp; omega
theorem rn_neg (z : Bool) (r : Nat) (h0 : 0 < r) (h : r ≤ 9218868437227405312) : rn z (-(mv r : Int)) = 9223372036854775808 + r := by
  have := (@mv_lt 0 r).2 h0
  rw [mv_zero] at this
  unfold rn
  rw [Int.natAbs_neg, Int.natAbs_natCast, rung_mv, if_neg (show ¬ -(mv r : Int) = 0 by omega)]
  have : decide (-(mv r : Int) < 0) = true := by simp; omega
  rw [this]; simp; omega
theorem rn_zero (z : Bool) : rn z 0 = if z then 9223372036854775808 else 0 := by
  unfold rn
  have : rung 52 0 0 = 0 := by have := rung_mv 0; rwa [mv_zero] at this
  simp [this]

theorem mg_of_lt {x : Nat} (h : x < 9223372036854775808) : mg x = x := by unfold mg; omega
theorem mg_of_ge {x : Nat} (h : 9223372036854775808 ≤ x) (h' : x < 18446744073709551616) : mg x = x - 9223372036854775808 := by unfold mg; omega
theorem ng_of_lt {x : Nat} (h : x < 9223372036854775808) : ng x = false := by unfold ng; simp; omega
theorem ng_of_ge {x : Nat} (h : 9223372036854775808 ≤ x) : ng x = true := by unfold ng; simp; omega
theorem lt_of_ng {x : Nat} (h : ng x = false) : x < 9223372036854775808 := by unfold ng at h; simp at h; omega
theorem ge_of_ng {x : Nat} (h : ng x = true) : 9223372036854775808 ≤ x := by unfold ng at h; simp at h; omega
/-- a word is its sign and its magnitude -/
theorem word_eq (x : Nat) (hx : x < 18446744073709551616) : x = if ng x then 9223372036854775808 + mg x else mg x := by
  cases h : ng x
  · have := lt_of_ng h; simp [mg_of_lt this]
  · have := ge_of_ng h; simp [mg_of_ge this hx]; omega

/-- any word that is finite and no nought is what its value is rounded to -/
theorem rn_sv (z : Bool) (x : Nat) (hx : x < 18446744073709551616) (h0 : 0 < mg x) (h : mg x ≤ 9218868437227405312) : rn z (sv x) = x := by
  have hw := word_eq x hx
  unfold sv
  cases hn : ng x
  · rw [hn] at hw; simp only [Bool.false_eq_true, if_false] at hw ⊢; rw [rn_pos z _ h0 h]; exact hw.symm
  · rw [hn] at hw; simp only [if_true] at hw ⊢; rw [rn_neg z _ h0 h]; exact hw.symm

theorem sub_inf_fin (x y : Nat) (hx : x < 18446744073709551616) (fx : mg x = 9218868437227405312) (fy : mg y < 9218868437227405312) : double.sub x y = some x := by
  have ei := d_inf
  obtain ⟨m, a, e, _⟩ := read_fin double y (by rw [rg_d]; omega)
  unfold Format.sub
  rw [read_inf double x d_he (by rw [rg_d]; omega), e]
  simp only [Datum.opposite, Datum.sum, Option.map, Format.write]
  rw [d_word, d_inf, sg_d x hx]
  have hw := word_eq x hx
  rw [fx] at hw
  rw [← hw]
theorem sub_nan (x y : Nat) (h : isN x = true ∨ isN y = true) : double.sub x y = none := by
  rw [isN_true, isN_true] at h
  have ei := d_inf
  unfold Format.sub
  rcases h with h | h
  · rw [read_nan double x d_he (by rw [rg_d]; omega)]; rfl
  · rw [read_nan double y d_he (by rw [rg_d]; omega)]; simp only [Datum.opposite]; cases double.read x <;> rfl
theorem sub_inf_self (x : Nat) (fx : mg x = 9218868437227405312) : double.sub x x = none := by
  have ei := d_inf
  unfold Format.sub
  rw [read_inf double x d_he (by rw [rg_d]; omega)]
  simp only [Datum.opposite, Datum.sum]
  cases sg double x <;> rfl
theorem sub_self (x : Nat) (hx : x < 18446744073709551616) (fx : mg x < 9218868437227405312) : double.sub x x = some 0 := by
  rw [sub_d x x hx hx fx fx, Int.sub_self, rn_zero]
  cases ng x <;> rfl

end Go.Proofs.Ytgbaaafikphafaa.Tf
