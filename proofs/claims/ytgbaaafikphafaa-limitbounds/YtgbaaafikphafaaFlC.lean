/-
  Doubles by their bits: comparisons by ranks (no program).
-/
import Derived.Test.YtgbaaafikphafaaFlB
namespace Go.Proofs.Ytgbaaafikphafaa.Tf
open Ieee

theorem d_sw : double.signWeight = 9223372036854775808 := by decide
theorem d_inf : double.infRung = 9218868437227405312 := by decide
theorem d_bin : double.binade = 4503599627370496 := by decide
theorem d_he : double.binade ≤ double.infRung := by decide
theorem d_lp : double.leastPlace = -((1074 : Nat) : Int) := by decide
theorem d_fb : double.fractionBits = 52 := rfl
theorem d_word (neg : Bool) (r : Nat) : double.word neg r = if neg then 9223372036854775808 + r else r := by
  unfold Format.word; rw [d_sw]

/-- the magnitude's bits; the sign bit; a NaN -/
def mg (x : Nat) : Nat := x % 9223372036854775808
def ng (x : Nat) : Bool := decide (9223372036854775808 ≤ x)
def isN (x : Nat) : Bool := decide (9218868437227405312 < mg x)
/-- the rank: the magnitude's bits with the sign -/
def rk (x : Nat) : Int := if ng x then -(mg x : Int) else (mg x : Int)
/-- the magnitude in units of 2 ^ -1074 -/
def mv (r : Nat) : Nat := mag 52 r
def sv (x : Nat) : Int := if ng x then -(mv (mg x) : Int) else (mv (mg x) : Int)

theorem mg_lt (x : Nat) : mg x < 9223372036854775808 := by unfold mg; omega
theorem rg_d (x : Nat) : rg double x = mg x := by unfold rg mg; rw [d_sw]
theorem sg_d (x : Nat) (hx : x < 18446744073709551616) : sg double x = ng x := by
  unfold sg ng; rw [d_sw]
  by_cases h : 9223372036854775808 ≤ x
  · have : x / 9223372036854775808 = 1 := by omega
    rw [this]; simp [h]
  · have : x / 9223372036854775808 = 0 := by omega
    rw [this]; simp [h]
theorem sval_d (x : Nat) (hx : x < 18446744073709551616) : sval double x = sv x := by
  unfold sval sv mv; rw [rg_d, sg_d x hx, d_fb]

theorem isN_false {x : Nat} : isN x = false ↔ mg x ≤ 9218868437227405312 := by unfold isN; simp
theorem isN_true {x : Nat} : isN x = true ↔ 9218868437227405312 < mg x := by unfold isN; simp

theorem sv_lt_iff (x y : Nat) : sv x < sv y ↔ rk x < rk y := by
  unfold sv rk mv
  have a := @mag_lt 52 (mg x) (mg y)
  have b := @mag_lt 52 (mg y) (mg x)
  have c := @mag_lt 52 0 (mg x)
  have d := @mag_lt 52 0 (mg y)
  rw [mag_zero] at c d
  by_cases h1 : ng x = true <;> by_cases h2 : ng y = true <;> simp only [h1, h2, if_true] <;> simp <;> omega
theorem sv_eq_iff (x y : Nat) : sv x = sv y ↔ rk x = rk y := by
  have a := sv_lt_iff x y
  have b := sv_lt_iff y x
  omega

theorem compare_lt_congr (a b c d : Int) (h1 : a < b ↔ c < d) (h2 : b < a ↔ d < c) : compare a b = compare c d := by
  have h3 : a = b ↔ c = d := by omega
  simp only [compare, compareOfLessAndEq, h1, h3]

theorem comp_lt {a b : Int} (h : a < b) : compare a b = .lt := by simp [compare, compareOfLessAndEq, h]
theorem comp_gt {a b : Int} (h : b < a) : compare a b = .gt := by
  have h1 : ¬ a < b := by omega
  have h2 : ¬ a = b := by omega
  simp [compare, compareOfLessAndEq, h1, h2]

/-- COMPARING IS COMPARING RANKS. -/
theorem order_rk (x y : Nat) (hx : x < 18446744073709551616) (hy : y < 18446744073709551616) (nx : isN x = false) (ny : isN y = false) :
    double.order x y = some (compare (rk x) (rk y)) := by
  rw [isN_false] at nx ny
  have ex := rg_d x
  have ey := rg_d y
  have ei := d_inf
  by_cases fx : mg x < 9218868437227405312
  · by_cases fy : mg y < 9218868437227405312
    · rw [order_fin double x y (by omega) (by omega), sval_d x hx, sval_d y hy]
      rw [compare_lt_congr _ _ _ _ (sv_lt_iff x y) (sv_lt_iff y x)]
    · obtain ⟨m, a, e1, v1⟩ := read_fin double x (by omega)
      unfold Format.order
      rw [e1, read_inf double y d_he (by omega), sg_d y hy]
      have hr : mg y = 9218868437227405312 := by omega
      unfold Datum.order rk
      rw [hr]
      cases h : ng y
      · have : (if ng x = true then -(mg x : Int) else (mg x : Int)) < ((9218868437227405312 : Nat) : Int) := by split <;> omega
        simp only [Bool.false_eq_true, if_false]; rw [comp_lt this]
      · have : -((9218868437227405312 : Nat) : Int) < (if ng x = true then -(mg x : Int) else (mg x : Int)) := by split <;> omega
        simp only [if_true]; rw [comp_gt this]
  · have hr : mg x = 9218868437227405312 := by omega
    by_cases fy : mg y < 9218868437227405312
    · obtain ⟨m, a, e1, v1⟩ := read_fin double y (by omega)
      unfold Format.order
      rw [e1, read_inf double x d_he (by omega), sg_d x hx]
      unfold Datum.order rk
      rw [hr]
      cases h : ng x
      · have : (if ng y = true then -(mg y : Int) else (mg y : Int)) < ((9218868437227405312 : Nat) : Int) := by split <;> omega
        simp only [Bool.false_eq_true, if_false]; rw [comp_gt this]
      · have : -((9218868437227405312 : Nat) : Int) < (if ng y = true then -(mg y : Int) else (mg y : Int)) := by split <;> omega
        simp only [if_true]; rw [comp_lt this]
    · have hr2 : mg y = 9218868437227405312 := by omega
      unfold Format.order
      rw [read_inf double x d_he (by omega), read_inf double y d_he (by omega), sg_d x hx, sg_d y hy]
      unfold Datum.order rk
      rw [hr, hr2]
      cases ng x <;> cases ng y <;> decide

theorem order_nan (x y : Nat) (h : isN x = true ∨ isN y = true) : double.order x y = none := by
  rw [isN_true, isN_true] at h
  have ex := rg_d x
  have ey := rg_d y
  have ei := d_inf
  rcases h with h | h
  · exact order_nan_left double x y d_he (by omega)
  · exact order_nan_right double x y d_he (by omega)

/-- the comparisons as Bools -/
def feq (x y : Nat) : Bool := double.order x y == some .eq
def flt (x y : Nat) : Bool := double.order x y == some .lt
def fgt (x y : Nat) : Bool := double.order x y == some .gt

theorem cmp_eq (a b : Int) : (some (compare a b) == some Ordering.eq) = decide (a = b) := by
  by_cases h : a = b
  · subst h; simp [compare, compareOfLessAndEq]
  · by_cases h' : a < b <;> simp [compare, compareOfLessAndEq, h, h']
theorem cmp_lt (a b : Int) : (some (compare a b) == some Ordering.lt) = decide (a < b) := by
  by_cases h' : a < b
  · simp [compare, compareOfLessAndEq, h']
  · by_cases h : a = b <;> simp [compare, compareOfLessAndEq, h, h']
theorem cmp_gt (a b : Int) : (some (compare a b) == some Ordering.gt) = decide (b < a) := by
  by_cases h' : a < b
  · have : ¬ b < a := by omega
    simp [compare, compareOfLessAndEq, h', this]
  · by_cases h : a = b
    · subst h; simp [compare, compareOfLessAndEq]
    · have : b < a := by omega
      simp [compare, compareOfLessAndEq, h, h', this]

theorem feq_rk (x y : Nat) (hx : x < 18446744073709551616) (hy : y < 18446744073709551616) : feq x y = (!isN x && !isN y && decide (rk x = rk y)) := by
  unfold feq
  cases nx : isN x
  · cases ny : isN y
    · rw [order_rk x y hx hy nx ny, cmp_eq]; simp
    · rw [order_nan x y (.inr ny)]; simp
  · rw [order_nan x y (.inl nx)]; simp
theorem flt_rk (x y : Nat) (hx : x < 18446744073709551616) (hy : y < 18446744073709551616) : flt x y = (!isN x && !isN y && decide (rk x < rk y)) := by
  unfold flt
  cases nx : isN x
  · cases ny : isN y
    · rw [order_rk x y hx hy nx ny, cmp_lt]; simp
    · rw [order_nan x y (.inr ny)]; simp
  · rw [order_nan x y (.inl nx)]; simp
theorem fgt_rk (x y : Nat) (hx : x < 18446744073709551616) (hy : y < 18446744073709551616) : fgt x y = (!isN x && !isN y && decide (rk y < rk x)) := by
  unfold fgt
  cases nx : isN x
  · cases ny : isN y
    · rw [order_rk x y hx hy nx ny, cmp_gt]; simp
    · rw [order_nan x y (.inr ny)]; simp
  · rw [order_nan x y (.inl nx)]; simp

end Go.Proofs.Ytgbaaafikphafaa.Tf
