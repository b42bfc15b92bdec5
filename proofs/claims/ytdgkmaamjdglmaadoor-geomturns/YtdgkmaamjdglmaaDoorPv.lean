/-
  Floats as whole numbers, by plain numbers: what Round, Floor and FromInt answer (no program).
-/
import Derived.Test.YtdgkmaamjdglmaaDoorPm
import Derived.Test.YtdgkmaamjdglmaaDoorFlE
namespace Go.Proofs.YtdgkmaamjdglmaaDoor
open Tf

/-- what a finite double is made whole to; whether it is one of 64 bits; the answer -/
def cq (way : Ieee.Toward) (x : Nat) : Int := if ng x then -((cutq way (ng x) (mv (mg x)) one : Nat) : Int) else ((cutq way (ng x) (mv (mg x)) one : Nat) : Int)
def cOk (way : Ieee.Toward) (x : Nat) : Bool := fin x && decide (-9223372036854775808 ≤ cq way x) && decide (cq way x < 9223372036854775808)
def cI (way : Ieee.Toward) (x : Nat) : Int := if cOk way x then cq way x else 0
/-- a double that is no NaN, made whole -/
def itV (way : Ieee.Toward) (x : Nat) : Nat := Ieee.double.write ((Ieee.double.read x).integral way)

/-- the code's own test, and its answer -/
def wOk (y : Nat) : Bool := (fgt y 14114281232179134464 || feq y 14114281232179134464) && flt y 4890909195324358656
def wI (y : Nat) : Int := if wOk y then (if ng y then -((mv (mg y) / one : Nat) : Int) else ((mv (mg y) / one : Nat) : Int)) else 0

theorem mv_p63 : mv 4890909195324358656 = 2 ^ 63 * one := mv_from_one 63 _ (by decide)

theorem wOk_rk (y : Nat) (hy : y < 18446744073709551616) : wOk y = (!isN y && decide (-4890909195324358656 ≤ rk y) && decide (rk y < 4890909195324358656)) := by
  unfold wOk
  rw [fgt_rk y _ hy (by decide), feq_rk y _ hy (by decide), flt_rk y _ hy (by decide)]
  have n1 : isN 14114281232179134464 = false := by decide
  have n2 : isN 4890909195324358656 = false := by decide
  have r1 : rk 14114281232179134464 = -4890909195324358656 := by decide
  have r2 : rk 4890909195324358656 = 4890909195324358656 := by decide
  rw [n1, n2, r1, r2]
  cases isN y
  · simp only [Bool.not_false, Bool.and_self, Bool.true_and]
    congr 1
    rw [← Bool.decide_or]
    exact decide_eq_decide.2 (by omega)
  · simp

theorem wOk_fin {y : Nat} (hy : y < 18446744073709551616) (h : wOk y = true) : mg y ≤ 4890909195324358656 ∧ (ng y = false → mg y < 4890909195324358656) := by
  rw [wOk_rk y hy] at h
  simp only [Bool.and_eq_true, decide_eq_true_eq] at h
  obtain ⟨⟨_, a⟩, b⟩ := h
  unfold rk at a b
  cases hn : ng y <;> rw [hn] at a b <;> simp only [Bool.false_eq_true, if_false, if_true] at a b
  · exact ⟨by omega, fun _ => by omega⟩
  · exact ⟨by omega, fun h => by cases h⟩

theorem wI_conv {y : Nat} (hy : y < 18446744073709551616) (h : wOk y = true) : floatToIntVal .f64 y .i64 = some (wI y) := by
  obtain ⟨a, b⟩ := wOk_fin hy h
  unfold floatToIntVal
  have e : (FloatKind.f64.decode y).toInt .zero = some (if ng y then -((mv (mg y) / one : Nat) : Int) else ((mv (mg y) / one : Nat) : Int)) := toInt_d y hy (by omega)
  rw [e]
  have hw : wI y = (if ng y then -((mv (mg y) / one : Nat) : Int) else ((mv (mg y) / one : Nat) : Int)) := by unfold wI; rw [h]; rfl
  rw [← hw]
  have hle : mv (mg y) / one ≤ 2 ^ 63 := by
    have h1 := mv_le.2 a
    rw [mv_p63] at h1
    have h2 := Nat.div_le_div_right (c := one) h1
    rwa [Nat.mul_div_cancel _ one_pos] at h2
  have hlt : ng y = false → mv (mg y) / one < 2 ^ 63 := by
    intro h'
    rw [Nat.div_lt_iff_lt_mul one_pos, ← mv_p63]
    exact mv_lt.2 (b h')
  have hb : IntKind.i64.min ≤ wI y ∧ wI y ≤ IntKind.i64.max := by
    have m1 : IntKind.i64.min = -9223372036854775808 := by decide
    have m2 : IntKind.i64.max = 9223372036854775807 := by decide
    rw [m1, m2, hw]
    generalize mv (mg y) / one = q at *
    cases hn : ng y
    · have := hlt hn
      simp only [Bool.false_eq_true, if_false]; omega
    · simp only [if_true]; omega
  simp only [hb, and_self, if_true]

theorem itV_lt (way : Ieee.Toward) (x : Nat) : itV way x < 18446744073709551616 := Ieee.double.write_lt _

/-- what a finite double is made whole to is that number -/
theorem itV_fin (way : Ieee.Toward) (x : Nat) (hx : x < 18446744073709551616) (fx : mg x < 9218868437227405312) :
    ng (itV way x) = ng x ∧ mg (itV way x) < 9218868437227405312 ∧ mv (mg (itV way x)) = cutq way (ng x) (mv (mg x)) one * one := by
  obtain ⟨r, hr, e, hw⟩ := integral_d way x hx fx
  have hw' : itV way x = if ng x then 9223372036854775808 + r else r := hw
  rw [hw']
  cases hn : ng x
  · simp only [Bool.false_eq_true, if_false]
    rw [ng_of_lt (by omega), mg_of_lt (by omega)]
    exact ⟨rfl, hr, by rw [hn] at e; exact e⟩
  · simp only [if_true]
    rw [ng_of_ge (by omega), mg_of_ge (by omega) (by omega)]
    rw [show 9223372036854775808 + r - 9223372036854775808 = r by omega]
    exact ⟨rfl, hr, by rw [hn] at e; exact e⟩
theorem sv_itV (way : Ieee.Toward) (x : Nat) (hx : x < 18446744073709551616) (fx : mg x < 9218868437227405312) : sv (itV way x) = cq way x * one := by
  obtain ⟨a, _, c⟩ := itV_fin way x hx fx
  unfold sv cq
  rw [a, c]
  cases ng x <;> simp [Int.neg_mul]
theorem itV_inf (way : Ieee.Toward) (x : Nat) (hx : x < 18446744073709551616) (fx : mg x = 9218868437227405312) : itV way x = x := by
  have ei := d_inf
  unfold itV
  rw [read_inf Ieee.double x d_he (by rw [rg_d]; omega), sg_d x hx]
  simp only [Ieee.Datum.integral, Ieee.Format.write]
  rw [d_word, d_inf]
  have hw := word_eq x hx
  rw [fx] at hw
  exact hw.symm

theorem sv_p63 : sv 4890909195324358656 = 9223372036854775808 * (one : Int) := by
  unfold sv
  have h1 : ng 4890909195324358656 = false := by decide
  have h2 : mg 4890909195324358656 = 4890909195324358656 := by decide
  rw [h1, h2, mv_p63]
  simp only [Bool.false_eq_true, if_false, Int.natCast_mul]
  rfl
theorem sv_n63 : sv 14114281232179134464 = -9223372036854775808 * (one : Int) := by
  unfold sv
  have h1 : ng 14114281232179134464 = true := by decide
  have h2 : mg 14114281232179134464 = 4890909195324358656 := by decide
  rw [h1, h2, mv_p63]
  simp only [if_true, Int.natCast_mul, ← Int.neg_mul]
  rfl
theorem onep : (0 : Int) < (one : Int) := by exact_mod_cast one_pos

theorem wOk_itV (way : Ieee.Toward) (x : Nat) (hx : x < 18446744073709551616) (n : isN x = false) : wOk (itV way x) = cOk way x := by
  have hle := isN_false.1 n
  by_cases fx : mg x < 9218868437227405312
  · obtain ⟨a, b, c⟩ := itV_fin way x hx fx
    have hn : isN (itV way x) = false := isN_false.2 (by omega)
    rw [wOk_rk _ (itV_lt way x), hn]
    unfold cOk
    have hf : fin x = true := by unfold fin; exact decide_eq_true fx
    rw [hf]
    have r1 : rk 14114281232179134464 = -4890909195324358656 := by decide
    have r2 : rk 4890909195324358656 = 4890909195324358656 := by decide
    have s1 := sv_lt_iff (itV way x) 14114281232179134464
    have s2 := sv_lt_iff (itV way x) 4890909195324358656
    rw [r1, sv_itV way x hx fx, sv_n63, Int.mul_lt_mul_right onep] at s1
    rw [r2, sv_itV way x hx fx, sv_p63, Int.mul_lt_mul_right onep] at s2
    have t1 : decide (-4890909195324358656 ≤ rk (itV way x)) = decide (-9223372036854775808 ≤ cq way x) := decide_eq_decide.2 (by omega)
    have t2 : decide (rk (itV way x) < 4890909195324358656) = decide (cq way x < 9223372036854775808) := decide_eq_decide.2 (by omega)
    rw [t1, t2]; simp
  · have e : mg x = 9218868437227405312 := by omega
    rw [itV_inf way x hx e, wOk_rk x hx, n]
    unfold cOk
    have hf : fin x = false := by unfold fin; exact decide_eq_false fx
    rw [hf]
    unfold rk; rw [e]
    cases ng x <;> simp
theorem wI_itV (way : Ieee.Toward) (x : Nat) (hx : x < 18446744073709551616) (n : isN x = false) : wI (itV way x) = cI way x := by
  unfold wI cI
  rw [wOk_itV way x hx n]
  cases h : cOk way x
  · rfl
  · have fx : mg x < 9218868437227405312 := by
      unfold cOk at h
      simp only [Bool.and_eq_true] at h
      have := h.1.1
      unfold fin at this
      simpa using this
    obtain ⟨a, b, c⟩ := itV_fin way x hx fx
    rw [if_pos rfl, if_pos rfl, a, c, Nat.mul_div_cancel _ one_pos]
    rfl
theorem wOk_nan {y : Nat} (hy : y < 18446744073709551616) (n : isN y = true) : wOk y = false ∧ wI y = 0 := by
  have h : wOk y = false := by rw [wOk_rk y hy, n]; rfl
  exact ⟨h, by unfold wI; rw [h]; rfl⟩
theorem cOk_nan (way : Ieee.Toward) {x : Nat} (n : isN x = true) : cOk way x = false ∧ cI way x = 0 := by
  have h : cOk way x = false := by
    unfold cOk fin
    have := isN_true.1 n
    rw [decide_eq_false (by omega)]; rfl
  exact ⟨h, by unfold cI; rw [h]; rfl⟩

end Go.Proofs.YtdgkmaamjdglmaaDoor
