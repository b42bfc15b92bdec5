/-
  What Sum, Split and Product of package twin must return, by plain numbers (no program).
-/
import Derived.Test.YtgbaaafikphafaaPf
namespace Go.Proofs.Ytgbaaafikphafaa
open Tf

def infW (s : Bool) : Nat := if s then 18442240474082181120 else 9218868437227405312
theorem infW_lt (s : Bool) : infW s < 18446744073709551616 := by cases s <;> decide
theorem infW_mg (s : Bool) : mg (infW s) = 9218868437227405312 := by cases s <;> decide
theorem infW_ng (s : Bool) : ng (infW s) = s := by cases s <;> decide
theorem infW_of (x : Nat) (hx : x < 18446744073709551616) (h : mg x = 9218868437227405312) : x = infW (ng x) := by
  have hw := word_eq x hx
  rw [h] at hw
  unfold infW
  rw [hw]
  cases ng x <;> decide
theorem infW_canon (s : Bool) : canonB (infW s) = infW s := by cases s <;> decide
theorem infW_neg (s : Bool) : negB (infW s) = infW (!s) := by cases s <;> decide

section ops
open Ieee
theorem wr_inf (s : Bool) : double.write (.infinity s) = infW s := by cases s <;> decide
theorem add_nan (x y : Nat) (h : isN x = true ∨ isN y = true) : double.add x y = none := by
  rw [isN_true, isN_true] at h
  have ei := d_inf
  unfold Format.add
  rcases h with h | h
  · rw [read_nan double x d_he (by rw [rg_d]; omega)]; rfl
  · rw [read_nan double y d_he (by rw [rg_d]; omega)]; cases double.read x <;> rfl
theorem mul_nan (x y : Nat) (h : isN x = true ∨ isN y = true) : double.mul x y = none := by
  rw [isN_true, isN_true] at h
  have ei := d_inf
  unfold Format.mul
  rcases h with h | h
  · rw [read_nan double x d_he (by rw [rg_d]; omega)]; rfl
  · rw [read_nan double y d_he (by rw [rg_d]; omega)]; cases double.read x <;> rfl
theorem add_if (x y : Nat) (hx : x < 18446744073709551616) (fx : mg x = 9218868437227405312) (fy : mg y < 9218868437227405312) : double.add x y = some (infW (ng x)) := by
  have ei := d_inf
  obtain ⟨m, a, e, _⟩ := read_fin double y (by rw [rg_d]; omega)
  unfold Format.add
  rw [read_inf double x d_he (by rw [rg_d]; omega), e, sg_d x hx]
  simp only [Datum.sum, Option.map, wr_inf]
theorem add_fi (x y : Nat) (hy : y < 18446744073709551616) (fx : mg x < 9218868437227405312) (fy : mg y = 9218868437227405312) : double.add x y = some (infW (ng y)) := by
  have ei := d_inf
  obtain ⟨m, a, e, _⟩ := read_fin double x (by rw [rg_d]; omega)
  unfold Format.add
  rw [read_inf double y d_he (by rw [rg_d]; omega), e, sg_d y hy]
  simp only [Datum.sum, Option.map, wr_inf]
theorem add_ii (x y : Nat) (hx : x < 18446744073709551616) (hy : y < 18446744073709551616) (fx : mg x = 9218868437227405312) (fy : mg y = 9218868437227405312) :
    double.add x y = if ng x = ng y then some (infW (ng x)) else none := by
  have ei := d_inf
  unfold Format.add
  rw [read_inf double x d_he (by rw [rg_d]; omega), read_inf double y d_he (by rw [rg_d]; omega), sg_d x hx, sg_d y hy]
  simp only [Datum.sum]
  by_cases c : ng x = ng y
  · rw [if_pos c, if_pos c]; simp only [Option.map, wr_inf]
  · rw [if_neg c, if_neg c]; rfl
theorem fin_zero (x : Nat) (fx : mg x < 9218868437227405312) : ∃ m a, double.read x = .number (sg double x) m a ∧ (m = 0 ↔ mg x = 0) := by
  have ei := d_inf
  obtain ⟨m, a, e, v⟩ := read_fin double x (by rw [rg_d]; omega)
  refine ⟨m, _, e, ?_⟩
  rw [rg_d] at v
  have hp := pow_pos a
  constructor
  · intro h
    subst h
    rw [Nat.zero_mul] at v
    have : mag 52 (mg x) = mag 52 0 := by rw [mag_zero]; exact v.symm
    exact mag_inj.1 this
  · intro h
    have hv : m * 2 ^ a = 0 := by
      rw [v, h]; exact mag_zero _
    rcases Nat.mul_eq_zero.1 hv with h1 | h1
    · exact h1
    · omega
theorem mul_if (x y : Nat) (hx : x < 18446744073709551616) (hy : y < 18446744073709551616) (fx : mg x = 9218868437227405312) (fy : mg y < 9218868437227405312) :
    double.mul x y = if mg y = 0 then none else some (infW (ng x ^^ ng y)) := by
  have ei := d_inf
  obtain ⟨m, a, e, hz⟩ := fin_zero y fy
  unfold Format.mul
  rw [read_inf double x d_he (by rw [rg_d]; omega), e, sg_d x hx, sg_d y hy]
  simp only [Datum.product]
  by_cases c : mg y = 0
  · rw [if_pos c, if_pos (hz.2 c)]; rfl
  · rw [if_neg c, if_neg (fun h => c (hz.1 h))]; simp only [Option.map, wr_inf]
theorem mul_fi (x y : Nat) (hx : x < 18446744073709551616) (hy : y < 18446744073709551616) (fx : mg x < 9218868437227405312) (fy : mg y = 9218868437227405312) :
    double.mul x y = if mg x = 0 then none else some (infW (ng x ^^ ng y)) := by
  have ei := d_inf
  obtain ⟨m, a, e, hz⟩ := fin_zero x fx
  unfold Format.mul
  rw [read_inf double y d_he (by rw [rg_d]; omega), e, sg_d x hx, sg_d y hy]
  simp only [Datum.product]
  by_cases c : mg x = 0
  · rw [if_pos c, if_pos (hz.2 c)]; rfl
  · rw [if_neg c, if_neg (fun h => c (hz.1 h))]
    simp only [Option.map, wr_inf]
    cases ng x <;> cases ng y <;> rfl
theorem mul_ii (x y : Nat) (hx : x < 18446744073709551616) (hy : y < 18446744073709551616) (fx : mg x = 9218868437227405312) (fy : mg y = 9218868437227405312) :
    double.mul x y = some (infW (ng x ^^ ng y)) := by
  have ei := d_inf
  unfold Format.mul
  rw [read_inf double x d_he (by rw [rg_d]; omega), read_inf double y d_he (by rw [rg_d]; omega), sg_d x hx, sg_d y hy]
  simp only [Datum.product, Option.map, wr_inf]
end ops

theorem rn_ne (z z' : Bool) (v : Int) (h : v ≠ 0) : rn z v = rn z' v := by
  unfold rn; rw [if_neg h, if_neg h]
theorem canon_rn (z : Bool) (v : Int) : canonB (rn z v) = rn false v := by
  unfold canonB
  rw [isN_rn, if_neg (by decide)]
  by_cases c : v = 0
  · subst c
    have : mg (rn z 0) = 0 := by rw [rn_zero]; cases z <;> decide
    rw [if_pos this, rn_zero]; rfl
  · have hm : mg (rn z v) ≠ 0 := by
      rw [rn_mg]
      have h1 : 1 ≤ rung 52 0 v.natAbs := by
        have e1 : mag 52 1 = 1 := by decide
        exact rung_ge (by omega) (by rw [Nat.pow_zero, Nat.mul_one, e1]; omega)
      generalize rung 52 0 v.natAbs = r at *
      omega
    rw [if_neg hm]
    exact rn_ne z false v c
theorem rn_negv (v : Int) : canonB (negB (rn false v)) = rn false (-v) := by
  by_cases c : v = 0
  · subst c; rw [Int.neg_zero, rn_zero]; decide
  · have e : negB (rn false v) = rn false (-v) := by
      unfold rn negB
      rw [if_neg c, if_neg (show ¬ -v = 0 by omega), Int.natAbs_neg]
      have hl : min (rung 52 0 v.natAbs) 9218868437227405312 < 9223372036854775808 := by
        generalize rung 52 0 v.natAbs = r
        omega
      generalize min (rung 52 0 v.natAbs) 9218868437227405312 = r at *
      by_cases c2 : v < 0
      · have d2 : decide (-v < 0) = false := decide_eq_false (by omega)
        rw [decide_eq_true c2, d2]
        simp only [if_true, Bool.false_eq_true, if_false]
        rw [ng_of_ge (by omega), if_pos rfl]; omega
      · have d2 : decide (-v < 0) = true := decide_eq_true (by omega)
        rw [decide_eq_false c2, d2]
        simp only [if_true, Bool.false_eq_true, if_false]
        rw [ng_of_lt (by omega), if_neg (by decide)]; omega
    rw [e, canon_rn]

/-- the rounded sum and product, in the one form -/
def addB (a b : Nat) : Nat := match Ieee.double.add a b with | some r => canonB r | none => quiet
def mulB (a b : Nat) : Nat := match Ieee.double.mul a b with | some r => canonB r | none => quiet
theorem addB_some {a b r : Nat} (h : Ieee.double.add a b = some r) : addB a b = canonB r := by unfold addB; rw [h]
theorem addB_none {a b : Nat} (h : Ieee.double.add a b = none) : addB a b = quiet := by unfold addB; rw [h]
theorem mulB_some {a b r : Nat} (h : Ieee.double.mul a b = some r) : mulB a b = canonB r := by unfold mulB; rw [h]
theorem mulB_none {a b : Nat} (h : Ieee.double.mul a b = none) : mulB a b = quiet := by unfold mulB; rw [h]
theorem addB_fin (a b : Nat) (ha : a < 18446744073709551616) (hb : b < 18446744073709551616) (fa : mg a < 9218868437227405312) (fb : mg b < 9218868437227405312) : addB a b = rn false (sv a + sv b) := by
  rw [addB_some (add_d a b ha hb fa fb), canon_rn]
theorem quiet_mg : mg quiet = 9221120237041090561 := by decide

theorem three (x : Nat) : mg x < 9218868437227405312 ∨ mg x = 9218868437227405312 ∨ isN x = true := by
  rw [isN_true]; omega
/-- what a sum is -/
theorem add_cases (a b : Nat) (ha : a < 18446744073709551616) (hb : b < 18446744073709551616) :
    (mg a < 9218868437227405312 ∧ mg b < 9218868437227405312) ∨ Ieee.double.add a b = none ∨ ∃ s, Ieee.double.add a b = some (infW s) := by
  rcases three a with h1 | h1 | h1
  · rcases three b with h2 | h2 | h2
    · exact .inl ⟨h1, h2⟩
    · exact .inr (.inr ⟨_, add_fi a b hb h1 h2⟩)
    · exact .inr (.inl (add_nan a b (.inr h2)))
  · rcases three b with h2 | h2 | h2
    · exact .inr (.inr ⟨_, add_if a b ha h1 h2⟩)
    · rw [add_ii a b ha hb h1 h2]
      by_cases c : ng a = ng b
      · rw [if_pos c]; exact .inr (.inr ⟨_, rfl⟩)
      · rw [if_neg c]; exact .inr (.inl rfl)
    · exact .inr (.inl (add_nan a b (.inr h2)))
  · exact .inr (.inl (add_nan a b (.inl h1)))
theorem mul_cases (a b : Nat) (ha : a < 18446744073709551616) (hb : b < 18446744073709551616) :
    (mg a < 9218868437227405312 ∧ mg b < 9218868437227405312) ∨ Ieee.double.mul a b = none ∨ ∃ s, Ieee.double.mul a b = some (infW s) := by
  rcases three a with h1 | h1 | h1
  · rcases three b with h2 | h2 | h2
    · exact .inl ⟨h1, h2⟩
    · rw [mul_fi a b ha hb h1 h2]
      by_cases c : mg a = 0
      · rw [if_pos c]; exact .inr (.inl rfl)
      · rw [if_neg c]; exact .inr (.inr ⟨_, rfl⟩)
    · exact .inr (.inl (mul_nan a b (.inr h2)))
  · rcases three b with h2 | h2 | h2
    · rw [mul_if a b ha hb h1 h2]
      by_cases c : mg b = 0
      · rw [if_pos c]; exact .inr (.inl rfl)
      · rw [if_neg c]; exact .inr (.inr ⟨_, rfl⟩)
    · exact .inr (.inr ⟨_, mul_ii a b ha hb h1 h2⟩)
    · exact .inr (.inl (mul_nan a b (.inr h2)))
  · exact .inr (.inl (mul_nan a b (.inl h1)))
theorem addB_lt (a b : Nat) (ha : a < 18446744073709551616) (hb : b < 18446744073709551616) : addB a b < 18446744073709551616 := by
  rcases add_cases a b ha hb with ⟨h1, h2⟩ | h | ⟨s, h⟩
  · rw [addB_fin a b ha hb h1 h2]; exact rn_lt _ _
  · rw [addB_none h]; decide
  · rw [addB_some h, infW_canon]; exact infW_lt s

/-- what the rounding took away -/
def sumE (a b : Nat) : Nat := if mg (addB a b) < 9218868437227405312 then rn false (sv a + sv b - sv (addB a b)) else 0
theorem sumE_lt (a b : Nat) : sumE a b < 18446744073709551616 := by unfold sumE; split; exact rn_lt _ _; decide
theorem fin_of_sum (a b : Nat) (ha : a < 18446744073709551616) (hb : b < 18446744073709551616) (h : mg (addB a b) < 9218868437227405312) : mg a < 9218868437227405312 ∧ mg b < 9218868437227405312 := by
  rcases add_cases a b ha hb with h' | h' | ⟨s, h'⟩
  · exact h'
  · rw [addB_none h', quiet_mg] at h; omega
  · rw [addB_some h', infW_canon, infW_mg] at h; omega

/-- where the sum is finite -/
theorem sum_fin_facts (a b : Nat) (ha : a < 18446744073709551616) (hb : b < 18446744073709551616) (h : mg (addB a b) < 9218868437227405312) :
    sv (addB a b) = rd (sv a + sv b) ∧ isD (sv a + sv b - rd (sv a + sv b)) ∧ (sv a + sv b - rd (sv a + sv b)).natAbs ≤ (sv b).natAbs ∧ (sv a + sv b - rd (sv a + sv b)).natAbs ≤ (sv a).natAbs := by
  obtain ⟨fa, fb⟩ := fin_of_sum a b ha hb h
  rw [addB_fin a b ha hb fa fb] at h ⊢
  have e := rn_fin' false _ h
  obtain ⟨r, hr⟩ := sum_error a b false h
  have n1 := rn_nearest false _ h a
  have n2 := rn_nearest false _ h b
  rw [e] at hr n1 n2
  rw [e]
  exact ⟨rfl, ⟨r, hr⟩, by omega, by omega⟩
theorem sumE_sv (a b : Nat) (ha : a < 18446744073709551616) (hb : b < 18446744073709551616) (h : mg (addB a b) < 9218868437227405312) :
    mg (sumE a b) < 9218868437227405312 ∧ sv (sumE a b) = sv a + sv b - sv (addB a b) := by
  obtain ⟨_, fb⟩ := fin_of_sum a b ha hb h
  obtain ⟨e, d, n, _⟩ := sum_fin_facts a b ha hb h
  have := sv_top b fb
  unfold sumE
  rw [if_pos h, e]
  exact rn_exact false _ d (by omega)

/-- the way of Sum: from the greater one -/
theorem sum_way (a b : Nat) (ha : a < 18446744073709551616) (hb : b < 18446744073709551616) (h : mg (addB a b) < 9218868437227405312) (hab : mg b ≤ mg a) (s : Nat) (hs : Ieee.double.add a b = some s) :
    ∃ t e, Ieee.double.sub s a = some t ∧ Ieee.double.sub b t = some e ∧ t < 18446744073709551616 ∧ e < 18446744073709551616 ∧ canonB e = sumE a b := by
  obtain ⟨fa, fb⟩ := fin_of_sum a b ha hb h
  obtain ⟨e, d, n, _⟩ := sum_fin_facts a b ha hb h
  have hE : sumE a b = rn false (sv a + sv b - rd (sv a + sv b)) := by unfold sumE; rw [if_pos h, e]
  rw [add_d a b ha hb fa fb] at hs
  obtain rfl := Option.some.inj hs
  have tA := sv_top a fa
  have tB := sv_top b fb
  have hfin : mg (rn (ng a && ng b) (sv a + sv b)) < 9218868437227405312 := by
    rw [addB_fin a b ha hb fa fb] at h
    rw [rn_mg] at h ⊢; exact h
  have eS := rn_fin' (ng a && ng b) (sv a + sv b) hfin
  have hd := fast2 a b hab
  have tS := sv_top _ hfin
  have hbig : (rd (sv a + sv b) - sv a).natAbs < top := by
    rw [eS] at tS
    have hle : (sv b).natAbs ≤ (sv a).natAbs := by rw [sv_abs, sv_abs]; exact mv_le.2 hab
    have p1 := @rd_nonneg (sv a + sv b)
    have p2 := @rd_nonpos (sv a + sv b)
    generalize rd (sv a + sv b) = S at *
    omega
  have f1 := fun z => rn_exact z _ hd hbig
  have s1 := sub_d _ a (rn_lt (ng a && ng b) (sv a + sv b)) ha hfin fa
  rw [eS] at s1
  obtain ⟨z, hz⟩ : ∃ z, (ng (rn (ng a && ng b) (sv a + sv b)) && !ng a) = z := ⟨_, rfl⟩
  rw [hz] at s1
  have s2 := sub_d b _ hb (rn_lt z (rd (sv a + sv b) - sv a)) fb (f1 z).1
  rw [(f1 z).2] at s2
  refine ⟨_, _, s1, s2, rn_lt _ _, rn_lt _ _, ?_⟩
  rw [canon_rn, hE]
  have : sv b - (rd (sv a + sv b) - sv a) = sv a + sv b - rd (sv a + sv b) := by omega
  rw [this]
end Go.Proofs.Ytgbaaafikphafaa
