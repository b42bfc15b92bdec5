/-
  Some of the texts of this proof, one behind the other.
-/
import Derived.WalkKit
import Derived.Below
import Derived.Deep.Draws
import Derived.Deep.RegionHeld3
import Derived.Test.YtebnjbljabjgaaaDoorRows
import Derived.Test.YtebnjbljabjgaaaDoorG00
namespace Go.Proofs.YtebnjbljabjgaaaDoor
open Tf

def infW (s : Bool) : Nat := if s then 18442240474082181120 else 9218868437227405312
theorem infW_lt (s : Bool) : infW s < 18446744073709551616 := by cases s <;> decide
theorem infW_mg (s : Bool) : mg (infW s) = 9218868437227405312 := by cases s <;> decide
theorem infW_canon (s : Bool) : canonB (infW s) = infW s := by cases s <;> decide
section ops
open Ieee
theorem wr_inf (s : Bool) : double.write (.infinity s) = infW s := by cases s <;> decide
theorem add_nan (x y : Nat) (h : isN x = true ∨ isN y = true) : double.add x y = none := by
  rw [isN_true, isN_true] at h
  have ei := d_inf
  unfold Format.add
  rcases h with h | h
  · rw [read_nan double x d_he (by rw [rg_d]; omega)]; rfl
  · rw [read_nan double y d_he (by rw [rg_d]; omega)]; cases double.read x <;> rfl
theorem mul_nan (x y : Nat) (h : isN x = true ∨ isN y = true) : double.mul x y = none := by
  rw [isN_true, isN_true] at h
  have ei := d_inf
  unfold Format.mul
  rcases h with h | h
  · rw [read_nan double x d_he (by rw [rg_d]; omega)]; rfl
  · rw [read_nan double y d_he (by rw [rg_d]; omega)]; cases double.read x <;> rfl
theorem add_if (x y : Nat) (hx : x < 18446744073709551616) (fx : mg x = 9218868437227405312) (fy : mg y < 9218868437227405312) : double.add x y = some (infW (ng x)) := by
  have ei := d_inf
  obtain ⟨m, a, e, _⟩ := read_fin double y (by rw [rg_d]; omega)
  unfold Format.add
  rw [read_inf double x d_he (by rw [rg_d]; omega), e, sg_d x hx]
  simp only [Datum.sum, Option.map, wr_inf]
theorem add_fi (x y : Nat) (hy : y < 18446744073709551616) (fx : mg x < 9218868437227405312) (fy : mg y = 9218868437227405312) : double.add x y = some (infW (ng y)) := by
  have ei := d_inf
  obtain ⟨m, a, e, _⟩ := read_fin double x (by rw [rg_d]; omega)
  unfold Format.add
  rw [read_inf double y d_he (by rw [rg_d]; omega), e, sg_d y hy]
  simp only [Datum.sum, Option.map, wr_inf]
theorem add_ii (x y : Nat) (hx : x < 18446744073709551616) (hy : y < 18446744073709551616) (fx : mg x = 9218868437227405312) (fy : mg y = 9218868437227405312) :
    double.add x y = if ng x = ng y then some (infW (ng x)) else none := by
  have ei := d_inf
  unfold Format.add
  rw [read_inf double x d_he (by rw [rg_d]; omega), read_inf double y d_he (by rw [rg_d]; omega), sg_d x hx, sg_d y hy]
  simp only [Datum.sum]
  by_cases c : ng x = ng y
  · rw [if_pos c, if_pos c]; simp only [Option.map, wr_inf]
  · rw [if_neg c, if_neg c]; rfl
theorem fin_zero (x : Nat) (fx : mg x < 9218868437227405312) : ∃ m a, double.read x = .number (sg double x) m a ∧ (m = 0 ↔ mg x = 0) := by
  have ei := d_inf
  obtain ⟨m, a, e, v⟩ := read_fin double x (by rw [rg_d]; omega)
  refine ⟨m, _, e, ?_⟩
  rw [rg_d] at v
  have hp := pow_pos a
  constructor
  · intro h
    subst h
    rw [Nat.zero_mul] at v
    have : mag 52 (mg x) = mag 52 0 := by rw [mag_zero]; exact v.symm
    exact mag_inj.1 this
  · intro h
    have hv : m * 2 ^ a = 0 := by
      rw [v, h]; exact mag_zero _
    rcases Nat.mul_eq_zero.1 hv with h1 | h1
    · exact h1
    · omega
theorem mul_if (x y : Nat) (hx : x < 18446744073709551616) (hy : y < 18446744073709551616) (fx : mg x = 9218868437227405312) (fy : mg y < 9218868437227405312) :
    double.mul x y = if mg y = 0 then none else some (infW (ng x ^^ ng y)) := by
  have ei := d_inf
  obtain ⟨m, a, e, hz⟩ := fin_zero y fy
  unfold Format.mul
  rw [read_inf double x d_he (by rw [rg_d]; omega), e, sg_d x hx, sg_d y hy]
  simp only [Datum.product]
  by_cases c : mg y = 0
  · rw [if_pos c, if_pos (hz.2 c)]; rfl
  · rw [if_neg c, if_neg (fun h => c (hz.1 h))]; simp only [Option.map, wr_inf]
theorem mul_fi (x y : Nat) (hx : x < 18446744073709551616) (hy : y < 18446744073709551616) (fx : mg x < 9218868437227405312) (fy : mg y = 9218868437227405312) :
    double.mul x y = if mg x = 0 then none else some (infW (ng x ^^ ng y)) := by
  have ei := d_inf
  obtain ⟨m, a, e, hz⟩ := fin_zero x fx
  unfold Format.mul
  rw [read_inf double y d_he (by rw [rg_d]; omega), e, sg_d x hx, sg_d y hy]
  simp only [Datum.product]
  by_cases c : mg x = 0
  · rw [if_pos c, if_pos (hz.2 c)]; rfl
  · rw [if_neg c, if_neg (fun h => c (hz.1 h))]
    simp only [Option.map, wr_inf]
    cases ng x <;> cases ng y <;> rfl
theorem mul_ii (x y : Nat) (hx : x < 18446744073709551616) (hy : y < 18446744073709551616) (fx : mg x = 9218868437227405312) (fy : mg y = 9218868437227405312) :
    double.mul x y = some (infW (ng x ^^ ng y)) := by
  have ei := d_inf
  unfold Format.mul
  rw [read_inf double x d_he (by rw [rg_d]; omega), read_inf double y d_he (by rw [rg_d]; omega), sg_d x hx, sg_d y hy]
  simp only [Datum.product, Option.map, wr_inf]
end ops

theorem rn_ne (z z' : Bool) (v : Int) (h : v ≠ 0) : rn z v = rn z' v := by
  unfold rn; rw [if_neg h, if_neg h]
theorem canon_rn (z : Bool) (v : Int) : canonB (rn z v) = rn false v := by
  unfold canonB
  rw [isN_rn, if_neg (by decide)]
  by_cases c : v = 0
  · subst c
    have : mg (rn z 0) = 0 := by rw [rn_zero]; cases z <;> decide
    rw [if_pos this, rn_zero]; rfl
  · have hm : mg (rn z v) ≠ 0 := by
      rw [rn_mg]
      have h1 : 1 ≤ rung 52 0 v.natAbs := by
        have e1 : mag 52 1 = 1 := by decide
        exact rung_ge (by omega) (by rw [Nat.pow_zero, Nat.mul_one, e1]; omega)
      generalize rung 52 0 v.natAbs = r at *
      omega
    rw [if_neg hm]
    exact rn_ne z false v c
theorem rn_negv (v : Int) : canonB (negB (rn false v)) = rn false (-v) := by
  by_cases c : v = 0
  · subst c; rw [Int.neg_zero, rn_zero]; decide
  · have e : negB (rn false v) = rn false (-v) := by
      unfold rn negB
      rw [if_neg c, if_neg (show ¬ -v = 0 by omega), Int.natAbs_neg]
      have hl : min (rung 52 0 v.natAbs) 9218868437227405312 < 9223372036854775808 := by
        generalize rung 52 0 v.natAbs = r
        omega
      generalize min (rung 52 0 v.natAbs) 9218868437227405312 = r at *
      by_cases c2 : v < 0
      · have d2 : decide (-v < 0) = false := decide_eq_false (by omega)
        rw [decide_eq_true c2, d2]
        simp only [if_true, Bool.false_eq_true, if_false]
        rw [ng_of_ge (by omega), if_pos rfl]; omega
      · have d2 : decide (-v < 0) = true := decide_eq_true (by omega)
        rw [decide_eq_false c2, d2]
        simp only [if_true, Bool.false_eq_true, if_false]
        rw [ng_of_lt (by omega), if_neg (by decide)]; omega
    rw [e, canon_rn]

/-- the rounded sum and product, in the one form -/
def addB (a b : Nat) : Nat := match Ieee.double.add a b with | some r => canonB r | none => quiet
theorem addB_some {a b r : Nat} (h : Ieee.double.add a b = some r) : addB a b = canonB r := by unfold addB; rw [h]
theorem addB_none {a b : Nat} (h : Ieee.double.add a b = none) : addB a b = quiet := by unfold addB; rw [h]
theorem addB_fin (a b : Nat) (ha : a < 18446744073709551616) (hb : b < 18446744073709551616) (fa : mg a < 9218868437227405312) (fb : mg b < 9218868437227405312) : addB a b = rn false (sv a + sv b) := by
  rw [addB_some (add_d a b ha hb fa fb), canon_rn]
theorem three (x : Nat) : mg x < 9218868437227405312 ∨ mg x = 9218868437227405312 ∨ isN x = true := by
  rw [isN_true]; omega
/-- what a sum is -/
theorem add_cases (a b : Nat) (ha : a < 18446744073709551616) (hb : b < 18446744073709551616) :
    (mg a < 9218868437227405312 ∧ mg b < 9218868437227405312) ∨ Ieee.double.add a b = none ∨ ∃ s, Ieee.double.add a b = some (infW s) := by
  rcases three a with h1 | h1 | h1
  · rcases three b with h2 | h2 | h2
    · exact .inl ⟨h1, h2⟩
    · exact .inr (.inr ⟨_, add_fi a b hb h1 h2⟩)
    · exact .inr (.inl (add_nan a b (.inr h2)))
  · rcases three b with h2 | h2 | h2
    · exact .inr (.inr ⟨_, add_if a b ha h1 h2⟩)
    · rw [add_ii a b ha hb h1 h2]
      by_cases c : ng a = ng b
      · rw [if_pos c]; exact .inr (.inr ⟨_, rfl⟩)
      · rw [if_neg c]; exact .inr (.inl rfl)
    · exact .inr (.inl (add_nan a b (.inr h2)))
  · exact .inr (.inl (add_nan a b (.inl h1)))
theorem mul_cases (a b : Nat) (ha : a < 18446744073709551616) (hb : b < 18446744073709551616) :
    (mg a < 9218868437227405312 ∧ mg b < 9218868437227405312) ∨ Ieee.double.mul a b = none ∨ ∃ s, Ieee.double.mul a b = some (infW s) := by
  rcases three a with h1 | h1 | h1
  · rcases three b with h2 | h2 | h2
    · exact .inl ⟨h1, h2⟩
    · rw [mul_fi a b ha hb h1 h2]
      by_cases c : mg a = 0
      · rw [if_pos c]; exact .inr (.inl rfl)
      · rw [if_neg c]; exact .inr (.inr ⟨_, rfl⟩)
    · exact .inr (.inl (mul_nan a b (.inr h2)))
  · rcases three b with h2 | h2 | h2
    · rw [mul_if a b ha hb h1 h2]
      by_cases c : mg b = 0
      · rw [if_pos c]; exact .inr (.inl rfl)
      · rw [if_neg c]; exact .inr (.inr ⟨_, rfl⟩)
    · exact .inr (.inr ⟨_, mul_ii a b ha hb h1 h2⟩)
    · exact .inr (.inl (mul_nan a b (.inr h2)))
  · exact .inr (.inl (mul_nan a b (.inl h1)))
theorem addB_lt (a b : Nat) (ha : a < 18446744073709551616) (hb : b < 18446744073709551616) : addB a b < 18446744073709551616 := by
  rcases add_cases a b ha hb with ⟨h1, h2⟩ | h | ⟨s, h⟩
  · rw [addB_fin a b ha hb h1 h2]; exact rn_lt _ _
  · rw [addB_none h]; decide
  · rw [addB_some h, infW_canon]; exact infW_lt s

end Go.Proofs.YtebnjbljabjgaaaDoor

namespace Go.Proofs.YtebnjbljabjgaaaDoor
open Tf

/-- a NaN as the one -/
def qB (x : Nat) : Nat := if isN x = true then quiet else x
/-- one addition, a NaN as the one -/
def plB (a b : Nat) : Nat := match Ieee.double.add a b with | some r => r | none => quiet
theorem plB_some {a b r : Nat} (h : Ieee.double.add a b = some r) : plB a b = r := by unfold plB; rw [h]
theorem plB_none {a b : Nat} (h : Ieee.double.add a b = none) : plB a b = quiet := by unfold plB; rw [h]
theorem quiet_N : isN quiet = true := by decide
theorem qB_of {x : Nat} (h : isN x = false) : qB x = x := by unfold qB; rw [h]; rfl
theorem qB_N {x : Nat} (h : isN x = true) : qB x = quiet := by unfold qB; rw [h]; rfl
theorem qB_lt {x : Nat} (h : x < 18446744073709551616) : qB x < 18446744073709551616 := by
  unfold qB; split
  · exact quiet_lt
  · exact h
theorem qB_isN (x : Nat) : isN (qB x) = isN x := by
  cases h : isN x
  · rw [qB_of h, h]
  · rw [qB_N h, quiet_N]
theorem qB_qB (x : Nat) : qB (qB x) = qB x := by
  cases h : isN x
  · rw [qB_of h, qB_of h]
  · rw [qB_N h]; decide
theorem add_facts {a b r : Nat} (ha : a < 18446744073709551616) (hb : b < 18446744073709551616) (h : Ieee.double.add a b = some r) : r < 18446744073709551616 ∧ isN r = false := by
  rcases add_cases a b ha hb with ⟨h1, h2⟩ | h' | ⟨s, h'⟩
  · rw [add_d a b ha hb h1 h2] at h; obtain rfl := Option.some.inj h; exact ⟨rn_lt _ _, isN_rn _ _⟩
  · rw [h'] at h; cases h
  · rw [h'] at h; obtain rfl := Option.some.inj h; exact ⟨infW_lt s, by cases s <;> decide⟩
theorem add_ql (a b : Nat) : Ieee.double.add (qB a) b = Ieee.double.add a b := by
  cases h : isN a
  · rw [qB_of h]
  · rw [qB_N h, add_nan a b (.inl h), add_nan quiet b (.inl quiet_N)]
theorem add_qr (a b : Nat) : Ieee.double.add a (qB b) = Ieee.double.add a b := by
  cases h : isN b
  · rw [qB_of h]
  · rw [qB_N h, add_nan a b (.inr h), add_nan a quiet (.inr quiet_N)]
theorem plB_ql (a b : Nat) : plB (qB a) b = plB a b := by unfold plB; rw [add_ql]
theorem plB_qr (a b : Nat) : plB a (qB b) = plB a b := by unfold plB; rw [add_qr]
/-- a value that stands for a number, whichever NaN it is -/
def IsQ (s q : Nat) : Prop := s < 18446744073709551616 ∧ qB s = q
theorem IsQ.self {x : Nat} (h : x < 18446744073709551616) : IsQ x (qB x) := ⟨h, rfl⟩
theorem IsQ.lt {s q : Nat} (h : IsQ s q) : q < 18446744073709551616 := by rw [← h.2]; exact qB_lt h.1
theorem IsQ.add {s q x y r : Nat} (h : IsQ s q) (k : IsQ x y) (e : Ieee.double.add s x = some r) : IsQ r (plB q y) := by
  refine ⟨(add_facts h.1 k.1 e).1, ?_⟩
  rw [← h.2, ← k.2, plB_ql, plB_qr, plB_some e, qB_of (add_facts h.1 k.1 e).2]
theorem IsQ.nan {s q x y n : Nat} (h : IsQ s q) (k : IsQ x y) (e : Ieee.double.add s x = none) (n1 : n < 18446744073709551616) (n2 : isN n = true) : IsQ n (plB q y) := by
  refine ⟨n1, ?_⟩
  rw [← h.2, ← k.2, plB_ql, plB_qr, plB_none e, qB_N n2]

/-- from the left: the first k + 1 -/
def lfF (xs : Nat → Nat) : Nat → Nat
  | 0 => qB (xs 0)
  | k + 1 => plB (lfF xs k) (xs (k + 1))
def leftB (xs : Nat → Nat) (n : Nat) : Nat := if n = 0 then 0 else lfF xs (n - 1)
/-- three, the least magnitudes first -/
def key (x : Nat) : Nat := 2 * mg x + (if ng x then 0 else 1)
theorem key_inj {a b : Nat} (ha : a < 18446744073709551616) (hb : b < 18446744073709551616) (h : key a = key b) : a = b := by
  have h1 := word_eq a ha
  have h2 := word_eq b hb
  unfold key at h
  revert h1 h2 h
  cases ng a <;> cases ng b <;> simp <;> omega
def loB (a b : Nat) : Nat := if key b < key a then b else a
def hiB (a b : Nat) : Nat := if key b < key a then a else b
def thB (a b c : Nat) : Nat := plB (plB (loB (loB a b) (loB (hiB a b) c)) (hiB (loB a b) (loB (hiB a b) c))) (hiB (hiB a b) c)
theorem thB_12 {a b c : Nat} (ha : a < 18446744073709551616) (hb : b < 18446744073709551616) : thB a b c = thB b a c := by
  have e : loB a b = loB b a ∧ hiB a b = hiB b a := by
    unfold loB hiB
    by_cases h1 : key b < key a
    · rw [if_pos h1, if_neg (by omega), if_pos h1, if_neg (by omega)]; exact ⟨rfl, rfl⟩
    · by_cases h2 : key a < key b
      · rw [if_neg h1, if_pos h2, if_neg h1, if_pos h2]; exact ⟨rfl, rfl⟩
      · have : a = b := key_inj ha hb (by omega)
        subst this; exact ⟨rfl, rfl⟩
  unfold thB; rw [e.1, e.2]
end Go.Proofs.YtebnjbljabjgaaaDoor

namespace Go.Proofs.YtebnjbljabjgaaaDoor
open Tf Ieee

theorem tri {a b : Nat} (ha : a < 18446744073709551616) (hb : b < 18446744073709551616) : (key a < key b ∧ ¬ key b < key a) ∨ a = b ∨ (key b < key a ∧ ¬ key a < key b) := by
  rcases Nat.lt_trichotomy (key a) (key b) with h | h | h
  · exact .inl ⟨h, by omega⟩
  · exact .inr (.inl (key_inj ha hb h))
  · exact .inr (.inr ⟨h, by omega⟩)
theorem thB_23 {a b c : Nat} (ha : a < 18446744073709551616) (hb : b < 18446744073709551616) (hc : c < 18446744073709551616) : thB a b c = thB a c b := by
  rcases tri ha hb with ⟨h1, h1'⟩ | h1 | ⟨h1, h1'⟩ <;> rcases tri ha hc with ⟨h2, h2'⟩ | h2 | ⟨h2, h2'⟩ <;> rcases tri hb hc with ⟨h3, h3'⟩ | h3 | ⟨h3, h3'⟩
  all_goals first
    | (exfalso; omega)
    | (clear ha hb hc; simp [thB, loB, hiB, *]; done)
    | (clear ha hb hc; subst_vars; first | rfl | (simp [thB, loB, hiB, *]; done))
/-- the three in order -/
theorem th_perm (a b c : Nat) : ∃ u v z, thB a b c = plB (plB u v) z ∧ ((u = a ∧ v = b ∧ z = c) ∨ (u = a ∧ v = c ∧ z = b) ∨ (u = b ∧ v = a ∧ z = c) ∨ (u = b ∧ v = c ∧ z = a) ∨ (u = c ∧ v = a ∧ z = b) ∨ (u = c ∧ v = b ∧ z = a)) := by
  unfold thB
  by_cases k1 : key b < key a
  · have lk1 : loB a b = b := by unfold loB; rw [if_pos k1]
    have gk1 : hiB a b = a := by unfold hiB; rw [if_pos k1]
    rw [lk1, gk1]
    by_cases k2 : key c < key a
    · have lk2 : loB a c = c := by unfold loB; rw [if_pos k2]
      have gk2 : hiB a c = a := by unfold hiB; rw [if_pos k2]
      rw [lk2, gk2]
      by_cases k3 : key c < key b
      · have lk3 : loB b c = c := by unfold loB; rw [if_pos k3]
        have gk3 : hiB b c = b := by unfold hiB; rw [if_pos k3]
        rw [lk3, gk3]
        exact ⟨_, _, _, rfl, by simp⟩
      · have lk3 : loB b c = b := by unfold loB; rw [if_neg k3]
        have gk3 : hiB b c = c := by unfold hiB; rw [if_neg k3]
        rw [lk3, gk3]
        exact ⟨_, _, _, rfl, by simp⟩
    · have lk2 : loB a c = a := by unfold loB; rw [if_neg k2]
      have gk2 : hiB a c = c := by unfold hiB; rw [if_neg k2]
      rw [lk2, gk2]
      by_cases k3 : key a < key b
      · have lk3 : loB b a = a := by unfold loB; rw [if_pos k3]
        have gk3 : hiB b a = b := by unfold hiB; rw [if_pos k3]
        rw [lk3, gk3]
        exact ⟨_, _, _, rfl, by simp⟩
      · have lk3 : loB b a = b := by unfold loB; rw [if_neg k3]
        have gk3 : hiB b a = a := by unfold hiB; rw [if_neg k3]
        rw [lk3, gk3]
        exact ⟨_, _, _, rfl, by simp⟩
  · have lk1 : loB a b = a := by unfold loB; rw [if_neg k1]
    have gk1 : hiB a b = b := by unfold hiB; rw [if_neg k1]
    rw [lk1, gk1]
    by_cases k2 : key c < key b
    · have lk2 : loB b c = c := by unfold loB; rw [if_pos k2]
      have gk2 : hiB b c = b := by unfold hiB; rw [if_pos k2]
      rw [lk2, gk2]
      by_cases k3 : key c < key a
      · have lk3 : loB a c = c := by unfold loB; rw [if_pos k3]
        have gk3 : hiB a c = a := by unfold hiB; rw [if_pos k3]
        rw [lk3, gk3]
        exact ⟨_, _, _, rfl, by simp⟩
      · have lk3 : loB a c = a := by unfold loB; rw [if_neg k3]
        have gk3 : hiB a c = c := by unfold hiB; rw [if_neg k3]
        rw [lk3, gk3]
        exact ⟨_, _, _, rfl, by simp⟩
    · have lk2 : loB b c = b := by unfold loB; rw [if_neg k2]
      have gk2 : hiB b c = c := by unfold hiB; rw [if_neg k2]
      rw [lk2, gk2]
      by_cases k3 : key b < key a
      · have lk3 : loB a b = b := by unfold loB; rw [if_pos k3]
        have gk3 : hiB a b = a := by unfold hiB; rw [if_pos k3]
        rw [lk3, gk3]
        exact ⟨_, _, _, rfl, by simp⟩
      · have lk3 : loB a b = a := by unfold loB; rw [if_neg k3]
        have gk3 : hiB a b = b := by unfold hiB; rw [if_neg k3]
        rw [lk3, gk3]
        exact ⟨_, _, _, rfl, by simp⟩
theorem negB_lt' {x : Nat} (hx : x < 18446744073709551616) : negB x < 18446744073709551616 := by
  unfold negB
  cases h : ng x
  · have := lt_of_ng h; simp; omega
  · simp; omega
theorem negB_mg {x : Nat} (hx : x < 18446744073709551616) : mg (negB x) = mg x := by
  unfold negB
  cases h : ng x
  · have := lt_of_ng h; simp [mg]
  · have := ge_of_ng h; simp [mg]; omega
theorem negB_ng {x : Nat} (hx : x < 18446744073709551616) : ng (negB x) = !ng x := by
  unfold negB
  cases h : ng x
  · simp [ng]
  · have := ge_of_ng h; simp [ng]; omega
theorem negB_negB' {x : Nat} (hx : x < 18446744073709551616) : negB (negB x) = x := by
  have h := negB_ng hx
  unfold negB at *
  cases k : ng x
  · rw [k] at h; simp only [Bool.false_eq_true, if_false] at h ⊢; rw [h]; simp
  · have := ge_of_ng k
    rw [k] at h; simp only [if_true] at h ⊢; rw [h]; simp; omega
theorem negB_sv {x : Nat} (hx : x < 18446744073709551616) : sv (negB x) = -sv x := by
  unfold sv
  rw [negB_ng hx, negB_mg hx]
  cases ng x <;> simp
theorem negB_isN {x : Nat} (hx : x < 18446744073709551616) : isN (negB x) = isN x := by unfold isN; rw [negB_mg hx]
theorem read_neg (x : Nat) (hx : x < 18446744073709551616) : double.read (negB x) = (double.read x).opposite := by
  have h1 : negB x % 9223372036854775808 = x % 9223372036854775808 := negB_mg hx
  have h2 : (negB x / 9223372036854775808 % 2 == 1) = !(x / 9223372036854775808 % 2 == 1) := by
    unfold negB
    cases k : ng x
    · have := lt_of_ng k
      rw [show x / 9223372036854775808 = 0 by omega]
      simp only [Bool.false_eq_true, if_false]
      rw [show (x + 9223372036854775808) / 9223372036854775808 = 1 by omega]
      rfl
    · have := ge_of_ng k
      rw [show x / 9223372036854775808 = 1 by omega]
      simp only [if_true]
      rw [show (x - 9223372036854775808) / 9223372036854775808 = 0 by omega]
      rfl
  unfold Format.read
  simp only [d_sw]
  rw [h1, h2]
  generalize x % 9223372036854775808 = r
  generalize (x / 9223372036854775808 % 2 == 1) = s
  by_cases a : r < double.binade
  · rw [if_pos a, if_pos a]; rfl
  · rw [if_neg a, if_neg a]
    by_cases b : r < double.infRung
    · rw [if_pos b, if_pos b]; rfl
    · rw [if_neg b, if_neg b]
      by_cases c : r = double.infRung
      · rw [if_pos c, if_pos c]; rfl
      · rw [if_neg c, if_neg c]; rfl
theorem sub_add (a b : Nat) (hb : b < 18446744073709551616) : double.sub a b = double.add a (negB b) := by
  unfold Format.sub Format.add; rw [read_neg b hb]
theorem mul_negneg (a b : Nat) (ha : a < 18446744073709551616) (hb : b < 18446744073709551616) : double.mul (negB a) (negB b) = double.mul a b := by
  unfold Format.mul
  rw [read_neg a ha, read_neg b hb]
  cases double.read a <;> cases double.read b <;> simp [Datum.opposite, Datum.product]
theorem mul_comm (a b : Nat) : double.mul a b = double.mul b a := by
  unfold Format.mul
  cases double.read a <;> cases double.read b <;> simp [Datum.product, Bool.xor_comm, Nat.mul_comm, Int.add_comm]
theorem addB_comm (a b : Nat) (ha : a < 18446744073709551616) (hb : b < 18446744073709551616) : addB a b = addB b a := by
  rcases three a with h1 | h1 | h1
  · rcases three b with h2 | h2 | h2
    · rw [addB_fin a b ha hb h1 h2, addB_fin b a hb ha h2 h1, Int.add_comm]
    · rw [addB_some (add_fi a b hb h1 h2), addB_some (add_if b a hb h2 h1)]
    · rw [addB_none (add_nan a b (.inr h2)), addB_none (add_nan b a (.inl h2))]
  · rcases three b with h2 | h2 | h2
    · rw [addB_some (add_if a b ha h1 h2), addB_some (add_fi b a ha h2 h1)]
    · have e1 := add_ii a b ha hb h1 h2
      have e2 := add_ii b a hb ha h2 h1
      by_cases c : ng a = ng b
      · rw [if_pos c] at e1
        rw [if_pos c.symm] at e2
        rw [addB_some e1, addB_some e2, c]
      · rw [if_neg c] at e1
        rw [if_neg (fun h => c h.symm)] at e2
        rw [addB_none e1, addB_none e2]
    · rw [addB_none (add_nan a b (.inr h2)), addB_none (add_nan b a (.inl h2))]
  · rw [addB_none (add_nan a b (.inl h1)), addB_none (add_nan b a (.inr h1))]
theorem canon_neg_quiet : canonB (negB quiet) = quiet := by decide
theorem canon_neg_inf (s : Bool) : canonB (negB (canonB (infW s))) = canonB (infW (!s)) := by cases s <;> decide
/-- opposites add up to the opposite -/
theorem addB_neg (a b : Nat) (ha : a < 18446744073709551616) (hb : b < 18446744073709551616) : addB (negB a) (negB b) = canonB (negB (addB a b)) := by
  have na := negB_lt' ha
  have nb := negB_lt' hb
  have ma := negB_mg ha
  have mb := negB_mg hb
  rcases three a with h1 | h1 | h1
  · rcases three b with h2 | h2 | h2
    · rw [addB_fin a b ha hb h1 h2, addB_fin _ _ na nb (by rw [ma]; exact h1) (by rw [mb]; exact h2), negB_sv ha, negB_sv hb, rn_negv, Int.neg_add]
    · rw [addB_some (add_fi a b hb h1 h2), addB_some (add_fi _ _ nb (by rw [ma]; exact h1) (by rw [mb]; exact h2)), negB_ng hb, canon_neg_inf]
    · rw [addB_none (add_nan a b (.inr h2)), addB_none (add_nan _ _ (.inr (by rw [negB_isN hb]; exact h2))), canon_neg_quiet]
  · rcases three b with h2 | h2 | h2
    · rw [addB_some (add_if a b ha h1 h2), addB_some (add_if _ _ na (by rw [ma]; exact h1) (by rw [mb]; exact h2)), negB_ng ha, canon_neg_inf]
    · have e1 := add_ii a b ha hb h1 h2
      have e2 := add_ii _ _ na nb (by rw [ma]; exact h1) (by rw [mb]; exact h2)
      rw [negB_ng ha, negB_ng hb] at e2
      by_cases c : ng a = ng b
      · rw [if_pos c] at e1
        rw [if_pos (by rw [c])] at e2
        rw [addB_some e1, addB_some e2, canon_neg_inf]
      · rw [if_neg c] at e1
        rw [if_neg (by simpa using c)] at e2
        rw [addB_none e1, addB_none e2, canon_neg_quiet]
    · rw [addB_none (add_nan a b (.inr h2)), addB_none (add_nan _ _ (.inr (by rw [negB_isN hb]; exact h2))), canon_neg_quiet]
  · rw [addB_none (add_nan a b (.inl h1)), addB_none (add_nan _ _ (.inl (by rw [negB_isN ha]; exact h1))), canon_neg_quiet]

/-- a difference, in the one form -/
def sbB (a b : Nat) : Nat := addB a (negB b)
theorem sbB_lt {a b : Nat} (ha : a < 18446744073709551616) (hb : b < 18446744073709551616) : sbB a b < 18446744073709551616 := addB_lt a _ ha (negB_lt' hb)
theorem sbB_anti {a b : Nat} (ha : a < 18446744073709551616) (hb : b < 18446744073709551616) : sbB b a = canonB (negB (sbB a b)) := by
  unfold sbB
  rw [← addB_neg a _ ha (negB_lt' hb), negB_negB' hb, addB_comm _ _ hb (negB_lt' ha)]
theorem sbB_negneg {a b : Nat} (ha : a < 18446744073709551616) (hb : b < 18446744073709551616) : sbB (negB a) (negB b) = canonB (negB (sbB a b)) := by
  unfold sbB
  exact addB_neg a _ ha (negB_lt' hb)
/-- one product, a NaN as the one -/
def mlB (a b : Nat) : Nat := match Ieee.double.mul a b with | some r => r | none => quiet
theorem mlB_some {a b r : Nat} (h : Ieee.double.mul a b = some r) : mlB a b = r := by unfold mlB; rw [h]
theorem mlB_none {a b : Nat} (h : Ieee.double.mul a b = none) : mlB a b = quiet := by unfold mlB; rw [h]
theorem mul_fact {a b r : Nat} (h : Ieee.double.mul a b = some r) (ha : a < 18446744073709551616) (hb : b < 18446744073709551616) : r < 18446744073709551616 ∧ isN r = false := by
  rcases mul_cases a b ha hb with ⟨h1, h2⟩ | h' | ⟨s, h'⟩
  · have e := mul_d a b ha hb h1 h2
    rw [h] at e
    injection e with e
    generalize rung 52 1074 (mv (mg a) * mv (mg b)) = q at e
    have hm : min q 9218868437227405312 ≤ 9218868437227405312 := Nat.min_le_right _ _
    generalize min q 9218868437227405312 = z at e hm
    rw [isN_false]
    subst e
    cases (ng a ^^ ng b)
    · simp only [Bool.false_eq_true, if_false]; exact ⟨by omega, by unfold mg; omega⟩
    · simp only [if_true]; exact ⟨by omega, by unfold mg; omega⟩
  · rw [h] at h'; cases h'
  · rw [h] at h'
    injection h' with h'
    subst h'
    exact ⟨infW_lt s, by rw [isN_false, infW_mg]; omega⟩
theorem mlB_lt {a b : Nat} (ha : a < 18446744073709551616) (hb : b < 18446744073709551616) : mlB a b < 18446744073709551616 := by
  cases h : Ieee.double.mul a b with
  | none => rw [mlB_none h]; decide
  | some r => rw [mlB_some h]; exact (mul_fact h ha hb).1
theorem mlB_comm (a b : Nat) : mlB a b = mlB b a := by unfold mlB; rw [mul_comm]
def sqB (x : Nat) : Nat := mlB x x
theorem sqB_lt {x : Nat} (hx : x < 18446744073709551616) : sqB x < 18446744073709551616 := mlB_lt hx hx
theorem sqB_neg {x : Nat} (hx : x < 18446744073709551616) : sqB (negB x) = sqB x := by
  unfold sqB mlB; rw [mul_negneg x x hx hx]
theorem sqB_canon {x : Nat} (hx : x < 18446744073709551616) : sqB (canonB x) = sqB x := by
  unfold canonB
  cases h : isN x
  · simp only [Bool.false_eq_true, if_false]
    by_cases c : mg x = 0
    · rw [if_pos c]
      have : x = 0 ∨ x = 9223372036854775808 := by unfold mg at c; omega
      rcases this with rfl | rfl <;> decide
    · rw [if_neg c]
  · simp only [if_true]
    unfold sqB
    rw [mlB_none (mul_nan _ _ (.inl h)), mlB_none (mul_nan _ _ (.inl quiet_N))]
/-- an arithmetic of NaN: one among three makes the sum one -/
theorem plB_nan {a b : Nat} (h : isN a = true ∨ isN b = true) : plB a b = quiet := plB_none (add_nan a b h)
theorem thB_nan {a b c : Nat} (h : isN a = true ∨ isN b = true ∨ isN c = true) : thB a b c = quiet := by
  obtain ⟨u, v, z, e, hp⟩ := th_perm a b c
  rw [e]
  have hn : isN u = true ∨ isN v = true ∨ isN z = true := by
    rcases hp with ⟨rfl, rfl, rfl⟩ | ⟨rfl, rfl, rfl⟩ | ⟨rfl, rfl, rfl⟩ | ⟨rfl, rfl, rfl⟩ | ⟨rfl, rfl, rfl⟩ | ⟨rfl, rfl, rfl⟩ <;> rcases h with h | h | h <;> simp [h]
  rcases hn with k | k | k
  · rw [plB_nan (.inl k)]; exact plB_nan (.inl quiet_N)
  · rw [plB_nan (.inr k)]; exact plB_nan (.inl quiet_N)
  · exact plB_nan (.inr k)
theorem thB_q (a b c : Nat) : thB a b c = thB (qB a) (qB b) (qB c) := by
  cases h1 : isN a
  · cases h2 : isN b
    · cases h3 : isN c
      · rw [qB_of h1, qB_of h2, qB_of h3]
      · rw [thB_nan (.inr (.inr h3)), thB_nan (.inr (.inr (by rw [qB_isN]; exact h3)))]
    · rw [thB_nan (.inr (.inl h2)), thB_nan (.inr (.inl (by rw [qB_isN]; exact h2)))]
  · rw [thB_nan (.inl h1), thB_nan (.inl (by rw [qB_isN]; exact h1))]
/-- a square root and a quotient, in the one form -/
def rtB (x : Nat) : Nat := match Ieee.double.sqrt x with | some r => canonB r | none => quiet
def dvB (a b : Nat) : Nat := match Ieee.double.div a b with | some r => canonB r | none => quiet
theorem rtB_some {x r : Nat} (h : Ieee.double.sqrt x = some r) : rtB x = canonB r := by unfold rtB; rw [h]
theorem rtB_none {x : Nat} (h : Ieee.double.sqrt x = none) : rtB x = quiet := by unfold rtB; rw [h]
theorem dvB_some {a b r : Nat} (h : Ieee.double.div a b = some r) : dvB a b = canonB r := by unfold dvB; rw [h]
theorem dvB_none {a b : Nat} (h : Ieee.double.div a b = none) : dvB a b = quiet := by unfold dvB; rw [h]
theorem canon_lt {x : Nat} (hx : x < 18446744073709551616) : canonB x < 18446744073709551616 := by
  unfold canonB; split
  · decide
  · split
    · decide
    · exact hx
/-- how long -/
def lnB (x y z : Nat) : Nat := rtB (thB (sqB x) (sqB y) (sqB z))
theorem lnB_12 {x y z : Nat} (hx : x < 18446744073709551616) (hy : y < 18446744073709551616) : lnB x y z = lnB y x z := by
  unfold lnB; rw [thB_12 (sqB_lt hx) (sqB_lt hy)]
theorem lnB_23 {x y z : Nat} (hx : x < 18446744073709551616) (hy : y < 18446744073709551616) (hz : z < 18446744073709551616) : lnB x y z = lnB x z y := by
  unfold lnB; rw [thB_23 (sqB_lt hx) (sqB_lt hy) (sqB_lt hz)]
theorem lnB_cn {x y z : Nat} (hx : x < 18446744073709551616) : lnB (canonB (negB x)) y z = lnB x y z := by unfold lnB; rw [sqB_canon (negB_lt' hx), sqB_neg hx]
end Go.Proofs.YtebnjbljabjgaaaDoor

namespace Go.Proofs.YtebnjbljabjgaaaDoor
open Tf Ieee

theorem rung_dbl {d V : Nat} (h0 : V ≠ 0) (h : 52 + d ≤ V.log2) : rung 52 d (V * 2) = rung 52 d V + 4503599627370496 := by
  unfold rung
  have hl : (V * 2).log2 = V.log2 + 1 := by
    have := log2_mul_pow V 1 h0
    rwa [Nat.pow_one] at this
  have e : (2 : Nat) ^ 52 = 4503599627370496 := by decide
  rw [hl, show V.log2 + 1 - (52 + d) = (V.log2 - (52 + d)) + 1 by omega, show (V.log2 - (52 + d)) + 1 + d = (V.log2 - (52 + d) + d) + 1 by omega]
  rw [Nat.pow_succ 2 (V.log2 - (52 + d) + d), rne_scale _ _ 2 (by omega), e]
  omega
theorem rung_big {d V : Nat} (h : 52 + d ≤ V.log2) (h0 : V ≠ 0) : 4503599627370496 ≤ rung 52 d V := by
  have e : mag 52 4503599627370496 = 2 ^ 52 := by decide
  refine rung_ge (by omega) ?_
  rw [e, ← Nat.pow_add]
  exact Nat.le_trans (Nat.pow_le_pow_right (by omega) h) (Nat.log2_self_le h0)
/-- nought, or a number far from both ends -/
def Md (x : Nat) : Prop := mg x = 0 ∨ (4503599627370496 ≤ mg x ∧ mg x + 4503599627370496 < 9218868437227405312)
theorem Md.w {x : Nat} (h : Md x) : mg x = 0 ∨ mg x + 4503599627370496 < 9223372036854775808 := by rcases h with h | h; exact .inl h; exact .inr (by omega)
theorem Md.fin {x : Nat} (h : Md x) : mg x < 9218868437227405312 := by rcases h with h | h <;> omega
theorem Md.neg {x : Nat} (h : Md x) (hx : x < 18446744073709551616) : Md (negB x) := by unfold Md; rw [negB_mg hx]; exact h
end Go.Proofs.YtebnjbljabjgaaaDoor

namespace Go.Proofs.YtebnjbljabjgaaaDoor
open Tf Ieee
def sgn (x : Nat) : Bool := x / 9223372036854775808 % 2 == 1
theorem read_norm {x : Nat} (h1 : 4503599627370496 ≤ mg x) (h2 : mg x < 9218868437227405312) :
    double.read x = .number (sgn x) (4503599627370496 + mg x % 4503599627370496) (double.leastPlace + ((mg x / 4503599627370496 - 1 : Nat) : Int)) := by
  unfold Format.read
  simp only [d_sw, d_bin, d_inf]
  have hmg : x % 9223372036854775808 = mg x := rfl
  rw [hmg, if_neg (by omega), if_pos h2]
  rfl
theorem read_zero {x : Nat} (h : mg x = 0) : double.read x = .number (sgn x) 0 double.leastPlace := by
  unfold Format.read
  simp only [d_sw, d_bin, d_inf]
  have hmg : x % 9223372036854775808 = mg x := rfl
  rw [hmg, if_pos (by omega), h]
  rfl
theorem sgn_ng {x : Nat} (hx : x < 18446744073709551616) : sgn x = ng x := by
  unfold sgn ng
  by_cases c : 9223372036854775808 ≤ x
  · rw [show x / 9223372036854775808 = 1 by omega, decide_eq_true c]; rfl
  · rw [show x / 9223372036854775808 = 0 by omega, decide_eq_false c]; rfl
/-- the whole root -/
theorem root_bound (n : Nat) : ∀ t r, r * r ≤ n → n < (r + 2 ^ t) * (r + 2 ^ t) → Datum.rootFrom n t r * Datum.rootFrom n t r ≤ n ∧ n < (Datum.rootFrom n t r + 1) * (Datum.rootFrom n t r + 1) := by
  intro t
  induction t with
  | zero => intro r h1 h2; exact ⟨h1, h2⟩
  | succ t ih =>
    intro r h1 h2
    unfold Datum.rootFrom
    have e : 1 <<< t = 2 ^ t := by rw [Nat.shiftLeft_eq, Nat.one_mul]
    simp only [e]
    by_cases c : (r + 2 ^ t) * (r + 2 ^ t) ≤ n
    · rw [if_pos c]
      refine ih _ c ?_
      rw [show r + 2 ^ t + 2 ^ t = r + 2 ^ (t + 1) by rw [Nat.pow_succ]; omega]
      exact h2
    · rw [if_neg c]
      exact ih _ h1 (by omega)
def isq (n : Nat) : Nat := Datum.rootFrom n (n.log2 / 2 + 1) 0
theorem isq_spec (n : Nat) : isq n * isq n ≤ n ∧ n < (isq n + 1) * (isq n + 1) := by
  refine root_bound n _ 0 (by omega) ?_
  rw [Nat.zero_add, ← Nat.pow_add]
  by_cases h : n = 0
  · rw [h]; exact Nat.two_pow_pos _
  · exact Nat.lt_of_lt_of_le Nat.lt_log2_self (Nat.pow_le_pow_right (by omega) (by omega))
def rtM (m : Nat) (i : Int) : Nat := (108 - m.log2) + ((i - ((108 - m.log2 : Nat) : Int)) % 2).toNat
def rtW (m s : Nat) : Nat := 2 * isq (m <<< s) + (isq (m <<< s) * isq (m <<< s) != m <<< s).toNat
theorem root_eq {m : Nat} (i : Int) (h : m ≠ 0) : Datum.root 54 (.number false m i) = some (.number false (rtW m (rtM m i)) ((i - (rtM m i : Nat)) / 2 - 1)) := by
  unfold Datum.root
  dsimp only
  rw [if_neg h]
  rfl
theorem sqrt_eq {T : Nat} (hT : T < 18446744073709551616) (hn : ng T = false) (h1 : 4503599627370496 ≤ mg T) (h2 : mg T < 9218868437227405312) :
    double.sqrt T = some (double.nearest false (rtW (4503599627370496 + mg T % 4503599627370496) (rtM (4503599627370496 + mg T % 4503599627370496) (double.leastPlace + ((mg T / 4503599627370496 - 1 : Nat) : Int))))
      ((double.leastPlace + ((mg T / 4503599627370496 - 1 : Nat) : Int) - (rtM (4503599627370496 + mg T % 4503599627370496) (double.leastPlace + ((mg T / 4503599627370496 - 1 : Nat) : Int)) : Nat)) / 2 - 1)) := by
  show ((double.read T).root 54).map double.write = _
  rw [read_norm h1 h2, sgn_ng hT, hn, root_eq _ (by omega)]
  rfl
theorem log_m (q : Nat) (h : q < 4503599627370496) : (4503599627370496 + q).log2 = 52 := by
  refine log2_of (k := 52) ?_ ?_
  · have e : (2 : Nat) ^ 52 = 4503599627370496 := by decide
    omega
  · have e : (2 : Nat) ^ (52 + 1) = 9007199254740992 := by decide
    omega
theorem rtM_val {m : Nat} (i : Int) (h : m.log2 = 52) : 56 ≤ rtM m i ∧ rtM m i ≤ 57 ∧ rtM m (i + 2) = rtM m i ∧ (i - (rtM m i : Nat)) % 2 = 0 := by
  unfold rtM
  rw [h]
  omega
theorem rtW_val {m s : Nat} (h1 : 4503599627370496 ≤ m) (h2 : m < 9007199254740992) (hs : 56 ≤ s ∧ s ≤ 57) : 18014398509481984 ≤ rtW m s ∧ rtW m s < 144115188075855872 := by
  obtain ⟨a, b⟩ := isq_spec (m <<< s)
  have e : m <<< s = m * 2 ^ s := Nat.shiftLeft_eq ..
  have hc : (isq (m <<< s) * isq (m <<< s) != m <<< s).toNat ≤ 1 := by cases (isq (m <<< s) * isq (m <<< s) != m <<< s) <;> decide
  unfold rtW
  generalize (isq (m <<< s) * isq (m <<< s) != m <<< s).toNat = c at *
  generalize isq (m <<< s) = q at *
  rw [e] at a b
  have lo : 4503599627370496 * 2 ^ 56 ≤ m * 2 ^ s := Nat.mul_le_mul h1 (Nat.pow_le_pow_right (by omega) hs.1)
  have hi : m * 2 ^ s ≤ 9007199254740992 * 2 ^ 57 := Nat.mul_le_mul (by omega) (Nat.pow_le_pow_right (by omega) hs.2)
  generalize m * 2 ^ s = n at *
  have k1 : 9007199254740992 ≤ q := by
    rcases Nat.lt_or_ge q 9007199254740992 with k | k
    · have : (q + 1) * (q + 1) ≤ 9007199254740992 * 9007199254740992 := Nat.mul_le_mul (by omega) (by omega)
      omega
    · exact k
  have k2 : q < 72057594037927935 := by
    rcases Nat.lt_or_ge q 72057594037927935 with k | k
    · exact k
    · have : 72057594037927935 * 72057594037927935 ≤ q * q := Nat.mul_le_mul k k
      omega
  omega
def Er16 : Nat := 1548
theorem mv_E16 : mv 6976075822796898304 = 2 ^ (52 + Er16) := mv_two_pow Er16 _ (by decide)
theorem le_E16 {W d : Nat} (hW : W ≤ 2 ^ 57) (hd : d ≤ 1531) : W * 2 ^ d ≤ mv 6976075822796898304 := by
  have hE : 57 + d ≤ 52 + Er16 := by
    have : Er16 = 1548 := rfl
    omega
  rw [mv_E16]
  refine Nat.le_trans (Nat.mul_le_mul_right _ hW) ?_
  rw [← Nat.pow_add]
  exact Nat.pow_le_pow_right (by omega) hE
theorem rung_E16 {V : Nat} (h : V ≤ mv 6976075822796898304) : rung 52 0 V ≤ 6976075822796898304 := by
  refine rung_le (by omega) ?_
  rw [Nat.pow_zero, Nat.mul_one]
  exact h
end Go.Proofs.YtebnjbljabjgaaaDoor

namespace Go.Proofs.YtebnjbljabjgaaaDoor
open Tf Ieee
/-- the whole root twice, and one more where that isn't all -/
def stW (n : Nat) : Nat := 2 * isq n + (isq n * isq n != n).toNat
theorem mv_parts {r : Nat} (h : 4503599627370496 ≤ r) : mv r = (4503599627370496 + r % 4503599627370496) * 2 ^ (r / 4503599627370496 - 1) := by
  unfold mv mag
  have e : (2 : Nat) ^ 52 = 4503599627370496 := by decide
  rw [if_neg (by omega), e]
end Go.Proofs.YtebnjbljabjgaaaDoor

namespace Go.Proofs.YtebnjbljabjgaaaDoor
open Go.RowKit
theorem hid {p : Prop} (h : p) : Hid p := h
theorem heap_alloc3_new (w : World) (A B C : Obj) : (((w.alloc A).alloc B).alloc C).heap[w.heap.size + 2]? = some C := by
  have h := heap_alloc_new ((w.alloc A).alloc B) C
  have e : ((w.alloc A).alloc B).heap.size = w.heap.size + 2 := by
    show ((w.heap.push A).push B).size = _
    simp
  rwa [e] at h
theorem bl1 (w : World) (A : Obj) : Below w.heap.size w (w.alloc A) := (Below.refl _ _).alloc (Nat.le_refl _) _
theorem bl2 (w : World) (A B : Obj) : Below w.heap.size w ((w.alloc A).alloc B) := (bl1 w A).alloc (by simp) _
theorem bl3 (w : World) (A B C : Obj) : Below w.heap.size w (((w.alloc A).alloc B).alloc C) := (bl2 w A B).alloc (by simp; omega) _
/-- all blocks of W are in w as they were -/
def Ab (W w : World) : Prop := Below W.heap.size W w
theorem Ab.refl (W : World) : Ab W W := Below.refl _ _
theorem Ab.size {W w : World} (h : Ab W w) : W.heap.size ≤ w.heap.size := Below.size h
theorem Ab.drew {W w : World} (h : Ab W w) : Ab W w.drew := Below.drew h
theorem Ab.alloc {W w : World} (h : Ab W w) (o : Obj) : Ab W (w.alloc o) := Below.alloc h h.size o
theorem Ab.call {W u w : World} (h : Ab W u) (b : Below u.heap.size u w) : Ab W w := h.trans (b.mono h.size)
theorem Ab.set {W w : World} (h : Ab W w) {p : Addr} (hp : W.heap.size ≤ p.block) (u : Value) : Ab W (w.setCell p u) := Below.setCell h hp u
theorem Ab.heap {W w : World} (h : Ab W w) {g : Nat} {o : Obj} (hg : W.heap[g]? = some o) : w.heap[g]? = some o := by
  have hlt : g < W.heap.size := by
    rcases Nat.lt_or_ge g W.heap.size with h1 | h1
    · exact h1
    · rw [Array.getElem?_eq_none h1] at hg; cases hg
  exact (Below.block h g hlt).trans hg
theorem free_row {w : World} {g : Nat} {cs : Array Value} {T : TypeId} (h : w.heap[g]? = some (.cells cs T (0, 0))) (k : Nat) : w.frozen? ⟨g, k, none⟩ = false := by
  simp [World.frozen?, h]
theorem heap_at (w : World) (o : Obj) (k : Nat) (h : k = w.heap.size) : (w.alloc o).heap[k]? = some o := by
  rw [h]; exact heap_alloc_new w o
theorem heap_drew (w : World) (k : Nat) : w.drew.heap[k]? = w.heap[k]? := rfl
theorem Ab.trans {a b c : World} (h : Ab a b) (k : Ab b c) : Ab a c := h.call k
/-- as Ab, but for block g, which is a row of n cells of type T -/
def Abx (W : World) (g n : Nat) (T : TypeId) (w : World) : Prop :=
  (w.os = W.os ∧ w.tape = W.tape ∧ w.output = W.output ∧ W.heap.size ≤ w.heap.size ∧ ∀ k, k < W.heap.size → k ≠ g → w.heap[k]? = W.heap[k]?) ∧ ∃ cs : Array Value, cs.size = n ∧ w.heap[g]? = some (.cells cs T)
/-- what lies in a cell -/
def rv (w : World) (g k : Nat) : Value := (w.cell? ⟨g, k, none⟩).getD (.bool false)
theorem Ab.x {W w : World} (h : Ab W w) {g n : Nat} {T : TypeId} {cs : Array Value} (hn : cs.size = n) (hg : W.heap[g]? = some (.cells cs T)) : Abx W g n T w :=
  ⟨⟨Below.os h, Below.tape h, Below.output h, Below.size h, fun k hk _ => Below.block h k hk⟩, cs, hn, h.heap hg⟩
theorem Abx.drew {W w : World} {g n : Nat} {T : TypeId} (h : Abx W g n T w) : Abx W g n T w.drew := h
theorem Abx.alloc {W w : World} {g n : Nat} {T : TypeId} (h : Abx W g n T w) (o : Obj) : Abx W g n T (w.alloc o) := by
  obtain ⟨⟨h1, h2, h3, h4, h5⟩, cs, h6, h7⟩ := h
  refine ⟨⟨h1, h2, h3, by simp; omega, fun k hk hne => (Below.heap_alloc _ _ _ (by omega)).trans (h5 k hk hne)⟩, cs, h6, (Below.heap_alloc _ _ _ (lt_of_block h7)).trans h7⟩
theorem Abx.call {W u w : World} {g n : Nat} {T : TypeId} (h : Abx W g n T u) (b : Below u.heap.size u w) : Abx W g n T w := by
  obtain ⟨⟨h1, h2, h3, h4, h5⟩, cs, h6, h7⟩ := h
  exact ⟨⟨b.os.trans h1, b.tape.trans h2, b.output.trans h3, Nat.le_trans h4 b.size, fun k hk hne => (b.block k (by omega)).trans (h5 k hk hne)⟩, cs, h6, (b.block g (lt_of_block h7)).trans h7⟩
theorem one_set {w : World} {g k : Nat} {cs : Array Value} {v : Value} {T : TypeId} (h : w.heap[g]? = some (.cells cs T)) : (w.setCell ⟨g, k, none⟩ v).heap[g]? = some (.cells (cs.setIfInBounds k v) T) := by
  show (w.heap.modify g _)[g]? = _
  rw [Array.getElem?_modify, if_pos rfl, h]
  rfl
theorem Abx.set {W w : World} {g n : Nat} {T : TypeId} (h : Abx W g n T w) (k : Nat) (v : Value) : Abx W g n T (w.setCell ⟨g, k, none⟩ v) := by
  obtain ⟨⟨h1, h2, h3, h4, h5⟩, cs, h6, h7⟩ := h
  refine ⟨⟨h1, h2, h3, by simpa [World.setCell] using h4, fun i hi hne => (Below.heap_setCell _ _ _ _ hne).trans (h5 i hi hne)⟩, cs.setIfInBounds k v, by simpa using h6, one_set h7⟩
theorem Abx.heap {W w : World} {g n : Nat} {T : TypeId} (h : Abx W g n T w) {k : Nat} {o : Obj} (hne : k ≠ g) (hk : W.heap[k]? = some o) : w.heap[k]? = some o := by
  have hlt : k < W.heap.size := by
    rcases Nat.lt_or_ge k W.heap.size with h1 | h1
    · exact h1
    · rw [Array.getElem?_eq_none h1] at hk; cases hk
  exact (h.1.2.2.2.2 k hlt hne).trans hk
theorem Abx.free {W w : World} {g n : Nat} {T : TypeId} (h : Abx W g n T w) (k : Nat) : w.frozen? ⟨g, k, none⟩ = false := by
  obtain ⟨_, cs, _, h7⟩ := h
  exact free_row h7 k
theorem Abx.some {W w : World} {g n : Nat} {T : TypeId} (h : Abx W g n T w) {k : Nat} (hk : k < n) : w.cell? ⟨g, k, none⟩ = some (rv w g k) := by
  obtain ⟨_, cs, h6, h7⟩ := h
  have e := cell_of_row w g k cs T (0, 0) h7
  rw [Array.getElem?_eq_getElem (by omega)] at e
  unfold rv
  rw [e]
  rfl
theorem Abx.ab {w0 W w : World} {g n : Nat} {T : TypeId} (h : Abx W g n T w) (a : Ab w0 W) (hg : w0.heap.size ≤ g) : Ab w0 w := by
  obtain ⟨⟨h1, h2, h3, h4, h5⟩, _⟩ := h
  exact ⟨h1.trans a.os, h2.trans a.tape, h3.trans a.output, Nat.le_trans (Below.size a) h4, fun k hk => (h5 k (Nat.lt_of_lt_of_le hk (Below.size a)) (by omega)).trans (a.block k hk)⟩
theorem set3 {W w : World} {g : Nat} {x y z : Value} {T : TypeId} (h : Abx W g 3 T w) :
    (((w.setCell ⟨g, 0, none⟩ x).setCell ⟨g, 1, none⟩ y).setCell ⟨g, 2, none⟩ z).heap[g]? = some (.cells #[x, y, z] T) := by
  obtain ⟨_, cs, h6, h⟩ := h
  obtain ⟨a, b, c, rfl⟩ : ∃ a b c, cs = #[a, b, c] := by
    rcases cs with ⟨l⟩
    match l, h6 with
    | [a, b, c], _ => exact ⟨a, b, c, rfl⟩
  have h1 := one_set (v := x) (k := 0) h
  have h2 := one_set (v := y) (k := 1) h1
  have h3 := one_set (v := z) (k := 2) h2
  simpa using h3
theorem Ab.setk {W w : World} (h : Ab W w) {g k : Nat} (hp : W.heap.size ≤ g) (u : Value) : Ab W (w.setCell ⟨g, k, none⟩ u) := Below.setCell h hp u
/-- a point that was laid just ahead of a call -/
theorem Ab.drewN {W w : World} (h : Ab W w) (k : Nat) : Ab W (w.drewN k) := by
  induction k with
  | zero => exact h
  | succ k ih => exact ih.drew
theorem newrow {u w1 : World} {c : Array Value} {T : TypeId} (b : Below (u.alloc (.cells c T)).drew.heap.size (u.alloc (.cells c T)).drew w1) : w1.heap[u.heap.size]? = some (.cells c T) :=
  (b.block _ (by show u.heap.size < (u.alloc _).heap.size; simp)).trans (heap_alloc_new u _)
theorem newrow' {u w1 : World} {c : Array Value} {T : TypeId} (b : Below (u.alloc (.cells c T)).heap.size (u.alloc (.cells c T)) w1) : w1.heap[u.heap.size]? = some (.cells c T) :=
  (b.block _ (by simp)).trans (heap_alloc_new u _)
theorem rowfacts {w : World} {g : Nat} {x y z : Value} {T : TypeId} (r : w.heap[g]? = some (.cells #[x, y, z] T)) : (w.frozen? ⟨g, 0, none⟩ = false ∧ w.frozen? ⟨g, 1, none⟩ = false ∧ w.frozen? ⟨g, 2, none⟩ = false) ∧ w.cell? ⟨g, 0, none⟩ = some x ∧ w.cell? ⟨g, 1, none⟩ = some y ∧ w.cell? ⟨g, 2, none⟩ = some z :=
  ⟨⟨free_row r 0, free_row r 1, free_row r 2⟩, cell_of_row _ _ 0 _ _ _ r, cell_of_row _ _ 1 _ _ _ r, cell_of_row _ _ 2 _ _ _ r⟩
theorem row3 {w : World} {g : Nat} {a b c x y z : Value} {T : TypeId} (h : w.heap[g]? = some (.cells #[a, b, c] T)) :
    (((w.setCell ⟨g, 0, none⟩ x).setCell ⟨g, 1, none⟩ y).setCell ⟨g, 2, none⟩ z).heap[g]? = some (.cells #[x, y, z] T) := by
  have h1 := one_set (v := x) (k := 0) h
  have h2 := one_set (v := y) (k := 1) h1
  have h3 := one_set (v := z) (k := 2) h2
  simpa using h3
end Go.Proofs.YtebnjbljabjgaaaDoor

namespace Go.Proofs.YtebnjbljabjgaaaDoor
open Go.RowKit Tf

theorem run_bits (b : Nat) (w : World) : (callFunc 30 #[.float .f64 b]).run Tryd.prog w = .ok (.value (.int .u64 b)) w := by
  rw [run_callFunc_extern (e := Extern.MathFloatBits.float64bits) Tryd.func30 (by kernel_rfl) (by kernel_rfl) (by kernel_rfl) (by kernel_rfl)]
  rfl
theorem run_from (n : Int) (w : World) : (callFunc 60 #[.int .u64 n]).run Tryd.prog w = .ok (.value (.float .f64 n.toNat)) w := by
  rw [run_callFunc_extern (e := Extern.MathFloatBits.float64frombits) Tryd.func60 (by kernel_rfl) (by kernel_rfl) (by kernel_rfl) (by kernel_rfl)]
  rfl
theorem raw_feq (a b : Nat) : (FloatKind.f64.format.order a b == some Ordering.eq) = feq a b := rfl
theorem raw_fne (a b : Nat) : (FloatKind.f64.format.order a b != some Ordering.eq) = !feq a b := rfl
theorem raw_flt (a b : Nat) : (FloatKind.f64.format.order a b == some Ordering.lt) = flt a b := rfl
theorem raw_fgt (a b : Nat) : (FloatKind.f64.format.order a b == some Ordering.gt) = fgt a b := rfl
attribute [local go_sem] run_bits run_from raw_feq raw_fne raw_flt raw_fgt

theorem ret_int {k : IntKind} {a b : Int} (h : a = b) : Ending.returned (.int k a) = .returned (.int k b) := by rw [h]
theorem ret_bool {a b : Bool} (h : a = b) : Ending.returned (.bool a) = .returned (.bool b) := by rw [h]
theorem ret_flt {a b : Nat} (h : a = b) : Ending.returned (.float .f64 a) = .returned (.float .f64 b) := by rw [h]

set_option maxHeartbeats 400000 in
theorem magnitudeBits_any (x : Nat) (w : World) (hx : x < 18446744073709551616) :
    Calls Tryd.prog 59 #[.float .f64 x] w fun e w' => e = .returned (.int .u64 (mg x : Nat)) ∧ w' = w := by
  go_enter Tryd.func59, Tryd.ntmps59
  go_wp2
  go_ret
  exact ⟨ret_int (andNot_sign x hx), rfl⟩
set_option maxHeartbeats 400000 in
theorem place_any (x : Nat) (w : World) (hx : x < 18446744073709551616) :
    Calls Tryd.prog 65 #[.float .f64 x] w fun e w' => e = .returned (.int .u64 (placeB x : Nat)) ∧ w' = w := by
  have hs := and_sign x hx
  cases hn : ng x
  · rw [hn] at hs
    have hl := lt_of_ng hn
    have ho : Hid (bits .or .u64 (x : Int) 9223372036854775808 = ((x + 9223372036854775808 : Nat) : Int)) := or_sign x hl
    have hp : Hid (placeB x = x + 9223372036854775808) := by unfold placeB; rw [hn]; rfl
    go_enter Tryd.func65, Tryd.ntmps65
    go_wp2
    go_ret
    exact ⟨ret_int (by rw [ho.out, hp.out]), rfl⟩
  · rw [hn] at hs
    have ho : Hid (bits .xor .u64 IntKind.u64.max (x : Int) = ((18446744073709551615 - x : Nat) : Int)) := not_all x hx
    have hp : Hid (placeB x = 18446744073709551615 - x) := by unfold placeB; rw [hn]; rfl
    go_enter Tryd.func65, Tryd.ntmps65
    go_wp2
    go_ret
    exact ⟨ret_int (by rw [hp.out]; exact ho.out), rfl⟩
set_option maxHeartbeats 400000 in
theorem isNaN_any (x : Nat) (w : World) (hx : x < 18446744073709551616) :
    Calls Tryd.prog 50 #[.float .f64 x] w fun e w' => e = .returned (.bool (isN x)) ∧ w' = w := by
  go_enter Tryd.func50, Tryd.ntmps50
  go_wp2_with (go_at_call 59; refine (magnitudeBits_any _ _ hx).mono ?_; rintro e w' ⟨rfl, rfl⟩)
  go_ret
  exact ⟨ret_bool (by unfold isN; exact decide_eq_decide.2 (by omega)), rfl⟩
set_option maxHeartbeats 400000 in
theorem quietNaN_any (w : World) :
    Calls Tryd.prog 51 #[] w fun e w' => e = .returned (.float .f64 quiet) ∧ w' = w := by
  go_enter Tryd.func51, Tryd.ntmps51
  go_wp2
  go_ret
  exact ⟨rfl, rfl⟩

theorem feq_zero (x : Nat) (hx : x < 18446744073709551616) : feq x 0 = decide (mg x = 0) := by
  have h := feq_rk x 0 hx (by omega)
  have e : rk 0 = 0 := by decide
  have n : isN 0 = false := by decide
  rw [h, e, n]
  cases hN : isN x
  · unfold rk
    cases ng x <;> simp
  · have := isN_true.1 hN
    have : ¬ mg x = 0 := by omega
    simp [this]

set_option maxHeartbeats 1000000 in
set_option maxRecDepth 100000 in
theorem canon_any (x : Nat) (w : World) (hx : x < 18446744073709551616) :
    Calls Tryd.prog 31 #[.float .f64 x] w fun e w' => e = .returned (.float .f64 (canonB x)) ∧ w' = w := by
  have hc : Hid (canonB x = if isN x then quiet else if mg x = 0 then 0 else x) := rfl
  have hz := feq_zero x hx
  cases hN : isN x
  · have HN := hid hN
    by_cases c : mg x = 0
    · have H : Hid (mg x = 0) := c
      rw [c] at hz; simp only [decide_true] at hz
      clear c
      go_enter Tryd.func31, Tryd.ntmps31
      go_wp2_with (first | (go_at_call 50; refine (isNaN_any _ _ hx).mono ?_; rintro e w' ⟨rfl, rfl⟩) | (go_at_call 51; refine (quietNaN_any _).mono ?_; rintro e w' ⟨rfl, rfl⟩))
      go_ret
      exact ⟨ret_flt (by rw [hc.out, HN.out, H.out]; rfl), rfl⟩
    · simp only [c, decide_false] at hz
      go_enter Tryd.func31, Tryd.ntmps31
      go_wp2_with (first | (go_at_call 50; refine (isNaN_any _ _ hx).mono ?_; rintro e w' ⟨rfl, rfl⟩) | (go_at_call 51; refine (quietNaN_any _).mono ?_; rintro e w' ⟨rfl, rfl⟩))
      go_ret
      exact ⟨ret_flt (by rw [hc.out, HN.out, if_neg c]; rfl), rfl⟩
  · have HN := hid hN
    go_enter Tryd.func31, Tryd.ntmps31
    go_wp2_with (first | (go_at_call 50; refine (isNaN_any _ _ hx).mono ?_; rintro e w' ⟨rfl, rfl⟩) | (go_at_call 51; refine (quietNaN_any _).mono ?_; rintro e w' ⟨rfl, rfl⟩))
    go_ret
    exact ⟨ret_flt (by rw [hc.out, HN.out]; rfl), rfl⟩

end Go.Proofs.YtebnjbljabjgaaaDoor

namespace Go.Proofs.YtebnjbljabjgaaaDoor
open Go.RowKit Tf
attribute [local go_sem] run_bits run_from raw_feq raw_fne raw_flt raw_fgt

theorem xor_lt (x : Nat) (h : x < 2 ^ 63) : x ^^^ 2 ^ 63 = x + 2 ^ 63 := by
  apply Nat.eq_of_testBit_eq
  intro i
  rw [Nat.testBit_xor, Nat.testBit_two_pow, Nat.add_comm x]
  by_cases c : i = 63
  · subst c
    rw [Nat.testBit_two_pow_add_eq]
    have : x.testBit 63 = false := Nat.testBit_lt_two_pow h
    simp [this]
  · by_cases c2 : i < 63
    · rw [Nat.testBit_two_pow_add_gt c2]
      have : ¬ 63 = i := by omega
      simp [this]
    · have h1 : x.testBit i = false := Nat.testBit_lt_two_pow (Nat.lt_of_lt_of_le h (Nat.pow_le_pow_right (by omega) (by omega)))
      have h2 : (2 ^ 63 + x).testBit i = false := Nat.testBit_lt_two_pow (Nat.lt_of_lt_of_le (show 2 ^ 63 + x < 2 ^ 64 by omega) (Nat.pow_le_pow_right (by omega) (by omega)))
      have : ¬ 63 = i := by omega
      rw [h1, h2]; simp [this]
theorem negFloat_eq (x : Nat) (hx : x < 18446744073709551616) : Op.negFloat .f64 x = negB x := by
  unfold Op.negFloat negB
  rw [show FloatKind.f64.format.exponentBits + FloatKind.f64.format.fractionBits = 63 from rfl]
  cases h : ng x
  · have := lt_of_ng h
    rw [xor_lt x (by omega)]; simp only [Bool.false_eq_true, if_false]
  · have := ge_of_ng h
    have e := xor_lt (x - 9223372036854775808) (by omega)
    rw [show x - 9223372036854775808 + 2 ^ 63 = x by omega] at e
    have e2 : x ^^^ 2 ^ 63 = x - 9223372036854775808 := by
      rw (occs := .pos [1]) [← e]
      rw [Nat.xor_assoc, Nat.xor_self, Nat.xor_zero]
    rw [e2]; simp only [if_true]
theorem run_neg (b : Nat) : Op.unary .neg (.float .f64 b) = pure (.float .f64 (Op.negFloat .f64 b)) := rfl
attribute [local go_sem] run_neg

end Go.Proofs.YtebnjbljabjgaaaDoor

namespace Go.Proofs.YtebnjbljabjgaaaDoor
open Go.RowKit Tf
attribute [local go_sem] run_bits run_from raw_feq raw_fne raw_flt raw_fgt run_neg

def sameB (a b : Nat) : Bool := decide (a = b)

set_option maxHeartbeats 400000 in
theorem rawSame_any (a b : Nat) (w : World) :
    Calls Tryd.prog 29 #[.float .f64 a, .float .f64 b] w fun e w' => e = .returned (.bool (sameB a b)) ∧ w' = w := by
  go_enter Tryd.func29, Tryd.ntmps29
  go_wp2
  go_ret
  refine ⟨ret_bool ?_, rfl⟩
  unfold sameB
  by_cases h : a = b
  · subst h; simp
  · have : ¬ (a : Int) = (b : Int) := by omega
    simp only [h, decide_false, beq_eq_false_iff_ne, ne_eq, this, not_false_eq_true]
set_option maxHeartbeats 400000 in
theorem order_at (a b p q : Nat) (w : World) (ha : a < 18446744073709551616) (hb : b < 18446744073709551616) (hp : Hid (placeB a = p)) (hq : Hid (placeB b = q)) :
    Calls Tryd.prog 64 #[.float .f64 a, .float .f64 b] w fun e w' => e = .returned (.int .i64 (if p < q then -1 else if q < p then 1 else 0)) ∧ w' = w := by
  have pa : ∀ w, Calls Tryd.prog 65 #[.float .f64 a] w fun e w' => e = .returned (.int .u64 (p : Nat)) ∧ w' = w := by
    intro w; rw [← hp.out]; exact place_any a w ha
  have pb : ∀ w, Calls Tryd.prog 65 #[.float .f64 b] w fun e w' => e = .returned (.int .u64 (q : Nat)) ∧ w' = w := by
    intro w; rw [← hq.out]; exact place_any b w hb
  have PA := hid pa
  have PB := hid pb
  clear pa pb
  by_cases c1 : p < q
  · rw [if_pos c1]
    go_enter Tryd.func64, Tryd.ntmps64
    go_wp2_with fail
    refine (PA.out _).mono ?_
    rintro e w' ⟨rfl, rfl⟩
    go_wp2_with fail
    refine (PB.out _).mono ?_
    rintro e w' ⟨rfl, rfl⟩
    go_wp2
    go_ret
    exact ⟨rfl, rfl⟩
  · rw [if_neg c1]
    by_cases c2 : q < p
    · rw [if_pos c2]
      go_enter Tryd.func64, Tryd.ntmps64
      go_wp2_with fail
      refine (PA.out _).mono ?_
      rintro e w' ⟨rfl, rfl⟩
      go_wp2_with fail
      refine (PB.out _).mono ?_
      rintro e w' ⟨rfl, rfl⟩
      go_wp2
      go_ret
      exact ⟨rfl, rfl⟩
    · rw [if_neg c2]
      go_enter Tryd.func64, Tryd.ntmps64
      go_wp2_with fail
      refine (PA.out _).mono ?_
      rintro e w' ⟨rfl, rfl⟩
      go_wp2_with fail
      refine (PB.out _).mono ?_
      rintro e w' ⟨rfl, rfl⟩
      go_wp2
      go_ret
      exact ⟨rfl, rfl⟩
theorem order_any (a b : Nat) (w : World) (ha : a < 18446744073709551616) (hb : b < 18446744073709551616) :
    Calls Tryd.prog 64 #[.float .f64 a, .float .f64 b] w fun e w' => e = .returned (.int .i64 (orderB a b)) ∧ w' = w :=
  order_at a b (placeB a) (placeB b) w ha hb rfl rfl
theorem orderB_at (a b : Nat) (o : Int) (w : World) (ha : a < 18446744073709551616) (hb : b < 18446744073709551616) (ho : Hid (orderB a b = o)) :
    Calls Tryd.prog 64 #[.float .f64 a, .float .f64 b] w fun e w' => e = .returned (.int .i64 o) ∧ w' = w := by
  rw [← ho.out]; exact order_any a b w ha hb

theorem orderB_gt (a b : Nat) : 0 < orderB a b ↔ placeB b < placeB a := by
  unfold orderB; split
  · simp; omega
  · split <;> simp_all


/-- the NaN that an operation without an answer gives: its bits are drawn -/
def nanOf (w : World) (x y : Nat) : Nat := (Question.nanBits .f64 x y).cut (w.tape w.drawn (.nanBits .f64 x y))
theorem nanOf_lt (w : World) (x y : Nat) : nanOf w x y < 18446744073709551616 := by
  unfold nanOf Question.cut
  simp only []
  omega
theorem isN_nanOf (w : World) (x y : Nat) : isN (nanOf w x y) = true := by
  rw [isN_true]
  unfold nanOf Question.cut mg
  simp only []
  generalize w.tape w.drawn (Question.nanBits FloatKind.f64 x y) = t
  have hb : t / 2 % (2 ^ 52 - 1) < 2 ^ 52 - 1 := Nat.mod_lt _ (by omega)
  generalize t / 2 % (2 ^ 52 - 1) = b at *
  have ha : t % 2 = 0 ∨ t % 2 = 1 := by omega
  rcases ha with h | h <;> rw [h] <;> omega
theorem run_nan_sub {P : Program} (w : World) (t : TypeId) (x y : Nat) (h : Ieee.double.sub x y = none) :
    (binOp .sub t (.float .f64 x) (.float .f64 y)).run P w = .ok (.float .f64 (nanOf w x y)) w.drew := by
  have h' : FloatKind.f64.format.sub x y = none := h
  simp [binOp, Op.floatArith, h', nanOf, Question.forced]
end Go.Proofs.YtebnjbljabjgaaaDoor

namespace Go.Proofs.YtebnjbljabjgaaaDoor
open Go.RowKit Tf
attribute [local go_sem] run_bits run_from raw_feq raw_fne raw_flt raw_fgt

theorem run_nan_add {P : Program} (w : World) (t : TypeId) (x y : Nat) (h : Ieee.double.add x y = none) :
    (binOp .add t (.float .f64 x) (.float .f64 y)).run P w = .ok (.float .f64 (nanOf w x y)) w.drew := by
  have h' : FloatKind.f64.format.add x y = none := h
  simp [binOp, Op.floatArith, h', nanOf, Question.forced]
theorem run_nan_mul {P : Program} (w : World) (t : TypeId) (x y : Nat) (h : Ieee.double.mul x y = none) :
    (binOp .mul t (.float .f64 x) (.float .f64 y)).run P w = .ok (.float .f64 (nanOf w x y)) w.drew := by
  have h' : FloatKind.f64.format.mul x y = none := h
  simp [binOp, Op.floatArith, h', nanOf, Question.forced]

set_option maxHeartbeats 400000 in
theorem abs_any (x : Nat) (w : World) (hx : x < 18446744073709551616) :
    Calls Tryd.prog 63 #[.float .f64 x] w fun e w' => e = .returned (.float .f64 (mg x)) ∧ w' = w := by
  go_enter Tryd.func63, Tryd.ntmps63
  go_wp2
  go_ret
  refine ⟨ret_flt ?_, rfl⟩
  rw [andNot_sign x hx]; rfl

end Go.Proofs.YtebnjbljabjgaaaDoor

namespace Go.Proofs.YtebnjbljabjgaaaDoor
open Go.RowKit Tf
attribute [local go_sem] run_bits run_from raw_feq raw_fne raw_flt raw_fgt run_neg

theorem canon_at (x : Nat) (r : Nat) (w : World) (hx : x < 18446744073709551616) (hr : canonB x = r) :
    Calls Tryd.prog 31 #[.float .f64 x] w fun e w' => e = .returned (.float .f64 r) ∧ w' = w := by
  subst hr; exact canon_any x w hx
end Go.Proofs.YtebnjbljabjgaaaDoor
