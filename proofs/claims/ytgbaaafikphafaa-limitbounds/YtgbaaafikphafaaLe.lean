/-
  Slopes of two differences, by plain numbers (no program).
-/
import Derived.Test.YtgbaaafikphafaaLd
namespace Go.Proofs.Ytgbaaafikphafaa
open Tf Ieee
/-- above nothing; below nothing -/
def ps (a : Nat) : Bool := decide (0 < a ∧ a ≤ 9218868437227405312)
def ns (a : Nat) : Bool := decide (9223372036854775808 < a ∧ a ≤ 18442240474082181120)
theorem ps_iff {a : Nat} : ps a = true ↔ 0 < a ∧ a ≤ 9218868437227405312 := by unfold ps; rw [decide_eq_true_iff]
theorem ns_iff {a : Nat} : ns a = true ↔ 9223372036854775808 < a ∧ a ≤ 18442240474082181120 := by unfold ns; rw [decide_eq_true_iff]
theorem ps_no {a : Nat} : ps a = false ↔ a = 0 ∨ 9218868437227405312 < a := by unfold ps; rw [decide_eq_false_iff_not]; omega
theorem ns_no {a : Nat} : ns a = false ↔ a ≤ 9223372036854775808 ∨ 18442240474082181120 < a := by unfold ns; rw [decide_eq_false_iff_not]; omega
theorem rk_zero : rk 0 = 0 := by decide
theorem fgt_ps {a : Nat} (ha : a < 18446744073709551616) : fgt a 0 = ps a := by
  rw [fgt_rk a 0 ha (by decide), rk_zero, show isN 0 = false by decide]
  unfold ps isN rk ng mg
  by_cases c : 9223372036854775808 ≤ a
  · rw [decide_eq_true c, if_pos rfl, decide_eq_false (p := 0 < a ∧ _) (by omega), decide_eq_false (p := (0 : Int) < _) (by omega), Bool.and_false]
  · rw [decide_eq_false c, if_neg (by decide), Nat.mod_eq_of_lt (by omega)]
    by_cases d : 9218868437227405312 < a
    · rw [decide_eq_true d, decide_eq_false (p := 0 < a ∧ _) (by omega)]; rfl
    · rw [decide_eq_false d]
      by_cases e : 0 < a
      · rw [decide_eq_true (p := 0 < a ∧ _) (by omega), decide_eq_true (p := (0 : Int) < _) (by omega)]; rfl
      · rw [decide_eq_false (p := 0 < a ∧ _) (by omega), decide_eq_false (p := (0 : Int) < _) (by omega)]; rfl
theorem flt_ns {a : Nat} (ha : a < 18446744073709551616) : flt a 0 = ns a := by
  rw [flt_rk a 0 ha (by decide), rk_zero, show isN 0 = false by decide]
  unfold ns isN rk ng mg
  by_cases c : 9223372036854775808 ≤ a
  · rw [decide_eq_true c, if_pos rfl]
    have e : a % 9223372036854775808 = a - 9223372036854775808 := by omega
    rw [e]
    by_cases d : 9218868437227405312 < a - 9223372036854775808
    · rw [decide_eq_true d, decide_eq_false (p := 9223372036854775808 < a ∧ _) (by omega)]; rfl
    · rw [decide_eq_false d]
      by_cases e : 9223372036854775808 < a
      · rw [decide_eq_true (p := 9223372036854775808 < a ∧ _) (by omega), decide_eq_true (p := -_ < (0 : Int)) (by omega)]; rfl
      · rw [decide_eq_false (p := 9223372036854775808 < a ∧ _) (by omega), decide_eq_false (p := -_ < (0 : Int)) (by omega)]; rfl
  · rw [decide_eq_false c, if_neg (by decide), decide_eq_false (p := 9223372036854775808 < a ∧ _) (by omega), decide_eq_false (p := _ < (0 : Int)) (by omega), Bool.and_false]
theorem nn_N {a : Nat} (h : a ≤ 9218868437227405312) : isN a = false := isN_false.2 (by rw [mg_of_lt (by omega)]; exact h)
theorem flt_nn {a b : Nat} (ha : a ≤ 9218868437227405312) (hb : b ≤ 9218868437227405312) : flt a b = decide (a < b) := by
  rw [flt_rk a b (by omega) (by omega), rk_pos a (by omega), rk_pos b (by omega), nn_N ha, nn_N hb]
  by_cases c : a < b
  · rw [decide_eq_true c, decide_eq_true (by omega)]; rfl
  · rw [decide_eq_false c, decide_eq_false (by omega)]; rfl
theorem fgt_nn {a b : Nat} (ha : a ≤ 9218868437227405312) (hb : b ≤ 9218868437227405312) : fgt a b = decide (b < a) := by
  rw [fgt_rk a b (by omega) (by omega), rk_pos a (by omega), rk_pos b (by omega), nn_N ha, nn_N hb]
  by_cases c : b < a
  · rw [decide_eq_true c, decide_eq_true (by omega)]; rfl
  · rw [decide_eq_false c, decide_eq_false (by omega)]; rfl
theorem feq_nn {a b : Nat} (ha : a ≤ 9218868437227405312) (hb : b ≤ 9218868437227405312) : feq a b = decide (a = b) := by
  rw [feq_rk a b (by omega) (by omega), rk_pos a (by omega), rk_pos b (by omega), nn_N ha, nn_N hb]
  by_cases c : a = b
  · rw [decide_eq_true c, decide_eq_true (by omega)]; rfl
  · rw [decide_eq_false c, decide_eq_false (by omega)]; rfl
/-- Leer above nothing -/
def lr (a b : Nat) : Nat := if leer a b < 9218868437227405312 then leer a b else 0
/-- the slope of two that are above nothing -/
def lm (k : Int) (a b : Nat) : Nat := if k = 1 then min a b else if k = 2 then sbee a b else if k = 3 then lr a b else 0
/-- the opposite; of nothing: nothing -/
def op (x : Nat) : Nat := if x = 0 then 0 else x + 9223372036854775808
/-- the slope -/
def slp (k : Int) (a b : Nat) : Nat := if (ps a && ps b) = true then lm k a b else if (ns a && ns b) = true then op (lm k (a - 9223372036854775808) (b - 9223372036854775808)) else 0
theorem lr_le (a b : Nat) : lr a b < 9218868437227405312 := by unfold lr; split <;> omega
theorem lm_le (k : Int) {a b : Nat} (ha : a ≤ 9218868437227405312) (hb : b ≤ 9218868437227405312) : lm k a b ≤ 9218868437227405312 := by
  have s := sbee_facts ha hb
  have l := lr_le a b
  unfold lm
  split
  · omega
  · split
    · omega
    · split <;> omega
theorem op_lt {x : Nat} (h : x ≤ 9218868437227405312) : op x ≤ 18442240474082181120 := by unfold op; split <;> omega
theorem slp_lt (k : Int) (a b : Nat) : slp k a b < 18446744073709551616 := by
  unfold slp
  split
  · rename_i h
    rw [Bool.and_eq_true, ps_iff, ps_iff] at h
    have := lm_le k h.1.2 h.2.2
    omega
  · split
    · rename_i h
      rw [Bool.and_eq_true, ns_iff, ns_iff] at h
      have := op_lt (lm_le k (a := a - 9223372036854775808) (b := b - 9223372036854775808) (by omega) (by omega))
      omega
    · omega
theorem canon_op {x : Nat} (h : x ≤ 9218868437227405312) : canonB (negB x) = op x := by
  unfold negB op canonB
  rw [ng_of_lt (by omega)]
  simp only [Bool.false_eq_true, if_false]
  by_cases c : x = 0
  · subst c; decide
  · have m : mg (x + 9223372036854775808) = x := by unfold mg; omega
    unfold isN
    rw [m, if_neg c, if_neg (by simp; omega)]
theorem neg_ns {a : Nat} (h : 9223372036854775808 < a) : negB a = a - 9223372036854775808 := by
  unfold negB
  rw [if_pos]
  unfold ng; exact decide_eq_true (by omega)
/-- products and sums of what is above nothing have an answer -/
theorem mul_pp {x y : Nat} (hx : x ≤ 9218868437227405312) (hy : y ≤ 9218868437227405312) (x0 : 0 < x) (y0 : 0 < y) : Ieee.double.mul x y = some (mlB x y) := by
  have h := ml_nn hx hy x0 y0
  cases e : Ieee.double.mul x y with
  | none => rw [mlB_none e] at h; unfold quiet at h; omega
  | some r => rw [mlB_some e]
theorem add_pp {x y : Nat} (hx : x ≤ 9218868437227405312) (hy : y ≤ 9218868437227405312) : Ieee.double.add x y = some (plB x y) := by
  have h := (plB_nn hx hy).1
  cases e : Ieee.double.add x y with
  | none => rw [plB_none e] at h; unfold quiet at h; omega
  | some r => rw [plB_some e]
/-- the lesser and the greater of two -/
theorem order_pp {a b : Nat} (ha : a ≤ 9218868437227405312) (hb : b ≤ 9218868437227405312) : Ieee.double.order a b = some (if a < b then .lt else if b < a then .gt else .eq) := by
  have h1 := flt_nn ha hb
  have h2 := fgt_nn ha hb
  have h3 := feq_nn ha hb
  unfold flt at h1
  unfold fgt at h2
  unfold feq at h3
  by_cases c : a < b
  · rw [if_pos c]; rw [decide_eq_true c] at h1; simpa using h1
  · rw [if_neg c]
    by_cases d : b < a
    · rw [if_pos d]; rw [decide_eq_true d] at h2; simpa using h2
    · rw [if_neg d]; rw [decide_eq_true (by omega)] at h3; simpa using h3
/-- whether it is finite, whatever the word -/
theorem lr_le_of {r : Nat} {a b : Nat} (h : IsC r (leer a b)) (hn : leer a b = quiet ∨ leer a b ≤ 9218868437227405312) :
    (flt r 9218868437227405311 || feq r 9218868437227405311) = decide (leer a b < 9218868437227405312) ∧ (leer a b < 9218868437227405312 → canonB r = leer a b) := by
  obtain ⟨h1, h2⟩ := h
  refine ⟨?_, fun _ => h2⟩
  rcases hn with e | e
  · rw [e] at h2 ⊢
    have nr : isN r = true := by
      cases k : isN r
      · unfold canonB at h2
        rw [k] at h2
        have := isN_false.1 k
        simp only [Bool.false_eq_true, if_false] at h2
        split at h2
        · exact absurd h2 (by decide)
        · rw [h2] at k; exact absurd k (by decide)
      · rfl
    rw [flt_rk r _ h1 (by decide), feq_rk r _ h1 (by decide), nr]
    rfl
  · have nr : isN r = false := by
      cases k : isN r
      · rfl
      · unfold canonB at h2
        rw [k, if_pos rfl] at h2
        rw [← h2] at e
        unfold quiet at e
        omega
    have rr : rk r = leer a b := by
      unfold canonB at h2
      rw [nr, if_neg (by decide)] at h2
      split at h2
      · rename_i m
        rw [← h2]
        unfold rk
        rw [m]; split <;> rfl
      · rw [h2]; exact rk_pos _ (by omega)
    rw [flt_rk r _ h1 (by decide), feq_rk r _ h1 (by decide), nr, rr, show isN 9218868437227405311 = false by decide, rk_pos 9218868437227405311 (by decide)]
    by_cases c : leer a b < 9218868437227405312
    · rw [decide_eq_true c]
      by_cases d : leer a b = 9218868437227405311
      · rw [d]; decide
      · rw [decide_eq_true (p := (_ : Int) < _) (by omega)]; rfl
    · rw [decide_eq_false c, decide_eq_false (p := (_ : Int) < _) (by omega), decide_eq_false (p := (_ : Int) = _) (by omega)]; rfl
end Go.Proofs.Ytgbaaafikphafaa
