/-
  Quotients of floats that aren't below nothing, by plain numbers (no program).
-/
import Derived.Test.YtgbaaafikphafaaLc
namespace Go.Proofs.Ytgbaaafikphafaa
open Tf Ieee
theorem near_le (W : Nat) (p : Int) : ∃ r, r ≤ 9218868437227405312 ∧ double.nearest false W p = r := by
  have hlp := d_lp
  by_cases h : double.leastPlace ≤ p
  · obtain ⟨d, hd⟩ : ∃ d : Nat, p = double.leastPlace + (d : Int) := ⟨(p - double.leastPlace).toNat, by omega⟩
    rw [nearest_up double false W d _ hd, d_word, d_inf]
    simp only [Bool.false_eq_true, if_false]
    exact ⟨_, Nat.min_le_right _ _, rfl⟩
  · obtain ⟨d, hd⟩ : ∃ d : Nat, p = double.leastPlace - (d : Int) := ⟨(double.leastPlace - p).toNat, by omega⟩
    rw [hd, nearest_rung double false W d, d_word, d_inf]
    simp only [Bool.false_eq_true, if_false]
    exact ⟨_, Nat.min_le_right _ _, rfl⟩
theorem canon_nn {r : Nat} (h : r ≤ 9218868437227405312) : canonB r = r := by
  have mr : mg r = r := mg_of_lt (by omega)
  unfold canonB
  rw [mr, if_neg (by unfold isN; rw [mr]; simp; omega)]
  split <;> omega
/-- a float that isn't below nothing, as it is read -/
theorem read_nn {x : Nat} (h : x ≤ 9218868437227405312) : double.read x = .infinity false ∨ ∃ m p, double.read x = .number false m p := by
  have mx : mg x = x := mg_of_lt (by omega)
  by_cases c : x = 9218868437227405312
  · subst c
    exact .inl (by decide +kernel)
  · right
    obtain ⟨m, a, h1, -⟩ := read_fin double x (by show mg x < 9218868437227405312; omega)
    have hs : sg double x = false := by
      rw [sg_d x (by omega)]
      exact ng_of_lt (by omega)
    rw [hs] at h1
    exact ⟨m, _, h1⟩
theorem dv_nn {x y : Nat} (hx : x ≤ 9218868437227405312) (hy : y ≤ 9218868437227405312) : dvB x y = quiet ∨ dvB x y ≤ 9218868437227405312 := by
  have key : double.div x y = none ∨ ∃ r, r ≤ 9218868437227405312 ∧ double.div x y = some r := by
    show ((double.read x).quotient 54 (double.read y)).map double.write = none ∨ ∃ r, r ≤ 9218868437227405312 ∧ ((double.read x).quotient 54 (double.read y)).map double.write = some r
    rcases read_nn hx with e1 | ⟨m, p, e1⟩ <;> rcases read_nn hy with e2 | ⟨n, q, e2⟩ <;> rw [e1, e2] <;> unfold Datum.quotient <;> dsimp only
    · exact .inl rfl
    · exact .inr ⟨9218868437227405312, Nat.le_refl _, by decide +kernel⟩
    · obtain ⟨r, r1, r2⟩ := near_le 0 0
      exact .inr ⟨r, r1, by show some (double.nearest false 0 0) = _; rw [r2]⟩
    · by_cases hn : n = 0
      · rw [if_pos hn]
        by_cases hm : m = 0
        · rw [if_pos hm]; exact .inl rfl
        · rw [if_neg hm]; exact .inr ⟨9218868437227405312, Nat.le_refl _, by decide +kernel⟩
      · rw [if_neg hn]
        obtain ⟨r, r1, r2⟩ := near_le (2 * (m <<< (54 + n.log2 - m.log2) / n) + (m <<< (54 + n.log2 - m.log2) % n != 0).toNat) (p - q - ((54 + n.log2 - m.log2 : Nat) : Int) - 1)
        exact .inr ⟨r, r1, by show some (double.nearest false _ _) = _; rw [← r2]⟩
  rcases key with h | ⟨r, r1, h⟩
  · exact .inl (dvB_none h)
  · rw [dvB_some h, canon_nn r1]
    exact .inr r1
theorem ml_nn {x y : Nat} (hx : x ≤ 9218868437227405312) (hy : y ≤ 9218868437227405312) (x0 : 0 < x) (y0 : 0 < y) : mlB x y ≤ 9218868437227405312 := by
  have mx : mg x = x := mg_of_lt (by omega)
  have my : mg y = y := mg_of_lt (by omega)
  have nx : ng x = false := ng_of_lt (by omega)
  have ny : ng y = false := ng_of_lt (by omega)
  have hi : infW (false ^^ false) = 9218868437227405312 := by decide
  by_cases cx : x = 9218868437227405312
  · by_cases cy : y = 9218868437227405312
    · have e := mul_ii x y (by omega) (by omega) (by omega) (by omega)
      rw [mlB_some e, nx, ny, hi]
      exact Nat.le_refl _
    · have e := mul_if x y (by omega) (by omega) (by omega) (by omega)
      rw [if_neg (by omega)] at e
      rw [mlB_some e, nx, ny, hi]
      exact Nat.le_refl _
  · by_cases cy : y = 9218868437227405312
    · have e := mul_fi x y (by omega) (by omega) (by omega) (by omega)
      rw [if_neg (by omega)] at e
      rw [mlB_some e, nx, ny, hi]
      exact Nat.le_refl _
    · rw [ml_word (by omega) (by omega)]
      exact Nat.min_le_right _ _
/-- Leer above nothing: a NaN, or not below nothing -/
theorem leer_nn {a b : Nat} (ha : a ≤ 9218868437227405312) (hb : b ≤ 9218868437227405312) (a0 : 0 < a) (b0 : 0 < b) : leer a b = quiet ∨ leer a b ≤ 9218868437227405312 := by
  have d := d2_facts ha
  exact dv_nn (ml_nn d.1 hb (by omega) b0) (plB_nn ha hb).1
end Go.Proofs.Ytgbaaafikphafaa
