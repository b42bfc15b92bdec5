/-
  What goes with the water: by plain whole numbers (layer 17, no program).
-/
import Derived.Test.YtehadalddjbclaaUa
namespace Go.Proofs.Ytehadalddjbclaa
namespace Tr
open Sh
/-- what the k-th out takes -/
def tkA (h w : Int) (f : Nat → Int) (k : Nat) : Int := Sh.part h (sumN f (k + 1)) w - Sh.part h (sumN f k) w
/-- whether a cell's outs can be -/
def okA (w : Int) (f : Nat → Int) (n : Nat) : Prop := (∀ i, i < n → 0 ≤ f i) ∧ sumN f n ≤ w
theorem part_0 (h w : Int) : Sh.part h 0 w = 0 := by
  unfold Sh.part
  split
  · rfl
  · rw [Int.mul_zero, Int.zero_ediv]
    rfl
theorem part_z (y w : Int) : Sh.part 0 y w = 0 := by
  unfold Sh.part
  split
  · rfl
  · rw [Int.zero_mul, Int.zero_ediv]
    rfl
/-- of a cell without water all take nothing -/
theorem tk_dry (h : Int) (f : Nat → Int) (k : Nat) : tkA h 0 f k = 0 := by
  have e : ∀ y, Sh.part h y 0 = 0 := fun y => by unfold Sh.part; rw [if_pos (by omega)]
  unfold tkA
  rw [e, e]
  rfl
section
variable {h w : Int} {f : Nat → Int} {n : Nat}
theorem okA.sum (o : okA w f n) {k : Nat} (hk : k ≤ n) : 0 ≤ sumN f k ∧ sumN f k ≤ w := by
  have a := sumN_mono o.1 hk
  have b := sumN_nn (f := f) (n := k) (fun i hi => o.1 i (by omega))
  have := o.2
  exact ⟨b, by omega⟩
/-- all together take the part of all -/
theorem tk_sum (h w : Int) (f : Nat → Int) : ∀ n, sumN (tkA h w f) n = Sh.part h (sumN f n) w
  | 0 => (part_0 h w).symm
  | n + 1 => by
    show sumN (tkA h w f) n + tkA h w f n = _
    rw [tk_sum h w f n]
    unfold tkA
    omega
/-- each takes its own part or one more -/
theorem tk_own (h0 : 0 ≤ h) (h1 : h ≤ 9223372036854775807) (o : okA w f n) {k : Nat} (hk : k < n) : tkA h w f k = Sh.part h (f k) w ∨ tkA h w f k = Sh.part h (f k) w + 1 := by
  obtain ⟨s0, s1⟩ := o.sum (k := k) (by omega)
  obtain ⟨t0, t1⟩ := o.sum (k := k + 1) (by omega)
  have fk := o.1 k hk
  have st : sumN f (k + 1) = sumN f k + f k := rfl
  rcases Int.lt_or_le 0 w with hw | hw
  · have a := (part_le h0 h1 s0 hw s1).1
    have b := (part_le h0 h1 t0 hw t1).1
    have c := (part_le h0 h1 fk hw (by omega)).1
    unfold tkA
    rw [a, b, c, st, Int.mul_add]
    have d1 := div_two (a := h * sumN f k) hw
    have d2 := div_two (a := h * f k) hw
    have d3 := div_two (a := h * sumN f k + h * f k) hw
    generalize h * sumN f k = x at *
    generalize h * f k = y at *
    generalize x / w = p at *
    generalize y / w = q at *
    generalize (x + y) / w = r at *
    have l1 : w * (p + q) ≤ w * r + (w - 1) := by rw [Int.mul_add]; omega
    have l2 : w * r ≤ w * (p + q) + (2 * w - 2) := by rw [Int.mul_add]; omega
    have m1 : p + q ≤ r := by
      rcases Int.lt_or_le r (p + q) with g | g
      · have : w * (r + 1) ≤ w * (p + q) := Int.mul_le_mul_of_nonneg_left (by omega) (by omega)
        rw [Int.mul_add] at this
        omega
      · exact g
    have m2 : r ≤ p + q + 1 := by
      rcases Int.lt_or_le (p + q + 1) r with g | g
      · have : w * (p + q + 2) ≤ w * r := Int.mul_le_mul_of_nonneg_left (by omega) (by omega)
        rw [Int.mul_add] at this
        omega
      · exact g
    omega
  · left
    have e : w = 0 := by omega
    have g : f k = 0 := by omega
    rw [e, g, tk_dry, part_0]
theorem tk_nn (h0 : 0 ≤ h) (h1 : h ≤ 9223372036854775807) (o : okA w f n) {k : Nat} (hk : k < n) : 0 ≤ tkA h w f k := by
  have a := part_in h (f k) w
  rcases tk_own h0 h1 o hk with e | e <;> omega
/-- nothing goes, nothing is taken -/
theorem tk_zero {k : Nat} (e : f k = 0) : tkA h w f k = 0 := by
  have st : sumN f (k + 1) = sumN f k + f k := rfl
  unfold tkA
  rw [st, e, Int.add_zero]
  omega
theorem tk_none (w : Int) (f : Nat → Int) (k : Nat) : tkA 0 w f k = 0 := by
  unfold tkA
  rw [part_z, part_z]
  rfl
/-- at most what there is; all of it where all the water goes -/
theorem tk_most (h0 : 0 ≤ h) (h1 : h ≤ 9223372036854775807) (o : okA w f n) : sumN (tkA h w f) n ≤ h ∧ (0 < w → sumN f n = w → sumN (tkA h w f) n = h) := by
  obtain ⟨s0, s1⟩ := o.sum (k := n) (by omega)
  rw [tk_sum]
  rcases Int.lt_or_le 0 w with hw | hw
  · obtain ⟨a, b, c⟩ := part_le h0 h1 s0 hw s1
    refine ⟨c, fun _ e => ?_⟩
    rw [a, e, Int.mul_ediv_cancel _ (by omega)]
  · have e : Sh.part h (sumN f n) w = 0 := by unfold Sh.part; rw [if_pos (by omega)]
    rw [e]
    exact ⟨h0, fun h => by omega⟩
/-- as much tracer as water: each takes as much as it is -/
theorem tk_same (w1 : w ≤ 9223372036854775807) (o : okA w f n) {k : Nat} (hk : k < n) : tkA w w f k = f k := by
  obtain ⟨s0, s1⟩ := o.sum (k := k) (by omega)
  obtain ⟨t0, t1⟩ := o.sum (k := k + 1) (by omega)
  have fk := o.1 k hk
  have st : sumN f (k + 1) = sumN f k + f k := rfl
  rcases Int.lt_or_le 0 w with hw | hw
  · have a := (part_le (by omega) w1 s0 hw s1).1
    have b := (part_le (by omega) w1 t0 hw t1).1
    unfold tkA
    rw [a, b, Int.mul_ediv_cancel_left _ (by omega), Int.mul_ediv_cancel_left _ (by omega), st]
    omega
  · have e : w = 0 := by omega
    have g : f k = 0 := by omega
    rw [e, g, tk_dry]
theorem tk_in (h0 : 0 ≤ h) (h1 : h ≤ 9223372036854775807) (o : okA w f n) {k : Nat} (hk : k < n) : tkA h w f k ≤ h := by
  have a := tk_most h0 h1 o
  have c := sumN_mono (f := tkA h w f) (n := n) (fun i hi => tk_nn h0 h1 o hi) (m := k + 1) (by omega)
  have d := sumN_nn (f := tkA h w f) (n := k) (fun i hi => tk_nn h0 h1 o (by omega))
  have st : sumN (tkA h w f) (k + 1) = sumN (tkA h w f) k + tkA h w f k := rfl
  omega
end
end Tr
end Go.Proofs.Ytehadalddjbclaa
