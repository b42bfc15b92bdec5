/-
  Parts, and outs cut to what there is: by plain whole numbers (no program).
-/
import Derived.WalkKit
namespace Go.Proofs.Ythcgbjkbnbeobaa.Sh
/-- x * y / z, rounded down, within 63 bits -/
def part (x y z : Int) : Int := if x < 0 ∨ y < 0 ∨ z ≤ 0 then 0 else if 9223372036854775807 < x * y / z then 9223372036854775807 else x * y / z
theorem part_in (x y z : Int) : 0 ≤ part x y z ∧ part x y z ≤ 9223372036854775807 := by
  unfold part
  split
  · omega
  · rename_i h
    have q : 0 ≤ x * y / z := Int.ediv_nonneg (Int.mul_nonneg (by omega) (by omega)) (by omega)
    split <;> omega
theorem div_le_self' {x y z : Int} (hx : 0 ≤ x) (hz : 0 < z) (h : y ≤ z) : x * y / z ≤ x := by
  have h1 : x * y ≤ x * z := Int.mul_le_mul_of_nonneg_left h hx
  exact Int.ediv_le_of_le_mul hz h1
/-- where the second is at most the third -/
theorem part_le {x y z : Int} (hx : 0 ≤ x) (hx2 : x ≤ 9223372036854775807) (hy : 0 ≤ y) (hz : 0 < z) (h : y ≤ z) : part x y z = x * y / z ∧ 0 ≤ part x y z ∧ part x y z ≤ x := by
  have l := div_le_self' hx hz h
  have n : ¬ (x < 0 ∨ y < 0 ∨ z ≤ 0) := by omega
  have n2 : ¬ 9223372036854775807 < x * y / z := by omega
  have e : part x y z = x * y / z := by unfold part; rw [if_neg n, if_neg n2]
  exact ⟨e, by rw [e]; exact Int.ediv_nonneg (Int.mul_nonneg hx hy) (by omega), by rw [e]; exact l⟩
/-- a quotient against its parts -/
theorem div_two {a z : Int} (hz : 0 < z) : z * (a / z) ≤ a ∧ a < z * (a / z) + z := by
  have h1 := Int.mul_ediv_add_emod a z
  have h2 := Int.emod_nonneg a (show z ≠ 0 by omega)
  have h3 := Int.emod_lt_of_pos a hz
  constructor <;> omega
/-- all of them together -/
def sumN (f : Nat → Int) : Nat → Int
  | 0 => 0
  | n + 1 => sumN f n + f n
theorem sumN_congr {f g : Nat → Int} : ∀ {n : Nat}, (∀ i, i < n → f i = g i) → sumN f n = sumN g n
  | 0, _ => rfl
  | n + 1, h => by
    show sumN f n + f n = sumN g n + g n
    rw [sumN_congr (n := n) (fun i hi => h i (by omega)), h n (by omega)]
theorem sumN_le {f g : Nat → Int} : ∀ {n : Nat}, (∀ i, i < n → f i ≤ g i) → sumN f n ≤ sumN g n
  | 0, _ => by show (0 : Int) ≤ 0; omega
  | n + 1, h => by
    show sumN f n + f n ≤ sumN g n + g n
    have a := sumN_le (n := n) (fun i hi => h i (by omega))
    have b := h n (by omega)
    omega
theorem sumN_nn {f : Nat → Int} : ∀ {n : Nat}, (∀ i, i < n → 0 ≤ f i) → 0 ≤ sumN f n
  | 0, _ => by show (0 : Int) ≤ 0; omega
  | n + 1, h => by
    show 0 ≤ sumN f n + f n
    have a := sumN_nn (n := n) (fun i hi => h i (by omega))
    have b := h n (by omega)
    omega
theorem sumN_mono {f : Nat → Int} {n : Nat} (h : ∀ i, i < n → 0 ≤ f i) : ∀ {m : Nat}, m ≤ n → sumN f m ≤ sumN f n := by
  intro m hm
  induction n with
  | zero => obtain rfl : m = 0 := by omega
            omega
  | succ n ih =>
    by_cases e : m = n + 1
    · subst e; omega
    · have a := ih (fun i hi => h i (by omega)) (by omega)
      have b := h n (by omega)
      show sumN f m ≤ sumN f n + f n
      omega
/-- of all parts together, the whole being S: bounds -/
theorem parts_two {f : Nat → Int} {W S : Int} (hS : 0 < S) : ∀ n : Nat, S * sumN (fun i => f i * W / S) n ≤ sumN f n * W ∧ sumN f n * W ≤ S * sumN (fun i => f i * W / S) n + n * (S - 1)
  | 0 => by
    show S * 0 ≤ 0 * W ∧ 0 * W ≤ S * 0 + ((0 : Nat) : Int) * (S - 1)
    simp
  | n + 1 => by
    obtain ⟨h1, h2⟩ := parts_two (f := f) (W := W) hS n
    obtain ⟨q1, q2⟩ := div_two (a := f n * W) hS
    show S * (sumN (fun i => f i * W / S) n + f n * W / S) ≤ (sumN f n + f n) * W ∧ (sumN f n + f n) * W ≤ S * (sumN (fun i => f i * W / S) n + f n * W / S) + ((n + 1 : Nat) : Int) * (S - 1)
    rw [Int.mul_add, Int.add_mul]
    have e : ((n + 1 : Nat) : Int) * (S - 1) = n * (S - 1) + (S - 1) := by
      rw [Int.natCast_add, Int.add_mul]
      omega
    rw [e]
    constructor <;> omega
/-- one out, cut -/
def cut1 (W S x : Int) : Int := if W < S then part x W S else x
theorem cut1_in {W S x : Int} (hW : 0 ≤ W) (hx : 0 ≤ x) (hx2 : x ≤ 9223372036854775807) : 0 ≤ cut1 W S x ∧ cut1 W S x ≤ x := by
  unfold cut1
  split
  · rename_i h
    exact (part_le hx hx2 hW (by omega) (by omega)).2
  · omega
theorem cut1_zero {W S : Int} (hW : 0 ≤ W) : cut1 W S 0 = 0 := by
  have := cut1_in (S := S) hW (Int.le_refl 0) (by omega)
  omega
/-- together they are at most the water, and where they were cut more than the water less their number -/
theorem cut_sum {f : Nat → Int} {W : Int} {n : Nat} (hW : 0 ≤ W) (hf : ∀ i, i < n → 0 ≤ f i) (hS : sumN f n ≤ 9223372036854775807) :
    (sumN f n ≤ W → sumN (fun i => cut1 W (sumN f n) (f i)) n = sumN f n) ∧ (W < sumN f n → sumN (fun i => cut1 W (sumN f n) (f i)) n ≤ W ∧ W - n < sumN (fun i => cut1 W (sumN f n) (f i)) n) := by
  constructor
  · intro h
    refine sumN_congr (fun i _ => ?_)
    unfold cut1
    rw [if_neg (by omega)]
  · intro h
    have e : sumN (fun i => cut1 W (sumN f n) (f i)) n = sumN (fun i => f i * W / sumN f n) n := by
      refine sumN_congr (fun i hi => ?_)
      have m := sumN_mono hf (m := i + 1) (by omega)
      have m0 := sumN_nn (f := f) (n := i) (fun j hj => hf j (by omega))
      have m1 : sumN f (i + 1) = sumN f i + f i := rfl
      have hi0 := hf i hi
      unfold cut1
      rw [if_pos h]
      exact (part_le hi0 (by omega) hW (by omega) (by omega)).1
    rw [e]
    have hn : 0 < n := by
      rcases Nat.eq_zero_or_pos n with h0 | h0
      · subst h0
        have z : sumN f 0 = 0 := rfl
        omega
      · exact h0
    obtain ⟨h1, h2⟩ := parts_two (f := f) (W := W) (S := sumN f n) (by omega) n
    generalize sumN (fun i => f i * W / sumN f n) n = T at *
    generalize sumN f n = S at *
    constructor
    · exact Int.le_of_mul_le_mul_left h1 (by omega)
    · have h3 : (n : Int) * (S - 1) < n * S := Int.mul_lt_mul_of_pos_left (by omega) (by omega)
      have h4 : S * (W - n) < S * T := by
        rw [Int.mul_sub, Int.mul_comm S n]
        omega
      exact Int.lt_of_mul_lt_mul_left h4 (by omega)
end Go.Proofs.Ythcgbjkbnbeobaa.Sh
