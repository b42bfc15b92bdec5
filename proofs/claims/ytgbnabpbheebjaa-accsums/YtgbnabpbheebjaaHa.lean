/-
  Sums that stay, and sums of finite numbers, by plain numbers.
-/
import Derived.Test.YtgbnabpbheebjaaGz
namespace Go.Proofs.Ytgbnabpbheebjaa
open Go.RowKit Tf

theorem IsAcc.alloc {g : Nat} {S : AS} {w : World} (h : IsAcc g S w) (o : Obj) : IsAcc g S (w.alloc o) := by
  unfold IsAcc; rw [Below.heap_alloc _ _ _ (row_lt h)]; exact h
theorem IsAcc.below {g B : Nat} {S : AS} {w w' : World} (h : IsAcc g S w) (b : Below B w w') (hg : g < B) : IsAcc g S w' := by
  unfold IsAcc; rw [b.block g hg]; exact h
theorem rn_nonzero (v : Int) (h : v ≠ 0) : rn false v ≠ 0 := by
  intro e
  have h1 : 1 ≤ rung 52 0 v.natAbs := by
    have e1 : mag 52 1 = 1 := by decide
    exact rung_ge (by omega) (by rw [Nat.pow_zero, Nat.mul_one, e1]; omega)
  have h2 := rn_mg false v
  rw [e] at h2
  have : mg 0 = 0 := by decide
  rw [this] at h2
  generalize rung 52 0 v.natAbs = r at *
  omega
theorem sv_pos (x : Nat) (h : mg x ≠ 0) : sv x ≠ 0 := by
  have hm : 0 < mv (mg x) := by have := mv_lt (r := 0) (r' := mg x); rw [mv_zero] at this; omega
  unfold sv
  cases ng x <;> simp <;> omega
/-- a product of finite floats -/
theorem unitP_fin (x y : Nat) (fx : mg x < 9218868437227405312) (fy : mg y < 9218868437227405312) : ∃ b : Int, 0 ≤ b ∧ b ≤ 1 ∧ unitP x y = ⟨1, b, sv x * sv y, false, false, false⟩ := by
  have hx : isN x = false := by unfold isN; simp; omega
  have hy : isN y = false := by unfold isN; simp; omega
  have ix : infB x = false := by unfold infB; simp; omega
  have iy : infB y = false := by unfold infB; simp; omega
  have hz : ∀ a : Nat, zeroB a = true → sv a = 0 := fun a h => zero_sv a (by unfold zeroB at h; simpa using h)
  unfold unitP stepP
  rw [hx, hy, ix, iy]
  simp only [Bool.or_false, Bool.and_false, Bool.false_and, Bool.false_eq_true, if_false]
  by_cases h : (zeroB x || zeroB y) = true
  · have h0 : sv x * sv y = 0 := by
      rw [Bool.or_eq_true] at h
      rcases h with h | h
      · rw [hz x h, Int.zero_mul]
      · rw [hz y h, Int.mul_zero]
    rw [if_pos h, h0]
    by_cases c : (ng x != ng y) = true
    · rw [if_pos c]; exact ⟨1, by decide, by decide, rfl⟩
    · rw [if_neg c]; exact ⟨0, by decide, by decide, rfl⟩
  · rw [if_neg h]
    exact ⟨0, by decide, by decide, by apply AS.eq <;> simp [S0]⟩
end Go.Proofs.Ytgbnabpbheebjaa
