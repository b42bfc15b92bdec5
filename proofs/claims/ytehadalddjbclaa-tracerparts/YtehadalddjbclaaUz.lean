/-
  A digit of a long division, guessed and mended (layer 14, no program).
-/
import Derived.Test.YtehadalddjbclaaUa
namespace Go.Proofs.Ytehadalddjbclaa.Sh
/-- the guess so far -/
def DI (y yn1 u32 U q rh : Int) : Prop := q * yn1 + rh = u32 ∧ U / y ≤ q ∧ 0 ≤ rh ∧ 0 ≤ q
section
variable {y yn1 yn0 u32 u1 U q rh : Int}
theorem DI.start (hy : y = yn1 * 4294967296 + yn0) (h0 : 0 ≤ yn0) (h1 : 0 < yn1) (hu : U = u32 * 4294967296 + u1) (hu1 : 0 ≤ u1 ∧ u1 < 4294967296) (hu0 : 0 ≤ u32) : DI y yn1 u32 U (u32 / yn1) (u32 - u32 / yn1 * yn1) := by
  have d := div_two (a := u32) h1
  rw [Int.mul_comm] at d
  have q0 : 0 ≤ u32 / yn1 := Int.ediv_nonneg hu0 (by omega)
  refine ⟨by omega, ?_, by omega, q0⟩
  generalize u32 / yn1 = k at *
  have hy0 : 0 < y := by omega
  refine Int.le_of_lt_add_one (Int.ediv_lt_of_lt_mul hy0 ?_)
  have e1 : (k + 1) * y = (k * yn1 + yn1) * 4294967296 + (k + 1) * yn0 := by
    rw [hy, Int.mul_add, ← Int.mul_assoc, Int.add_mul k 1 yn1, Int.one_mul]
  have e2 : 0 ≤ (k + 1) * yn0 := Int.mul_nonneg (by omega) h0
  rw [e1]
  have e3 : u32 + 1 ≤ k * yn1 + yn1 := by omega
  omega
/-- the test against the whole -/
theorem DI.test (hy : y = yn1 * 4294967296 + yn0) (hu : U = u32 * 4294967296 + u1) (h : DI y yn1 u32 U q rh) : (4294967296 * rh + u1 < q * yn0 ↔ U < q * y) := by
  have e : q * y = q * yn1 * 4294967296 + q * yn0 := by rw [hy, Int.mul_add, ← Int.mul_assoc]
  have h1 := h.1
  rw [e, hu]
  constructor <;> intro k <;> omega
theorem DI.small (hy0 : 0 < y) (hu : U = u32 * 4294967296 + u1) (hu1 : 0 ≤ u1 ∧ u1 < 4294967296) (hl : u32 < y) : U / y < 4294967296 := by
  refine Int.ediv_lt_of_lt_mul hy0 ?_
  omega
theorem DI.next (hy : y = yn1 * 4294967296 + yn0) (hy0 : 0 < y) (hu : U = u32 * 4294967296 + u1) (hu1 : 0 ≤ u1 ∧ u1 < 4294967296) (hl : u32 < y) (hU : 0 ≤ U) (h1 : 0 < yn1) (h : DI y yn1 u32 U q rh) (c : 4294967296 ≤ q ∨ 4294967296 * rh + u1 < q * yn0) : DI y yn1 u32 U (q - 1) (rh + yn1) := by
  have lt : U / y < q := by
    rcases c with c | c
    · have := DI.small hy0 hu hu1 hl; omega
    · have k := (DI.test hy hu h).1 c
      exact Int.ediv_lt_of_lt_mul hy0 k
  have p := Int.ediv_nonneg hU (show 0 ≤ y by omega)
  obtain ⟨a, b, r, s⟩ := h
  refine ⟨?_, by omega, by omega, by omega⟩
  rw [Int.sub_mul, Int.one_mul]
  omega
theorem DI.done (hy : y = yn1 * 4294967296 + yn0) (hy0 : 0 < y) (hu : U = u32 * 4294967296 + u1) (h : DI y yn1 u32 U q rh) (c : ¬ 4294967296 * rh + u1 < q * yn0) : q = U / y := by
  have k : q * y ≤ U := by
    have := (DI.test hy hu h)
    rcases Int.lt_or_le U (q * y) with l | l
    · exact absurd (this.2 l) c
    · exact l
  have g := h.2.1
  have l := (Int.le_ediv_iff_mul_le hy0).2 k
  omega
/-- where the rest is great the test would not strike -/
theorem DI.great (hy : y = yn1 * 4294967296 + yn0) (h0 : 0 ≤ yn0 ∧ yn0 < 4294967296) (h1 : 0 < yn1) (hu1 : 0 ≤ u1) (hl : u32 < y) (h : DI y yn1 u32 U q rh) (g : 4294967296 ≤ rh) : q < 4294967296 ∧ ¬ 4294967296 * rh + u1 < q * yn0 := by
  obtain ⟨a, b, r, s⟩ := h
  have lq : q < 4294967296 := by
    have k : yn1 * q < yn1 * 4294967296 := by
      have : yn1 * q = q * yn1 := Int.mul_comm _ _
      omega
    exact Int.lt_of_mul_lt_mul_left k (by omega)
  refine ⟨lq, fun c => ?_⟩
  have m : q * yn0 ≤ 4294967295 * 4294967295 := Int.mul_le_mul (by omega) (by omega) h0.1 (by omega)
  have e : (4294967295 : Int) * 4294967295 = 18446744065119617025 := by decide
  omega
end
end Go.Proofs.Ytehadalddjbclaa.Sh
