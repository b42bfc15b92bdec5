/-
  Nothing is lost in a row of whole numbers, by plain numbers (no program).
-/
import Derived.Test.YtcamlhpehnfnlabTq
namespace Go.Proofs.Ytcamlhpehnfnlab
open Tf

theorem int_round (N : Int) (h : N.natAbs < 9223372036854775808) : ∃ M : Int, rd (N * ((2 ^ K : Nat) : Int)) = M * ((2 ^ K : Nat) : Int) ∧ (N - M).natAbs ≤ 512 := by
  by_cases c : N.natAbs ≤ 2 ^ 53
  · refine ⟨N, rd_exact (isD_of _ N 0 K (by rw [Nat.pow_zero, show ((1 : Nat) : Int) = 1 from rfl, Int.mul_one]) c), ?_⟩
    rw [Int.sub_self]; decide
  · have h1 : 2 ^ N.natAbs.log2 ≤ N.natAbs := Nat.log2_self_le (by omega)
    have h2 : N.natAbs < 2 ^ (N.natAbs.log2 + 1) := Nat.lt_log2_self
    have h3 : 53 < N.natAbs.log2 + 1 := pow_lt_iff.1 (Nat.lt_trans (Nat.lt_of_not_le c) h2)
    have h4 : N.natAbs.log2 < 63 := pow_lt_iff.1 (Nat.lt_of_le_of_lt h1 (by omega))
    obtain ⟨g, hg⟩ : ∃ g, N.natAbs.log2 = 52 + g := ⟨N.natAbs.log2 - 52, by omega⟩
    rw [hg] at h1 h2 h4
    obtain ⟨D, d0, _, _, d3⟩ := rd_step2 0 K g (N * ((2 ^ K : Nat) : Int)) N (by rw [Nat.pow_zero, show ((1 : Nat) : Int) = 1 from rfl, Int.mul_one]) h1 (by rw [show 53 + g = 52 + g + 1 by omega]; omega)
    rw [Nat.pow_zero, show ((1 : Nat) : Int) = 1 from rfl, Int.mul_one] at d0
    refine ⟨D * ((2 ^ g : Nat) : Int), d0, ?_⟩
    have h5 : 2 ^ g ≤ 2 ^ 10 := Nat.pow_le_pow_right (by omega) (by omega)
    generalize 2 ^ g = G at *
    generalize D * (G : Int) = Y at *
    omega
theorem small_top (N : Int) (h : N.natAbs ≤ 18446744073709551616) : (N * ((2 ^ K : Nat) : Int)).natAbs < top := by
  have h3 : 18446744073709551616 * 2 ^ K < top := by decide +kernel
  rw [Int.natAbs_mul, Int.natAbs_natCast]
  exact Nat.lt_of_le_of_lt (Nat.mul_le_mul_right _ h) h3
theorem int_isD (N : Int) (h : N.natAbs ≤ 9007199254740992) : isD (N * ((2 ^ K : Nat) : Int)) :=
  isD_of _ N 0 K (by rw [Nat.pow_zero, show ((1 : Nat) : Int) = 1 from rfl, Int.mul_one]) (by omega)
theorem int_float (n : Int) (h : n.natAbs ≤ 9007199254740992) : mg (rn false (n * one)) < 9218868437227405312 ∧ sv (rn false (n * one)) = n * ((2 ^ K : Nat) : Int) := by
  rw [one_pow]
  exact rn_exact false _ (int_isD n h) (small_top n (by omega))

/-- a sum of floats that are whole numbers -/
theorem int_sum (a b : Nat) (A B : Int) (ha : a < 18446744073709551616) (hb : b < 18446744073709551616) (fa : mg a < 9218868437227405312) (fb : mg b < 9218868437227405312) (ea : sv a = A * ((2 ^ K : Nat) : Int)) (eb : sv b = B * ((2 ^ K : Nat) : Int)) (h : (A + B).natAbs < 9223372036854775808) :
    ∃ M : Int, (A + B - M).natAbs ≤ 512 ∧ mg (addB a b) < 9218868437227405312 ∧ sv (addB a b) = M * ((2 ^ K : Nat) : Int) ∧ mg (sumE a b) < 9218868437227405312 ∧ sv (sumE a b) = (A + B - M) * ((2 ^ K : Nat) : Int) := by
  obtain ⟨M, hM, hd⟩ := int_round (A + B) h
  have e : sv a + sv b = (A + B) * ((2 ^ K : Nat) : Int) := by rw [ea, eb, Int.add_mul]
  have e1 := addB_fin a b ha hb fa fb
  obtain ⟨f1, f2⟩ := rn_fin false (sv a + sv b) (by rw [e, hM]; exact small_top M (by omega))
  rw [← e1] at f1 f2
  rw [e, hM] at f2
  obtain ⟨f3, f4⟩ := sumE_sv a b ha hb f1
  refine ⟨M, hd, f1, f2, f3, ?_⟩
  rw [f4, e, f2, ← Int.sub_mul]

/-- what holds of the pair behind k numbers whose sum is S -/
structure Inv (k : Nat) (hi lo : Nat) (S : Int) : Prop where
  l1 : hi < 18446744073709551616
  l2 : lo < 18446744073709551616
  f1 : mg hi < 9218868437227405312
  f2 : mg lo < 9218868437227405312
  sum : ∃ H L : Int, sv hi = H * ((2 ^ K : Nat) : Int) ∧ sv lo = L * ((2 ^ K : Nat) : Int) ∧ H + L = S ∧ L.natAbs ≤ 512
  bound : S.natAbs ≤ k * 9007199254740992
theorem inv_zero : Inv 0 0 0 0 := by
  have e : sv 0 = 0 := by decide
  exact ⟨by decide, by decide, by decide, by decide, ⟨0, 0, by rw [e, Int.zero_mul], by rw [e, Int.zero_mul], rfl, by decide⟩, by decide⟩
theorem Inv.step {k hi lo : Nat} {S : Int} (h : Inv k hi lo S) (n : Int) (hn : n.natAbs < 9007199254740992) (hk : k < 1000) : Inv (k + 1) (addH hi lo (rn false (n * one))) (addL hi lo (rn false (n * one))) (S + n) := by
  obtain ⟨H, L, eH, eL, hs, hL⟩ := h.sum
  have hb := h.bound
  obtain ⟨fx, ex⟩ := int_float n (by omega)
  have hx := rn_lt false (n * one)
  generalize rn false (n * one) = x at *
  have hkb : k * 9007199254740992 ≤ 999 * 9007199254740992 := Nat.mul_le_mul_right _ (by omega)
  obtain ⟨M, m1, m2, m3, m4, m5⟩ := int_sum hi x H n h.l1 hx h.f1 fx eH ex (by omega)
  have la := addB_lt hi x h.l1 hx
  have le := sumE_lt hi x
  have ht := add_d (sumE hi x) lo le h.l2 m4 h.f2
  have et : sv (sumE hi x) + sv lo = (H + n - M + L) * ((2 ^ K : Nat) : Int) := by rw [m5, eL, ← Int.add_mul]
  rw [et] at ht
  obtain ⟨z, hz⟩ : ∃ z, (ng (sumE hi x) && ng lo) = z := ⟨_, rfl⟩
  rw [hz] at ht
  obtain ⟨ft, vt⟩ := rn_exact z ((H + n - M + L) * ((2 ^ K : Nat) : Int)) (int_isD _ (by omega)) (small_top _ (by omega))
  have lt := rn_lt z ((H + n - M + L) * ((2 ^ K : Nat) : Int))
  generalize rn z ((H + n - M + L) * ((2 ^ K : Nat) : Int)) = t at *
  have e1 : addH hi lo x = addB (addB hi x) t := by unfold addH; rw [ht]
  have e2 : addL hi lo x = sumE (addB hi x) t := by unfold addL; rw [ht]
  have e3 : M + (H + n - M + L) = S + n := by omega
  obtain ⟨M', p1, p2, p3, p4, p5⟩ := int_sum (addB hi x) t M (H + n - M + L) la lt m2 ft m3 vt (by rw [e3]; omega)
  rw [e3] at p1 p5
  rw [e1, e2]
  exact ⟨addB_lt _ _ la lt, sumE_lt _ _, p2, p4, ⟨M', S + n - M', p3, p5, by omega, p1⟩, by omega⟩
end Go.Proofs.Ytcamlhpehnfnlab
