/-
  What the rounding of a sum takes away is a float, by plain numbers (no program).
-/
import Derived.Test.YtgbaaafikphafaaPm
import Derived.Test.YtgbaaafikphafaaFlE
namespace Go.Proofs.Ytgbaaafikphafaa
open Tf

/-- no rung lies nearer -/
theorem rung_nearest (p V t : Nat) (hp : 1 ≤ p) : ((V : Int) - (mag p (rung p 0 V) : Int)).natAbs ≤ ((V : Int) - (mag p t : Int)).natAbs := by
  obtain ⟨r, a, b⟩ := floor_ex p 0 V
  have e := rung_between p 0 r V hp a b
  rw [Nat.pow_zero, Nat.mul_one] at a b e
  rw [e]
  have ht : mag p t ≤ mag p r ∨ mag p (r + 1) ≤ mag p t := by
    by_cases c : t ≤ r
    · exact .inl (mag_le.2 c)
    · exact .inr (mag_le.2 (by omega))
  generalize mag p t = T at *
  split
  · generalize mag p (r + 1) = M1 at *
    generalize mag p r = M0 at *
    omega
  · generalize mag p (r + 1) = M1 at *
    generalize mag p r = M0 at *
    omega

/-- a finite double in units: a number of at most 53 bits times a power of two -/
theorem sv_form (x : Nat) : ∃ (A : Int) (k : Nat), A.natAbs ≤ 2 ^ 53 ∧ sv x = A * (2 ^ k : Nat) := by
  have h : ∃ m k : Nat, m ≤ 2 ^ 53 ∧ mv (mg x) = m * 2 ^ k := by
    unfold mv mag
    by_cases c : mg x < 2 ^ 52
    · exact ⟨mg x, 0, by omega, by rw [if_pos c]; omega⟩
    · refine ⟨2 ^ 52 + mg x % 2 ^ 52, mg x / 2 ^ 52 - 1, by omega, by rw [if_neg c]⟩
  obtain ⟨m, k, h1, h2⟩ := h
  unfold sv
  rw [h2, Int.natCast_mul]
  cases ng x
  · exact ⟨m, k, by omega, by simp⟩
  · exact ⟨-(m : Int), k, by omega, by simp [Int.neg_mul]⟩

/-- the rounded number, in units, where it is finite -/
theorem sv_rn (z : Bool) (v : Int) (h : mg (rn z v) < 9218868437227405312) : sv (rn z v) = if v < 0 then -(mv (rung 52 0 v.natAbs) : Int) else (mv (rung 52 0 v.natAbs) : Int) := by
  have hm := rn_mg z v
  have hr : rung 52 0 v.natAbs < 9218868437227405312 := by
    rw [hm] at h
    generalize rung 52 0 v.natAbs = r at *
    omega
  have hm' : mg (rn z v) = rung 52 0 v.natAbs := by rw [hm]; exact Nat.min_eq_left (by omega)
  by_cases c0 : v = 0
  · subst c0
    have e : rung 52 0 (Int.natAbs 0) = 0 := by rw [Int.natAbs_zero]; exact rung_zero
    unfold sv
    rw [hm', e, mv_zero]
    split <;> simp
  · unfold sv
    rw [hm']
    have e : rn z v = if decide (v < 0) then 9223372036854775808 + rung 52 0 v.natAbs else rung 52 0 v.natAbs := by
      unfold rn; rw [if_neg c0, Nat.min_eq_left (by omega)]
    by_cases c : v < 0
    · have e' : ng (rn z v) = true := by rw [e, decide_eq_true c, if_pos rfl]; exact ng_of_ge (by omega)
      rw [e', if_pos rfl, if_pos c]
    · have e' : ng (rn z v) = false := by rw [e, decide_eq_false c, if_neg (by decide)]; exact ng_of_lt (by omega)
      rw [e', if_neg (by decide), if_neg c]

/-- no double lies nearer to a number of units than the one that it is rounded to -/
theorem rn_nearest (z : Bool) (v : Int) (h : mg (rn z v) < 9218868437227405312) (y : Nat) : (v - sv (rn z v)).natAbs ≤ (v - sv y).natAbs := by
  have n := rung_nearest 52 v.natAbs
  have n1 := n (mg y) (by omega)
  have n0 := n 0 (by omega)
  rw [mag_zero] at n0
  rw [sv_rn z v h]
  unfold sv mv
  generalize mag 52 (rung 52 0 v.natAbs) = S at *
  generalize mag 52 (mg y) = T at *
  by_cases c : v < 0
  · rw [if_pos c]
    split <;> omega
  · rw [if_neg c]
    split <;> omega

/-- THE ERROR OF A ROUNDED SUM IS A DOUBLE. -/
theorem sum_error (a b : Nat) (z : Bool) (h : mg (rn z (sv a + sv b)) < 9218868437227405312) : ∃ r, mv r = (sv a + sv b - sv (rn z (sv a + sv b))).natAbs := by
  have na := rn_nearest z (sv a + sv b) h a
  have nb := rn_nearest z (sv a + sv b) h b
  obtain ⟨A, i, hA, eA⟩ := sv_form a
  obtain ⟨B, j, hB, eB⟩ := sv_form b
  obtain ⟨C, l, hC, eC⟩ := sv_form (rn z (sv a + sv b))
  generalize hs : sv (rn z (sv a + sv b)) = S at *
  have e1 : (sv a + sv b - sv a).natAbs = (sv b).natAbs := by omega
  have e2 : (sv a + sv b - sv b).natAbs = (sv a).natAbs := by omega
  rw [e1] at na
  rw [e2] at nb
  -- the lesser of the two powers
  obtain ⟨k, hk1, hk2, hk⟩ : ∃ k, k ≤ i ∧ k ≤ j ∧ (k = i ∨ k = j) := ⟨min i j, Nat.min_le_left _ _, Nat.min_le_right _ _, by omega⟩
  have mul : ∀ (X : Int) (t : Nat), k ≤ t → ∃ Y : Int, X * (2 ^ t : Nat) = Y * (2 ^ k : Nat) := by
    intro X t ht
    refine ⟨X * (2 ^ (t - k) : Nat), ?_⟩
    rw [Int.mul_assoc, ← Int.natCast_mul, ← Nat.pow_add, Nat.sub_add_cancel ht]
  obtain ⟨A', eA'⟩ := mul A i hk1
  obtain ⟨B', eB'⟩ := mul B j hk2
  have hp := pow_pos k
  have hsum : sv a + sv b = (A' + B') * (2 ^ k : Nat) := by rw [eA, eB, eA', eB', Int.add_mul]
  by_cases c : (A' + B').natAbs ≤ 2 ^ 53
  · -- the sum itself is a double
    obtain ⟨r, hr⟩ := rep 52 (A' + B').natAbs k c
    have hv : mv r = (sv a + sv b).natAbs := by
      rw [hsum, Int.natAbs_mul, Int.natAbs_natCast]; exact hr
    have hS := sv_rn z (sv a + sv b) h
    rw [hs, ← hv, rung_mv, hv] at hS
    refine ⟨0, ?_⟩
    rw [mv_zero, hS]
    split <;> omega
  · -- else the rounded sum is a multiple of the same power
    have hl : k ≤ l ∨ S = 0 ∨ ∃ D : Int, S = D * (2 ^ k : Nat) := by
      by_cases c2 : k ≤ l
      · exact .inl c2
      · right; right
        -- the rung of a number of at least 2 ^ (53 + k) units lies so high
        have hV : 2 ^ (53 + k) ≤ (sv a + sv b).natAbs := by
          rw [hsum, Int.natAbs_mul, Int.natAbs_natCast, Nat.pow_add]
          exact Nat.mul_le_mul_right _ (by omega)
        have hS := sv_rn z (sv a + sv b) h
        rw [hs] at hS
        obtain ⟨t, ht⟩ := rep 52 1 (53 + k) (by omega)
        rw [Nat.one_mul] at ht
        have hr : t ≤ rung 52 0 (sv a + sv b).natAbs := rung_ge (by omega) (by rw [ht, Nat.pow_zero, Nat.mul_one]; exact hV)
        generalize rung 52 0 (sv a + sv b).natAbs = r at *
        have hmr : 2 ^ (53 + k) ≤ mag 52 r := by rw [← ht]; exact mag_le.2 hr
        have key : ∃ D : Nat, mag 52 r = D * 2 ^ k := by
          unfold mag at hmr ⊢
          by_cases c3 : r < 2 ^ 52
          · exfalso
            rw [if_pos c3] at hmr
            have : 2 ^ 53 * 1 ≤ 2 ^ 53 * 2 ^ k := Nat.mul_le_mul_left _ hp
            rw [Nat.pow_add] at hmr
            omega
          · rw [if_neg c3] at hmr ⊢
            have hlt : (2 ^ 52 + r % 2 ^ 52) < 2 ^ 53 := by have := Nat.mod_lt r (pow_pos 52); omega
            have hk3 : k ≤ r / 2 ^ 52 - 1 := by
              by_cases c4 : k ≤ r / 2 ^ 52 - 1
              · exact c4
              · exfalso
                have h5 : 2 ^ (r / 2 ^ 52 - 1) ≤ 2 ^ k := Nat.pow_le_pow_right (by omega) (by omega)
                have h6 : (2 ^ 52 + r % 2 ^ 52) * 2 ^ (r / 2 ^ 52 - 1) < 2 ^ 53 * 2 ^ k := Nat.lt_of_le_of_lt (Nat.mul_le_mul_left _ h5) ((Nat.mul_lt_mul_right hp).2 hlt)
                rw [← Nat.pow_add] at h6
                omega
            refine ⟨(2 ^ 52 + r % 2 ^ 52) * 2 ^ (r / 2 ^ 52 - 1 - k), ?_⟩
            rw [Nat.mul_assoc, ← Nat.pow_add, Nat.sub_add_cancel hk3]
        obtain ⟨D, hD⟩ := key
        have hS2 : S = if sv a + sv b < 0 then -((D * 2 ^ k : Nat) : Int) else ((D * 2 ^ k : Nat) : Int) := by
          rw [hS]; unfold mv; rw [hD]
        rw [hS2]
        split
        · exact ⟨-(D : Int), by rw [Int.natCast_mul, Int.neg_mul]⟩
        · exact ⟨(D : Int), by rw [Int.natCast_mul]⟩
    have hD : ∃ D : Int, S = D * (2 ^ k : Nat) := by
      rcases hl with c2 | c2 | c2
      · obtain ⟨D, e⟩ := mul C l c2
        exact ⟨D, by rw [eC, e]⟩
      · exact ⟨0, by rw [c2]; simp⟩
      · exact c2
    obtain ⟨D, eD⟩ := hD
    have hE : sv a + sv b - S = (A' + B' - D) * (2 ^ k : Nat) := by rw [hsum, eD, ← Int.sub_mul]
    have hsmall : (sv a + sv b - S).natAbs ≤ 2 ^ 53 * 2 ^ k := by
      rcases hk with rfl | rfl
      · refine Nat.le_trans nb ?_
        rw [eA, Int.natAbs_mul, Int.natAbs_natCast]
        exact Nat.mul_le_mul_right _ hA
      · refine Nat.le_trans na ?_
        rw [eB, Int.natAbs_mul, Int.natAbs_natCast]
        exact Nat.mul_le_mul_right _ hB
    rw [hE, Int.natAbs_mul, Int.natAbs_natCast] at hsmall ⊢
    exact rep 52 _ k (Nat.le_of_mul_le_mul_right hsmall hp)
end Go.Proofs.Ytgbaaafikphafaa
