/-
  The reference's sum, by plain numbers (no program).
-/
import Derived.Test.YtflkbjcaajchjaaTj
namespace Go.Proofs.Ytflkbjcaajchjaa
open Go.RowKit Tf

/-- the whole number with its sign -/
def sm (x : Nat) : Int := if ng x then -(pm (mg x) : Int) else (pm (mg x) : Int)
theorem sv_sm (x : Nat) : sv x = sm x * ((2 ^ pk (mg x) : Nat) : Int) := by
  unfold sv sm
  rw [pm_pk, Int.natCast_mul]
  cases ng x
  · rfl
  · simp only [if_true, Int.neg_mul]
theorem sm_abs (x : Nat) : (sm x).natAbs < 9007199254740992 := by
  have := pm_lt (mg x)
  unfold sm; split <;> omega
theorem sh_sm (x : Nat) (n : Nat) : sh (pm (mg x)) n (ng x) = (sm x * ((2 ^ n : Nat) : Int)) % 18446744073709551616 := by
  unfold sh sm
  rw [Int.toNat_natCast]
  cases ng x
  · rfl
  · simp only [if_true, Int.neg_mul]
theorem wrap_x (t1 t2 t3 u1 u2 u3 X : Int) (h1 : t1 = u1 % 18446744073709551616) (h2 : t2 = u2 % 18446744073709551616) (h3 : t3 = u3 % 18446744073709551616) (e : u1 + u2 - u3 = X) (hX : X.natAbs ≤ 9007199254740992) :
    IntKind.i64.wrap (IntKind.u64.wrap (IntKind.u64.wrap (t1 + t2) - t3)) = X := by
  rw [IntKind.wrap_i64, u64w, u64w]
  subst h1 h2 h3
  omega
theorem pk_le (m m' : Nat) (h : m ≤ m') : pk m ≤ pk m' := Nat.sub_le_sub_right (Nat.div_le_div_right h) 1
theorem pk_top (m : Nat) (h : m < 9218868437227405312) : pk m ≤ 2045 := by unfold pk; omega
theorem sm_div (x low : Nat) (h : low ≤ pk (mg x)) : sv x = sm x * ((2 ^ (pk (mg x) - low) : Nat) : Int) * ((2 ^ low : Nat) : Int) := by
  rw [sv_sm]; exact mul_up _ h

theorem small_mul (Z : Int) (P : Nat) (k : Nat) (h : (Z * ((2 ^ k : Nat) : Int)).natAbs * P < 2 ^ k) (hP : 0 < P) : Z = 0 := by
  rw [Int.natAbs_mul, Int.natAbs_natCast] at h
  by_cases c : Z = 0
  · exact c
  · exfalso
    have h1 : 1 * 2 ^ k ≤ Z.natAbs * 2 ^ k := Nat.mul_le_mul_right _ (by omega)
    have h2 : Z.natAbs * 2 ^ k * 1 ≤ Z.natAbs * 2 ^ k * P := Nat.mul_le_mul_left _ hP
    omega

/-- what is far below the greater one is the error whole -/
theorem far_sum (a b : Nat) (h : 56 + pk (mg b) < pk (mg a)) : rd (sv a + sv b) = sv a := by
  have hm := pm_lt (mg b)
  have hB : (sv b).natAbs * 16 < 2 ^ pk (mg a) := by
    rw [sv_abs, pm_pk]
    have h1 : 2 ^ (57 + pk (mg b)) ≤ 2 ^ pk (mg a) := Nat.pow_le_pow_right (by omega) (by omega)
    rw [Nat.pow_add] at h1
    have h2 : pm (mg b) * 2 ^ pk (mg b) < 9007199254740992 * 2 ^ pk (mg b) := (Nat.mul_lt_mul_right (pow_pos _)).2 hm
    generalize pm (mg b) * 2 ^ pk (mg b) = z at *
    generalize 2 ^ pk (mg b) = y at *
    omega
  have hk : 1 ≤ pk (mg a) := by omega
  have hA : 2 ^ 52 * 2 ^ pk (mg a) ≤ (sv a).natAbs := by
    rw [sv_abs, pm_pk]
    refine Nat.mul_le_mul_right _ ?_
    unfold pk at hk
    unfold pm
    rw [if_neg (by omega)]
    omega
  obtain ⟨i, hi⟩ : ∃ i, pk (mg a) = i + 1 := ⟨pk (mg a) - 1, by omega⟩
  have eA := sv_sm a
  rw [hi] at hB hA eA
  have hp2 : 2 ^ (i + 1) = 2 ^ i * 2 := Nat.pow_succ 2 i
  rw [hp2] at hB hA
  have n : (sv a + sv b - rd (sv a + sv b)).natAbs ≤ (sv b).natAbs := by
    have h1 := rung_nearest 52 (sv a + sv b).natAbs (mg a) (by omega)
    have h2 := rd_abs (sv a + sv b)
    have h3 := sv_abs a
    have p1 := @rd_nonneg (sv a + sv b)
    have p2 := @rd_nonpos (sv a + sv b)
    change ((sv a + sv b).natAbs - (mv (rung 52 0 (sv a + sv b).natAbs) : Int)).natAbs ≤ ((sv a + sv b).natAbs - (mv (mg a) : Int)).natAbs at h1
    rw [← h2, ← h3] at h1
    have hbig : (sv b).natAbs < (sv a).natAbs := by
      generalize 2 ^ i = y at *
      omega
    generalize rd (sv a + sv b) = S at *
    omega
  generalize hS : rd (sv a + sv b) = S at *
  -- the rounded sum is a multiple of half of the last bit
  have hD : isD S := by rw [← hS]; exact isD_rd _
  obtain ⟨r, hr⟩ := hD
  obtain ⟨m, k, hm2, ek⟩ := mv_form r
  have hSlow : 2 ^ 52 * 2 ^ i ≤ S.natAbs := by
    generalize 2 ^ i = y at *
    omega
  have hik : i ≤ k := by
    have h5 : 2 ^ (52 + i) < 2 ^ (53 + k) := by
      rw [Nat.pow_add, Nat.pow_add]
      refine Nat.lt_of_le_of_lt hSlow ?_
      rw [← hr, ek]
      exact (Nat.mul_lt_mul_right (pow_pos k)).2 hm2
    have := pow_lt_iff.1 h5
    omega
  have eS : ∃ c : Int, S = c * ((2 ^ i : Nat) : Int) := by
    have h6 : ((S.natAbs : Nat) : Int) = (m : Int) * ((2 ^ (k - i) : Nat) : Int) * ((2 ^ i : Nat) : Int) := by
      rw [← hr, ek, Int.natCast_mul, mul_up _ hik]
    by_cases c : 0 ≤ S
    · exact ⟨_, by rw [← h6]; omega⟩
    · refine ⟨-((m : Int) * ((2 ^ (k - i) : Nat) : Int)), ?_⟩
      rw [Int.neg_mul, ← h6]; omega
  obtain ⟨c, ec⟩ := eS
  have eA2 : sv a = sm a * 2 * ((2 ^ i : Nat) : Int) := by
    rw [eA, hp2, Int.natCast_mul, Int.mul_assoc, Int.mul_comm ((2 ^ i : Nat) : Int)]; rfl
  have hz : c - sm a * 2 = 0 := by
    refine small_mul _ 2 i ?_ (by omega)
    rw [Int.sub_mul, ← ec, ← eA2]
    generalize 2 ^ i = y at *
    omega
  rw [ec, eA2]
  have : c = sm a * 2 := by omega
  rw [this]

/-- the error in whole numbers of the lesser last bit -/
theorem near_sum (a b s : Nat) (hs : sv s = rd (sv a + sv b)) (hab : mg b ≤ mg a) (low : Nat) (hlow : (low = pk (mg b) ∧ pk (mg b) ≤ pk (mg s)) ∨ (low = pk (mg s) ∧ pk (mg s) < pk (mg b)))
    (hn : (sv a + sv b - rd (sv a + sv b)).natAbs ≤ (sv b).natAbs) :
    ∃ X : Int, sv a + sv b - rd (sv a + sv b) = X * ((2 ^ low : Nat) : Int) ∧ X.natAbs ≤ 9007199254740992 ∧
      X = sm a * ((2 ^ (pk (mg a) - low) : Nat) : Int) + sm b * ((2 ^ (pk (mg b) - low) : Nat) : Int) - sm s * ((2 ^ (pk (mg s) - low) : Nat) : Int) := by
  have ha := pk_le _ _ hab
  have l1 : low ≤ pk (mg b) := by omega
  have l2 : low ≤ pk (mg a) := by omega
  have l3 : low ≤ pk (mg s) := by omega
  refine ⟨_, ?_, ?_, rfl⟩
  · rw [Int.sub_mul, Int.add_mul, ← sm_div a low l2, ← sm_div b low l1, ← sm_div s low l3, hs]
  · have e : sv a + sv b - rd (sv a + sv b) = (sm a * ((2 ^ (pk (mg a) - low) : Nat) : Int) + sm b * ((2 ^ (pk (mg b) - low) : Nat) : Int) - sm s * ((2 ^ (pk (mg s) - low) : Nat) : Int)) * ((2 ^ low : Nat) : Int) := by
      rw [Int.sub_mul, Int.add_mul, ← sm_div a low l2, ← sm_div b low l1, ← sm_div s low l3, hs]
    generalize sm a * ((2 ^ (pk (mg a) - low) : Nat) : Int) + sm b * ((2 ^ (pk (mg b) - low) : Nat) : Int) - sm s * ((2 ^ (pk (mg s) - low) : Nat) : Int) = X at *
    rcases hlow with ⟨h1, h2⟩ | ⟨h1, h2⟩
    · -- less than the lesser one's whole number
      rw [e, sv_abs, pm_pk, ← h1, Int.natAbs_mul, Int.natAbs_natCast] at hn
      have := cancel_le (pow_pos low) hn
      have := pm_lt (mg b)
      omega
    · -- the sum is exact
      have hD : isD (sv a + sv b) := by
        have e2 : sv a + sv b = (sm a * ((2 ^ (pk (mg a) - pk (mg b)) : Nat) : Int) + sm b) * ((2 ^ pk (mg b) : Nat) : Int) := by
          rw [Int.add_mul, ← sm_div a _ ha, ← sv_sm]
        by_cases c : (sm a * ((2 ^ (pk (mg a) - pk (mg b)) : Nat) : Int) + sm b).natAbs ≤ 2 ^ 53
        · refine isD_of _ _ 0 (pk (mg b)) (by rw [Nat.pow_zero]; rw [show ((1 : Nat) : Int) = 1 from rfl, Int.mul_one]; exact e2) c
        · exfalso
          have h3 : 2 ^ 53 * 2 ^ pk (mg b) ≤ (sv a + sv b).natAbs := by
            rw [e2, Int.natAbs_mul, Int.natAbs_natCast]
            exact Nat.mul_le_mul_right _ (by omega)
          have h4 : 2 ^ 53 * 2 ^ pk (mg b) ≤ (sv s).natAbs := by
            rw [hs, rd_abs]
            obtain ⟨t, ht⟩ := rep 52 (2 ^ 53) (pk (mg b)) (by omega)
            rw [← ht]
            exact mv_le.2 (rung_ge (by omega) (by rw [ht, Nat.pow_zero, Nat.mul_one]; exact h3))
          rw [sv_abs, pm_pk] at h4
          have h5 : pm (mg s) * 2 ^ pk (mg s) < 2 ^ 53 * 2 ^ pk (mg b) := by
            refine Nat.lt_of_lt_of_le ((Nat.mul_lt_mul_right (pow_pos _)).2 (pm_lt (mg s))) ?_
            exact Nat.mul_le_mul (by omega) (Nat.pow_le_pow_right (by omega) (by omega))
          omega
      rw [rd_exact hD, Int.sub_self] at e
      have : X = 0 := by
        rcases Int.mul_eq_zero.1 e.symm with h | h
        · exact h
        · have := pow_pos low; omega
      rw [this]; decide

/-- a whole number times a power of two, by floats -/
theorem scale_way (X : Int) (low : Nat) (hX : X.natAbs ≤ 9007199254740992) (hl : low ≤ 2045) :
    rn false (X * one) < 18446744073709551616 ∧ mg (rn false (X * one)) < 9218868437227405312 ∧ sv (rn false (X * one)) = X * one ∧
    powB ((low : Int) - 1074) < 9218868437227405312 ∧ sv (powB ((low : Int) - 1074)) = ((2 ^ low : Nat) : Int) := by
  have hp := powB_mv ((low : Int) - 1074) (by omega) (by omega)
  have e1 : ((low : Int) - 1074 + 1074).toNat = low := by omega
  rw [e1] at hp
  have h1 : isD (X * (one : Int)) := by
    refine isD_of _ X 0 K (by rw [Nat.pow_zero, show ((1 : Nat) : Int) = 1 from rfl, Int.mul_one, one_pow]) (by omega)
  have h2 : (X * (one : Int)).natAbs < top := by
    have h3 : 9007199254740992 * one < top := by decide +kernel
    rw [Int.natAbs_mul, Int.natAbs_natCast]
    exact Nat.lt_of_le_of_lt (Nat.mul_le_mul_right _ hX) h3
  obtain ⟨f1, f2⟩ := rn_exact false _ h1 h2
  refine ⟨rn_lt _ _, f1, f2, hp.2, ?_⟩
  unfold sv
  rw [ng_of_lt (by omega), if_neg (by decide), mg_of_lt (by omega), hp.1]
theorem scale_mul (y X : Int) (q : Nat) (x low : Nat) (hx : x < 18446744073709551616) (fx : mg x < 9218868437227405312) (ex : sv x = y) (ey : y = X * one) (hX : X.natAbs ≤ 9007199254740992) (hl : low ≤ 2045) (hq : q = powB ((low : Int) - 1074)) :
    ∃ p, Ieee.double.mul x q = some p ∧ p < 18446744073709551616 ∧ canonB p = rn false (X * ((2 ^ low : Nat) : Int)) := by
  obtain ⟨_, _, _, h4, h5⟩ := scale_way X low hX hl
  rw [← hq] at h4 h5
  have hm := mul_W x q (X * ((2 ^ low : Nat) : Int)) hx (by omega) fx (by rw [mg_of_lt (by omega)]; exact h4) (by
    rw [ex, ey, h5, one_pow]
    generalize ((2 ^ K : Nat) : Int) = k
    rw [Int.mul_right_comm])
  exact ⟨_, hm, rn_lt _ _, canon_rn _ _⟩
end Go.Proofs.Ytflkbjcaajchjaa
