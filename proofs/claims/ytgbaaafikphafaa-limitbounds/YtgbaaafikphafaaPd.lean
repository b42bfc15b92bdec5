/-
  Rounded numbers in units of 2 ^ -1074: which are doubles, and how far rounding goes, by plain numbers (no program).
-/
import Derived.Test.YtgbaaafikphafaaPg
namespace Go.Proofs.Ytgbaaafikphafaa
open Tf

/-- a number of units that is a double's (or beyond them) -/
def isD (v : Int) : Prop := ∃ r, mv r = v.natAbs
/-- the rounded number, overflow aside -/
def rd (v : Int) : Int := if v < 0 then -(mv (rung 52 0 v.natAbs) : Int) else (mv (rung 52 0 v.natAbs) : Int)
/-- where the infinity begins -/
def top : Nat := mv 9218868437227405312

theorem rd_neg (v : Int) : rd (-v) = -rd v := by
  unfold rd
  rw [Int.natAbs_neg]
  by_cases c0 : v = 0
  · subst c0
    rw [Int.natAbs_zero, rung_zero, mv_zero]; rfl
  · by_cases c : v < 0
    · rw [if_pos c, if_neg (by omega)]; omega
    · rw [if_neg c, if_pos (by omega)]
theorem rd_abs (v : Int) : (rd v).natAbs = mv (rung 52 0 v.natAbs) := by
  unfold rd; split <;> omega
theorem rd_exact {v : Int} (h : isD v) : rd v = v := by
  obtain ⟨r, hr⟩ := h
  unfold rd
  rw [← hr, rung_mv, hr]
  split <;> omega
theorem isD_rd (v : Int) : isD (rd v) := ⟨_, (rd_abs v).symm⟩
theorem isD_neg {v : Int} (h : isD v) : isD (-v) := by
  obtain ⟨r, hr⟩ := h; exact ⟨r, by rw [Int.natAbs_neg]; exact hr⟩
theorem isD_sv (x : Nat) : isD (sv x) := ⟨mg x, by unfold sv; split <;> omega⟩
theorem isD_zero : isD 0 := ⟨0, by rw [mv_zero]; rfl⟩

theorem isD_of (v q : Int) (s c : Nat) (h : v * ((2 ^ s : Nat) : Int) = q * ((2 ^ c : Nat) : Int)) (hq : q.natAbs ≤ 2 ^ 53) : isD v := by
  have h' : v.natAbs * 2 ^ s = q.natAbs * 2 ^ c := by
    have := congrArg Int.natAbs h
    rwa [Int.natAbs_mul, Int.natAbs_mul, Int.natAbs_natCast, Int.natAbs_natCast] at this
  unfold isD
  generalize v.natAbs = n at *
  have key : ∃ r, mv r = n := by
    by_cases c1 : s ≤ c
    · have e : n = q.natAbs * 2 ^ (c - s) := by
        apply Nat.eq_of_mul_eq_mul_right (pow_pos s)
        rw [h', Nat.mul_assoc, ← Nat.pow_add, Nat.sub_add_cancel c1]
      rw [e]
      exact rep 52 _ _ hq
    · have e : n * 2 ^ (s - c) = q.natAbs := by
        apply Nat.eq_of_mul_eq_mul_right (pow_pos c)
        rw [← h', Nat.mul_assoc, ← Nat.pow_add, Nat.sub_add_cancel (by omega)]
      have hn : n ≤ 2 ^ 53 := by
        have := Nat.le_mul_of_pos_right n (pow_pos (s - c))
        omega
      obtain ⟨r, hr⟩ := rep 52 n 0 hn
      exact ⟨r, by rw [Nat.pow_zero, Nat.mul_one] at hr; exact hr⟩
  exact key

theorem rn_fin (z : Bool) (v : Int) (h : (rd v).natAbs < top) : mg (rn z v) < 9218868437227405312 ∧ sv (rn z v) = rd v := by
  rw [rd_abs] at h
  have h1 : rung 52 0 v.natAbs < 9218868437227405312 := mv_lt.1 h
  have h2 : mg (rn z v) < 9218868437227405312 := by
    rw [rn_mg]
    generalize rung 52 0 v.natAbs = r at *
    omega
  exact ⟨h2, sv_rn z v h2⟩
theorem rn_exact (z : Bool) (v : Int) (h : isD v) (ht : v.natAbs < top) : mg (rn z v) < 9218868437227405312 ∧ sv (rn z v) = v := by
  have := rn_fin z v (by rw [rd_exact h]; exact ht)
  rwa [rd_exact h] at this
theorem rn_fin' (z : Bool) (v : Int) (h : mg (rn z v) < 9218868437227405312) : sv (rn z v) = rd v := sv_rn z v h
theorem sv_top (x : Nat) (h : mg x < 9218868437227405312) : (sv x).natAbs < top := by
  have : mv (mg x) < top := mv_lt.2 h
  unfold sv; split <;> omega

/-- the form of a rung: few bits times a power of two -/
theorem norm (r : Nat) (h : 0 < r) : ∃ μ s k, mv r * 2 ^ s = μ * 2 ^ k ∧ 2 ^ 52 ≤ μ ∧ μ < 2 ^ 53 ∧ (∃ m, m < 2 ^ 53 ∧ mv r = m * 2 ^ k) ∧ k = r / 2 ^ 52 - 1 ∧ (s = 0 ∨ k = 0) := by
  by_cases c : r < 2 ^ 52
  · have e : mv r = r := by unfold mv mag; rw [if_pos c]
    have e0 : r / 2 ^ 52 - 1 = 0 := by omega
    have h1 : 2 ^ r.log2 ≤ r := Nat.log2_self_le (by omega)
    have h2 : r < 2 ^ (r.log2 + 1) := Nat.lt_log2_self
    have h3 : r.log2 ≤ 51 := log2_small (by omega)
    refine ⟨r * 2 ^ (52 - r.log2), 52 - r.log2, 0, by rw [e]; simp, ?_, ?_, ⟨r, by omega, by rw [e]; simp⟩, e0.symm, .inr rfl⟩
    · have : 2 ^ r.log2 * 2 ^ (52 - r.log2) ≤ r * 2 ^ (52 - r.log2) := Nat.mul_le_mul_right _ h1
      rwa [← Nat.pow_add, show r.log2 + (52 - r.log2) = 52 by omega] at this
    · have : r * 2 ^ (52 - r.log2) < 2 ^ (r.log2 + 1) * 2 ^ (52 - r.log2) := (Nat.mul_lt_mul_right (pow_pos _)).2 h2
      rwa [← Nat.pow_add, show r.log2 + 1 + (52 - r.log2) = 53 by omega] at this
  · have e : mv r = (2 ^ 52 + r % 2 ^ 52) * 2 ^ (r / 2 ^ 52 - 1) := by unfold mv mag; rw [if_neg c]
    refine ⟨2 ^ 52 + r % 2 ^ 52, 0, r / 2 ^ 52 - 1, by rw [e]; simp, by omega, by omega, ⟨2 ^ 52 + r % 2 ^ 52, by omega, e⟩, rfl, .inl rfl⟩

theorem close_step (V S P D0 : Nat) (h : D0 * P ≤ V) (h' : V < (D0 + 1) * P) (n0 : ((V : Int) - (S : Int)).natAbs ≤ ((V : Int) - ((D0 * P : Nat) : Int)).natAbs) (n1 : ((V : Int) - (S : Int)).natAbs ≤ ((V : Int) - (((D0 + 1) * P : Nat) : Int)).natAbs) : 2 * ((V : Int) - (S : Int)).natAbs ≤ P := by
  rw [Nat.add_mul, Nat.one_mul] at h' n1
  generalize D0 * P = M at *
  omega

/-- A NUMBER BETWEEN TWO POWERS OF TWO is rounded to a multiple of the step there, by at most half of it. -/
theorem round_step0 (g V : Nat) (h1 : 2 ^ (52 + g) ≤ V) (h2 : V ≤ 2 ^ (53 + g)) :
    ∃ D, mv (rung 52 0 V) = D * 2 ^ g ∧ 2 ^ 52 ≤ D ∧ D ≤ 2 ^ 53 ∧ 2 * ((V : Int) - ((D * 2 ^ g : Nat) : Int)).natAbs ≤ 2 ^ g := by
  have hp := pow_pos g
  have lo : 2 ^ 52 * 2 ^ g ≤ mv (rung 52 0 V) := by
    obtain ⟨t, ht⟩ := rep 52 (2 ^ 52) g (by omega)
    have : t ≤ rung 52 0 V := rung_ge (by omega) (by rw [ht, Nat.pow_zero, Nat.mul_one, ← Nat.pow_add]; exact h1)
    have := mv_le.2 this
    unfold mv at this ⊢
    rwa [ht] at this
  have hi : mv (rung 52 0 V) ≤ 2 ^ 53 * 2 ^ g := by
    obtain ⟨t, ht⟩ := rep 52 (2 ^ 53) g (by omega)
    have : rung 52 0 V ≤ t := rung_le (by omega) (by rw [ht, Nat.pow_zero, Nat.mul_one, ← Nat.pow_add]; exact h2)
    have := mv_le.2 this
    unfold mv at this ⊢
    rwa [ht] at this
  obtain ⟨m, k, hm, hk⟩ := mv_form (rung 52 0 V)
  have hgk : g ≤ k := by
    have h3 : 2 ^ (52 + g) < 2 ^ (53 + k) := by
      rw [Nat.pow_add, Nat.pow_add]
      rw [hk] at lo
      exact Nat.lt_of_le_of_lt lo ((Nat.mul_lt_mul_right (pow_pos k)).2 hm)
    have := pow_lt_iff.1 h3
    omega
  have hS : mv (rung 52 0 V) = m * 2 ^ (k - g) * 2 ^ g := by rw [hk, Nat.mul_assoc, ← Nat.pow_add, Nat.sub_add_cancel hgk]
  refine ⟨m * 2 ^ (k - g), hS, ?_, ?_, ?_⟩
  · rw [hS] at lo; exact Nat.le_of_mul_le_mul_right lo hp
  · rw [hS] at hi; exact Nat.le_of_mul_le_mul_right hi hp
  · rw [← hS]
    have hV1 : V / 2 ^ g * 2 ^ g ≤ V := Nat.div_mul_le_self _ _
    have hV2 : V < (V / 2 ^ g + 1) * 2 ^ g := by
      have := Nat.lt_div_mul_add hp (a := V)
      rw [Nat.add_mul, Nat.one_mul]; exact this
    have near : ∀ t, t ≤ 2 ^ 53 → ((V : Int) - (mv (rung 52 0 V) : Int)).natAbs ≤ ((V : Int) - ((t * 2 ^ g : Nat) : Int)).natAbs := by
      intro t ht
      obtain ⟨r, hr⟩ := rep 52 t g ht
      rw [← hr]
      exact rung_nearest 52 V r (by omega)
    have hD : V / 2 ^ g ≤ 2 ^ 53 := by
      rw [Nat.pow_add] at h2
      exact Nat.le_of_mul_le_mul_right (Nat.le_trans hV1 h2) hp
    by_cases c : V / 2 ^ g = 2 ^ 53
    · have e : V = 2 ^ 53 * 2 ^ g := by
        rw [c] at hV1
        rw [Nat.pow_add] at h2
        exact Nat.le_antisymm h2 hV1
      have n := near (2 ^ 53) (by omega)
      rw [← e] at n
      have z : ((V : Int) - (V : Int)).natAbs = 0 := by rw [Int.sub_self]; rfl
      rw [z] at n
      have n' : ((V : Int) - (mv (rung 52 0 V) : Int)).natAbs = 0 := Nat.le_zero.1 n
      rw [n']
      exact Nat.zero_le _
    · exact close_step V _ (2 ^ g) (V / 2 ^ g) hV1 hV2 (near _ hD) (near _ (by omega))

theorem round_step (s g V : Nat) (h1 : 2 ^ (52 + g) ≤ V * 2 ^ s) (h2 : V * 2 ^ s ≤ 2 ^ (53 + g)) :
    ∃ D, mv (rung 52 0 V) * 2 ^ s = D * 2 ^ g ∧ 2 ^ 52 ≤ D ∧ D ≤ 2 ^ 53 ∧ 2 * (((V * 2 ^ s : Nat) : Int) - ((D * 2 ^ g : Nat) : Int)).natAbs ≤ 2 ^ g := by
  have hp := pow_pos g
  have hs := pow_pos s
  by_cases c : g ≤ s
  · have hV : V ≤ 2 ^ 53 := by
      have h3 : V * 2 ^ s ≤ 2 ^ 53 * 2 ^ s := Nat.le_trans h2 (by rw [Nat.pow_add]; exact Nat.mul_le_mul_left _ (Nat.pow_le_pow_right (by omega) c))
      exact Nat.le_of_mul_le_mul_right h3 hs
    obtain ⟨r, hr⟩ := rep 52 V 0 hV
    rw [Nat.pow_zero, Nat.mul_one] at hr
    have e : mv (rung 52 0 V) = V := by
      have hr' : mv r = V := hr
      rw [← hr', rung_mv]
    have e2 : V * 2 ^ s = V * 2 ^ (s - g) * 2 ^ g := by rw [Nat.mul_assoc, ← Nat.pow_add, Nat.sub_add_cancel c]
    refine ⟨V * 2 ^ (s - g), by rw [e, e2], ?_, ?_, ?_⟩
    · rw [e2, Nat.pow_add] at h1; exact Nat.le_of_mul_le_mul_right h1 hp
    · rw [e2, Nat.pow_add] at h2; exact Nat.le_of_mul_le_mul_right h2 hp
    · rw [← e2, Int.sub_self]; exact Nat.zero_le _
  · obtain ⟨f, hf⟩ : ∃ f, g = f + s := ⟨g - s, by omega⟩
    subst hf
    have a1 : 2 ^ (52 + f) ≤ V := by
      rw [← Nat.add_assoc, Nat.pow_add] at h1
      exact Nat.le_of_mul_le_mul_right h1 hs
    have a2 : V ≤ 2 ^ (53 + f) := by
      rw [← Nat.add_assoc, Nat.pow_add] at h2
      exact Nat.le_of_mul_le_mul_right h2 hs
    obtain ⟨D, e, d1, d2, d3⟩ := round_step0 f V a1 a2
    refine ⟨D, by rw [e, Nat.mul_assoc, ← Nat.pow_add], d1, d2, ?_⟩
    rw [Nat.pow_add, ← Nat.mul_assoc, Int.natCast_mul, Int.natCast_mul (D * 2 ^ f), ← Int.sub_mul, Int.natAbs_mul, Int.natAbs_natCast, ← Nat.mul_assoc]
    exact Nat.mul_le_mul_right _ d3

theorem rd_step (s g : Nat) (v : Int) (h1 : 2 ^ (52 + g) ≤ v.natAbs * 2 ^ s) (h2 : v.natAbs * 2 ^ s ≤ 2 ^ (53 + g)) :
    ∃ D : Int, rd v * ((2 ^ s : Nat) : Int) = D * ((2 ^ g : Nat) : Int) ∧ 2 ^ 52 ≤ D.natAbs ∧ D.natAbs ≤ 2 ^ 53 ∧ 2 * (v * ((2 ^ s : Nat) : Int) - D * ((2 ^ g : Nat) : Int)).natAbs ≤ 2 ^ g := by
  obtain ⟨D, e, d1, d2, d3⟩ := round_step s g v.natAbs h1 h2
  have e' : ((mv (rung 52 0 v.natAbs) : Nat) : Int) * ((2 ^ s : Nat) : Int) = (D : Int) * ((2 ^ g : Nat) : Int) := by rw [← Int.natCast_mul, e, Int.natCast_mul]
  rw [Int.natCast_mul, Int.natCast_mul] at d3
  unfold rd
  by_cases c : v < 0
  · rw [if_pos c]
    have hv : ((v.natAbs : Nat) : Int) = -v := by omega
    rw [hv, Int.neg_mul] at d3
    refine ⟨-(D : Int), by rw [Int.neg_mul, Int.neg_mul, e'], by omega, by omega, ?_⟩
    rw [Int.neg_mul]
    generalize v * ((2 ^ s : Nat) : Int) = X at *
    generalize (D : Int) * ((2 ^ g : Nat) : Int) = Y at *
    omega
  · rw [if_neg c]
    have hv : ((v.natAbs : Nat) : Int) = v := by omega
    rw [hv] at d3
    exact ⟨(D : Int), e', by omega, by omega, d3⟩
end Go.Proofs.Ytgbaaafikphafaa
