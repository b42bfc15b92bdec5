/-
  Sums by the greater one, halves, and products of halves: nothing is rounded there, by plain numbers (no program).
-/
import Derived.Test.YtgbaaafikphafaaPd
namespace Go.Proofs.Ytgbaaafikphafaa
open Tf

theorem mv_form2 (r : Nat) : ∃ m, m < 2 ^ 53 ∧ mv r = m * 2 ^ (r / 2 ^ 52 - 1) := by
  unfold mv mag
  by_cases c : r < 2 ^ 52
  · exact ⟨r, by omega, by rw [if_pos c, show r / 2 ^ 52 - 1 = 0 by omega]; omega⟩
  · exact ⟨2 ^ 52 + r % 2 ^ 52, by omega, by rw [if_neg c]⟩
theorem sv_form2 (x : Nat) : ∃ A : Int, A.natAbs < 2 ^ 53 ∧ sv x = A * ((2 ^ (mg x / 2 ^ 52 - 1) : Nat) : Int) := by
  obtain ⟨m, h, e⟩ := mv_form2 (mg x)
  unfold sv
  rw [e, Int.natCast_mul]
  cases ng x
  · exact ⟨m, by omega, by simp⟩
  · exact ⟨-(m : Int), by omega, by simp [Int.neg_mul]⟩
theorem sv_abs (x : Nat) : (sv x).natAbs = mv (mg x) := by unfold sv; split <;> omega
theorem rd_nonneg {v : Int} (h : 0 ≤ v) : 0 ≤ rd v := by unfold rd; rw [if_neg (by omega)]; omega
theorem rd_nonpos {v : Int} (h : v ≤ 0) : rd v ≤ 0 := by
  have := rd_nonneg (v := -v) (by omega)
  rw [rd_neg] at this; omega
theorem mul_up (X : Int) {k t : Nat} (h : k ≤ t) : X * ((2 ^ t : Nat) : Int) = X * ((2 ^ (t - k) : Nat) : Int) * ((2 ^ k : Nat) : Int) := by
  rw [Int.mul_assoc, ← Int.natCast_mul, ← Nat.pow_add, Nat.sub_add_cancel h]
theorem cancel_le {a b p : Nat} (hp : 0 < p) (h : a * p ≤ b * p) : a ≤ b := Nat.le_of_mul_le_mul_right h hp

theorem fast_a (Q : Nat) (q D E B : Int) (hQ : 0 < Q) (e : q * (Q : Int) = B - E) (hB : B.natAbs ≤ 2 ^ 52 * Q) (hE : 2 * E.natAbs ≤ Q) (_ : D = D) : q.natAbs ≤ 2 ^ 53 := by
  have h1 : (q.natAbs * Q) = (B - E).natAbs := by rw [← e, Int.natAbs_mul, Int.natAbs_natCast]
  have h2 : q.natAbs * Q ≤ 2 ^ 53 * Q := by rw [h1]; omega
  exact cancel_le hQ h2
theorem fast_b (Q : Nat) (q α E B : Int) (hQ : 0 < Q) (e : q * (Q : Int) = B - E) (hα : α.natAbs < 2 ^ 53) (hB : B.natAbs ≤ α.natAbs * Q) (hE : E.natAbs ≤ Q) : q.natAbs ≤ 2 ^ 53 := by
  have h1 : (q.natAbs * Q) = (B - E).natAbs := by rw [← e, Int.natAbs_mul, Int.natAbs_natCast]
  have h2 : q.natAbs * Q ≤ 2 ^ 53 * Q := by
    rw [h1]
    have h3 : (α.natAbs + 1) * Q ≤ 2 ^ 53 * Q := Nat.mul_le_mul_right _ (by omega)
    rw [Nat.add_mul, Nat.one_mul] at h3
    generalize α.natAbs * Q = Z at *
    omega
  exact cancel_le hQ h2

/-- THE ROUNDED SUM LESS THE GREATER ONE is a double. -/
theorem fast2 (a b : Nat) (h : mg b ≤ mg a) : isD (rd (sv a + sv b) - sv a) := by
  obtain ⟨α, hα, eA⟩ := sv_form2 a
  obtain ⟨β, hβ, eB⟩ := sv_form2 b
  have hle : (sv b).natAbs ≤ (sv a).natAbs := by rw [sv_abs, sv_abs]; exact mv_le.2 h
  have hij : mg b / 2 ^ 52 - 1 ≤ mg a / 2 ^ 52 - 1 := Nat.sub_le_sub_right (Nat.div_le_div_right h) 1
  have hDB := isD_sv b
  generalize mg b / 2 ^ 52 - 1 = j at *
  generalize mg a / 2 ^ 52 - 1 = i at *
  generalize sv a = A at *
  generalize sv b = B at *
  have hAabs : A.natAbs = α.natAbs * 2 ^ i := by rw [eA, Int.natAbs_mul, Int.natAbs_natCast]
  have hBabs : B.natAbs = β.natAbs * 2 ^ j := by rw [eB, Int.natAbs_mul, Int.natAbs_natCast]
  have hpi := pow_pos i
  have hpj := pow_pos j
  by_cases c : (A + B).natAbs ≤ 2 ^ 53 * 2 ^ j
  · have e : A + B = (α * ((2 ^ (i - j) : Nat) : Int) + β) * ((2 ^ j : Nat) : Int) := by rw [Int.add_mul, ← mul_up α hij, ← eA, ← eB]
    have hD : isD (A + B) := by
      refine isD_of _ _ 0 j (by rw [Nat.pow_zero]; rw [show ((1 : Nat) : Int) = 1 from rfl, Int.mul_one]; exact e) ?_
      rw [e, Int.natAbs_mul, Int.natAbs_natCast] at c
      exact cancel_le hpj c
    rw [rd_exact hD]
    rwa [show A + B - A = B by omega]
  · obtain ⟨n, hn⟩ : ∃ n, (A + B).natAbs = n := ⟨_, rfl⟩
    have hn0 : n ≠ 0 := by
      intro h0
      have : 0 < 2 ^ 53 * 2 ^ j := Nat.mul_pos (by omega) hpj
      omega
    have h1 : 2 ^ n.log2 ≤ n := Nat.log2_self_le hn0
    have h2 : n < 2 ^ (n.log2 + 1) := Nat.lt_log2_self
    have h3 : 53 + j < n.log2 + 1 := pow_lt_iff.1 (by rw [Nat.pow_add]; exact Nat.lt_trans (Nat.lt_of_not_le (by rw [← hn]; exact c)) h2)
    have h4 : n.log2 < 54 + i := by
      apply pow_lt_iff.1
      have h5 : n ≤ 2 * A.natAbs := by omega
      have h6 : α.natAbs * 2 ^ i < 2 ^ 53 * 2 ^ i := (Nat.mul_lt_mul_right hpi).2 hα
      have h7 : 2 ^ (54 + i) = 2 * (2 ^ 53 * 2 ^ i) := by rw [Nat.pow_add, ← Nat.mul_assoc]
      rw [h7]
      generalize 2 ^ 53 * 2 ^ i = Z at *
      generalize 2 ^ n.log2 = Z2 at *
      omega
    obtain ⟨g, hg⟩ : ∃ g, n.log2 = 52 + g := ⟨n.log2 - 52, by omega⟩
    rw [hg] at h1 h2 h3 h4
    have hjg : j + 1 ≤ g := by omega
    obtain ⟨D, eD, _, _, d3⟩ := rd_step 0 g (A + B) (by rw [hn, Nat.pow_zero, Nat.mul_one]; exact h1) (by rw [hn, Nat.pow_zero, Nat.mul_one, show 53 + g = 52 + g + 1 by omega]; omega)
    have e1 : ((2 ^ 0 : Nat) : Int) = 1 := rfl
    rw [e1, Int.mul_one] at eD d3
    rw [← eD] at d3
    have eR : rd (A + B) - A = B - (A + B - rd (A + B)) := by omega
    have hB52 : B.natAbs ≤ 2 ^ 52 * 2 ^ g := by
      rw [hBabs]
      have h8 : 2 ^ (j + 1) ≤ 2 ^ g := Nat.pow_le_pow_right (by omega) hjg
      have h9 : β.natAbs * 2 ^ j ≤ 2 ^ 53 * 2 ^ j := Nat.mul_le_mul_right _ (by omega)
      rw [Nat.pow_succ] at h8
      generalize β.natAbs * 2 ^ j = Z at *
      generalize 2 ^ j = Z2 at *
      generalize 2 ^ g = Z3 at *
      omega
    by_cases c2 : g ≤ i
    · have e : (D - α * ((2 ^ (i - g) : Nat) : Int)) * ((2 ^ g : Nat) : Int) = rd (A + B) - A := by
        rw [Int.sub_mul, ← mul_up α c2, ← eA, ← eD]
      refine isD_of _ (D - α * ((2 ^ (i - g) : Nat) : Int)) 0 g (by rw [e1, Int.mul_one, e]) ?_
      exact fast_a (2 ^ g) _ D (A + B - rd (A + B)) B (pow_pos g) (by rw [e, eR]) hB52 d3 rfl
    · have hgi : g = i + 1 := by omega
      subst hgi
      have e2 : ((2 ^ (i + 1) : Nat) : Int) = 2 * ((2 ^ i : Nat) : Int) := by rw [Nat.pow_succ, Nat.mul_comm, Int.natCast_mul]; rfl
      have e : (D * 2 - α) * ((2 ^ i : Nat) : Int) = rd (A + B) - A := by
        rw [Int.sub_mul, ← eA, eD, e2, Int.mul_assoc]
      refine isD_of _ (D * 2 - α) 0 i (by rw [e1, Int.mul_one, e]) ?_
      refine fast_b (2 ^ i) _ α (A + B - rd (A + B)) B hpi (by rw [e, eR]) hα (by rw [← hAabs]; exact hle) ?_
      rw [Nat.pow_succ] at d3
      generalize 2 ^ i = Z at *
      omega

/-- the step of rounding for a number in scaled form -/
theorem rd_step2 (s k j : Nat) (v y : Int) (e : v * ((2 ^ s : Nat) : Int) = y * ((2 ^ k : Nat) : Int)) (h1 : 2 ^ (52 + j) ≤ y.natAbs) (h2 : y.natAbs ≤ 2 ^ (53 + j)) :
    ∃ D : Int, rd v * ((2 ^ s : Nat) : Int) = D * ((2 ^ j : Nat) : Int) * ((2 ^ k : Nat) : Int) ∧ 2 ^ 52 ≤ D.natAbs ∧ D.natAbs ≤ 2 ^ 53 ∧ 2 * (y - D * ((2 ^ j : Nat) : Int)).natAbs ≤ 2 ^ j := by
  have hk := pow_pos k
  have ea : v.natAbs * 2 ^ s = y.natAbs * 2 ^ k := by
    have := congrArg Int.natAbs e
    rwa [Int.natAbs_mul, Int.natAbs_mul, Int.natAbs_natCast, Int.natAbs_natCast] at this
  obtain ⟨D, d0, d1, d2, d3⟩ := rd_step s (j + k) v (by rw [ea, ← Nat.add_assoc, Nat.pow_add]; exact Nat.mul_le_mul_right _ h1) (by rw [ea, ← Nat.add_assoc, Nat.pow_add]; exact Nat.mul_le_mul_right _ h2)
  have e2 : D * ((2 ^ (j + k) : Nat) : Int) = D * ((2 ^ j : Nat) : Int) * ((2 ^ k : Nat) : Int) := by rw [Nat.pow_add, Int.natCast_mul, Int.mul_assoc]
  refine ⟨D, by rw [d0, e2], d1, d2, ?_⟩
  rw [e, e2, ← Int.sub_mul, Int.natAbs_mul, Int.natAbs_natCast, Nat.pow_add, ← Nat.mul_assoc] at d3
  exact cancel_le hk d3

/-- the upper half -/
def hiV (X : Int) : Int := rd (134217729 * X) - rd (rd (134217729 * X) - X)
theorem hiV_neg (X : Int) : hiV (-X) = -hiV X := by
  unfold hiV
  have e1 : 134217729 * -X = -(134217729 * X) := by omega
  rw [e1, rd_neg]
  have e2 : -rd (134217729 * X) - -X = -(rd (134217729 * X) - X) := by omega
  rw [e2, rd_neg]; omega

/-- a number and its upper half in scaled form -/
structure Sp (X : Int) (s k : Nat) (μ η : Int) : Prop where
  eX : X * ((2 ^ s : Nat) : Int) = μ * ((2 ^ k : Nat) : Int)
  lo : 2 ^ 52 ≤ μ.natAbs
  hi : μ.natAbs < 2 ^ 53
  eH : hiV X * ((2 ^ s : Nat) : Int) = η * 134217728 * ((2 ^ k : Nat) : Int)
  hη : η.natAbs ≤ 67108864
  hl : (μ - η * 134217728).natAbs ≤ 67108864
  mX : ∃ m : Int, X = m * ((2 ^ k : Nat) : Int)
  mH : ∃ m : Int, hiV X = m * ((2 ^ k : Nat) : Int)

theorem Sp.neg {X : Int} {s k : Nat} {μ η : Int} (h : Sp X s k μ η) : Sp (-X) s k (-μ) (-η) := by
  obtain ⟨m, hm⟩ := h.mX
  obtain ⟨n, hn⟩ := h.mH
  refine ⟨?_, ?_, ?_, ?_, ?_, ?_, ⟨-m, ?_⟩, ⟨-n, ?_⟩⟩
  · rw [Int.neg_mul, Int.neg_mul, h.eX]
  · rw [Int.natAbs_neg]; exact h.lo
  · rw [Int.natAbs_neg]; exact h.hi
  · rw [hiV_neg, Int.neg_mul, Int.neg_mul, Int.neg_mul, h.eH]
  · rw [Int.natAbs_neg]; exact h.hη
  · have := h.hl; omega
  · rw [Int.neg_mul, ← hm]
  · rw [hiV_neg, Int.neg_mul, ← hn]

theorem sp_pos (r : Nat) (hr : 0 < r) : ∃ s μ η, Sp (mv r : Int) s (r / 2 ^ 52 - 1) μ η := by
  obtain ⟨μ, s, k, e, h1, h2, ⟨m, _, hm⟩, hk, hsk⟩ := norm r hr
  rw [← hk]
  generalize mv r = X at *
  have eX : (X : Int) * ((2 ^ s : Nat) : Int) = (μ : Int) * ((2 ^ k : Nat) : Int) := by rw [← Int.natCast_mul, e, Int.natCast_mul]
  have eV : 134217729 * (X : Int) * ((2 ^ s : Nat) : Int) = 134217729 * (μ : Int) * ((2 ^ k : Nat) : Int) := by rw [Int.mul_assoc, eX, Int.mul_assoc]
  have hc : ∃ G : Int, rd (134217729 * (X : Int)) * ((2 ^ s : Nat) : Int) = G * 134217728 * ((2 ^ k : Nat) : Int) ∧ ((134217729 * (μ : Int) ≤ 1208925819614629174706176 ∧ 2 * (134217729 * (μ : Int) - G * 134217728).natAbs ≤ 134217728) ∨ (1208925819614629174706176 < 134217729 * (μ : Int) ∧ 2 * (134217729 * (μ : Int) - G * 134217728).natAbs ≤ 268435456)) := by
    by_cases c : 134217729 * (μ : Int) ≤ 1208925819614629174706176
    · obtain ⟨D, d0, _, _, d3⟩ := rd_step2 s k 27 _ _ eV (by omega) (by omega)
      exact ⟨D, d0, .inl ⟨c, d3⟩⟩
    · obtain ⟨D, d0, _, _, d3⟩ := rd_step2 s k 28 _ _ eV (by omega) (by omega)
      have e28 : D * ((2 ^ 28 : Nat) : Int) = D * 2 * 134217728 := by rw [Int.mul_assoc]; rfl
      rw [e28] at d0 d3
      exact ⟨D * 2, d0, .inr ⟨by omega, d3⟩⟩
  obtain ⟨G, g0, g1⟩ := hc
  have eC : (rd (134217729 * (X : Int)) - (X : Int)) * ((2 ^ s : Nat) : Int) = (G * 134217728 - μ) * ((2 ^ k : Nat) : Int) := by
    rw [Int.sub_mul, g0, eX, ← Int.sub_mul]
  have hlo : 604462909807314587353088 ≤ G * 134217728 - (μ : Int) ∧ G * 134217728 - (μ : Int) ≤ 1208925819614629174706176 := by
    clear g0 eV eX e hm hsk
    by_cases cμ : μ = 4503599627370496
    · subst cμ
      have : G = 4503599660924928 := by omega
      subst this
      constructor <;> omega
    · constructor <;> omega
  obtain ⟨D, d0, _, _, d3⟩ := rd_step2 s k 27 _ _ eC (by omega) (by omega)
  have e27 : D * ((2 ^ 27 : Nat) : Int) = D * 134217728 := rfl
  rw [e27] at d0 d3
  have eH : hiV X * ((2 ^ s : Nat) : Int) = (G - D) * 134217728 * ((2 ^ k : Nat) : Int) := by
    unfold hiV
    rw [Int.sub_mul, g0, d0, ← Int.sub_mul, ← Int.sub_mul]
  refine ⟨s, μ, G - D, eX, by omega, by omega, eH, by omega, by omega, ⟨m, ?_⟩, ?_⟩
  · rw [← Int.natCast_mul, ← hm]
  · rcases hsk with rfl | rfl
    · exact ⟨(G - D) * 134217728, by rw [← eH]; simp⟩
    · exact ⟨hiV X, by simp⟩
theorem sp_any (x : Nat) (h : mg x ≠ 0) : ∃ s μ η, Sp (sv x) s (mg x / 2 ^ 52 - 1) μ η := by
  obtain ⟨s, μ, η, p⟩ := sp_pos (mg x) (by omega)
  unfold sv
  cases ng x
  · rw [if_neg (by decide)]; exact ⟨s, μ, η, p⟩
  · rw [if_pos rfl]; exact ⟨s, -μ, -η, p.neg⟩

/-- both halves are doubles -/
theorem Sp.isH {X : Int} {s k : Nat} {μ η : Int} (h : Sp X s k μ η) : isD (hiV X) := by
  refine isD_of _ (η * 134217728) s k h.eH ?_
  have := h.hη
  omega
theorem Sp.eL {X : Int} {s k : Nat} {μ η : Int} (h : Sp X s k μ η) : (X - hiV X) * ((2 ^ s : Nat) : Int) = (μ - η * 134217728) * ((2 ^ k : Nat) : Int) := by
  rw [Int.sub_mul, h.eX, h.eH, ← Int.sub_mul]
theorem Sp.isL {X : Int} {s k : Nat} {μ η : Int} (h : Sp X s k μ η) : isD (X - hiV X) := by
  refine isD_of _ _ s k h.eL ?_
  have := h.hl
  omega
theorem Sp.mL {X : Int} {s k : Nat} {μ η : Int} (h : Sp X s k μ η) : ∃ m : Int, X - hiV X = m * ((2 ^ k : Nat) : Int) := by
  obtain ⟨m, hm⟩ := h.mX
  obtain ⟨n, hn⟩ := h.mH
  exact ⟨m - n, by rw [Int.sub_mul, ← hm, ← hn]⟩
end Go.Proofs.Ytgbaaafikphafaa
