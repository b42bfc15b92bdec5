/-
  Neighbours, steps and ranks of doubles, by plain numbers (no program).
-/
import Derived.Test.YtgbaaafikphafaaPl
namespace Go.Proofs.Ytgbaaafikphafaa
open Tf

theorem lit_lt {x : Nat} (h : (Lit.float .f64 x).wf = true) : x < 18446744073709551616 := by
  simpa [Lit.wf] using h
theorem feq_self (x : Nat) (hx : x < 18446744073709551616) : feq x x = !isN x := by
  rw [feq_rk x x hx hx]; cases isN x <;> simp

theorem mg_negB (x : Nat) : mg (negB x) = mg x := by
  unfold negB
  cases h : ng x
  · have := lt_of_ng h
    simp only [Bool.false_eq_true, if_false]; unfold mg; omega
  · have := ge_of_ng h
    simp only [if_true]; unfold mg; omega
theorem ng_negB (x : Nat) (hx : x < 18446744073709551616) : ng (negB x) = !ng x := by
  unfold negB
  cases h : ng x
  · have := lt_of_ng h
    simp only [Bool.false_eq_true, if_false]; rw [ng_of_ge (by omega)]; rfl
  · have := ge_of_ng h
    simp only [if_true]; rw [ng_of_lt (by omega)]; rfl
theorem rk_negB (x : Nat) (hx : x < 18446744073709551616) : rk (negB x) = -rk x := by
  unfold rk; rw [mg_negB, ng_negB x hx]
  cases ng x <;> simp
theorem sv_negB (x : Nat) (hx : x < 18446744073709551616) : sv (negB x) = -sv x := by
  unfold sv; rw [mg_negB, ng_negB x hx]
  cases ng x <;> simp
theorem isN_neg (x : Nat) : isN (negB x) = isN x := by unfold isN; rw [mg_negB]
theorem negB_negB (x : Nat) (hx : x < 18446744073709551616) : negB (negB x) = x := by
  have h := ng_negB x hx
  unfold negB at h ⊢
  cases hn : ng x
  · rw [hn] at h; have := lt_of_ng hn
    simp only [Bool.false_eq_true, if_false, Bool.not_false] at h ⊢
    rw [h]; simp only [if_true]; omega
  · rw [hn] at h; have := ge_of_ng hn
    simp only [if_true, Bool.not_true] at h ⊢
    rw [h]; simp only [Bool.false_eq_true, if_false]; omega

theorem rk_up (x : Nat) (hx : x < 18446744073709551616) (n : isN x = false) (hi : ¬ x = 9218868437227405312) : isN (upB x) = false ∧ rk (upB x) = rk x + 1 := by
  have hle := isN_false.1 n
  have hw := word_eq x hx
  have e : upB x = if mg x = 0 then 1 else if ng x then x - 1 else x + 1 := by
    unfold upB; rw [n]; simp only [Bool.false_eq_true, if_false, if_neg hi]
  rw [e]
  by_cases z : mg x = 0
  · rw [if_pos z]
    refine ⟨by decide, ?_⟩
    have : rk 1 = 1 := by decide
    rw [this]; unfold rk; rw [z]; split <;> rfl
  · rw [if_neg z]
    cases hn : ng x
    · have := lt_of_ng hn
      rw [hn] at hw
      simp only [Bool.false_eq_true, if_false] at hw ⊢
      have em : mg (x + 1) = mg x + 1 := by rw [mg_of_lt (by omega)]; omega
      refine ⟨isN_false.2 (by omega), ?_⟩
      unfold rk; rw [em, hn, ng_of_lt (by omega)]; simp
    · have := ge_of_ng hn
      rw [hn] at hw
      simp only [if_true] at hw ⊢
      have em : mg (x - 1) = mg x - 1 := by rw [mg_of_ge (by omega) (by omega)]; omega
      refine ⟨isN_false.2 (by omega), ?_⟩
      unfold rk; rw [em, hn, ng_of_ge (by omega)]; simp only [if_true]; omega
theorem rk_down (x : Nat) (hx : x < 18446744073709551616) (n : isN x = false) (hi : ¬ x = 18442240474082181120) : isN (downB x) = false ∧ rk (downB x) = rk x - 1 := by
  have hy := negB_lt hx
  have hi' : ¬ negB x = 9218868437227405312 := by
    intro h
    have := negB_negB x hx
    rw [h] at this
    have e : negB 9218868437227405312 = 18442240474082181120 := by decide
    omega
  have h := rk_up (negB x) hy (by rw [isN_neg, n]) hi'
  have hu := upB_lt hy
  have e : downB x = negB (upB (negB x)) := by unfold downB; rw [n]; rfl
  rw [e, isN_neg, rk_negB _ hu, h.2, rk_negB x hx]
  exact ⟨h.1, by omega⟩
theorem word_rk (x y : Nat) (hx : x < 18446744073709551616) (hy : y < 18446744073709551616) (h : rk x = rk y) (h0 : ¬ rk x = 0) : x = y := by
  have wx := word_eq x hx
  have wy := word_eq y hy
  unfold rk at h h0
  cases a : ng x <;> cases b : ng y <;> rw [a] at wx h h0 <;> rw [b] at wy h <;> simp only [Bool.false_eq_true, if_false, if_true] at wx wy h h0 <;> omega

/-- the rank that so many units are rounded to -/
def R (v : Int) : Int := if v < 0 then -(min (rung 52 0 v.natAbs) 9218868437227405312 : Nat) else (min (rung 52 0 v.natAbs) 9218868437227405312 : Nat)

theorem rn_mg (z : Bool) (v : Int) : mg (rn z v) = min (rung 52 0 v.natAbs) 9218868437227405312 := by
  unfold rn
  generalize (if v = 0 then z else decide (v < 0)) = c
  cases c
  · simp only [Bool.false_eq_true, if_false]; rw [mg_of_lt (by omega)]
  · simp only [if_true]; rw [mg_of_ge (by omega) (by omega)]; omega
theorem isN_rn (z : Bool) (v : Int) : isN (rn z v) = false := isN_false.2 (by rw [rn_mg]; omega)
theorem rung_zero : rung 52 0 0 = 0 := by have := rung_mv 0; rwa [mv_zero] at this
theorem rk_rn (z : Bool) (v : Int) : rk (rn z v) = R v := by
  unfold rk R
  rw [rn_mg]
  by_cases h0 : v = 0
  · subst h0
    rw [Int.natAbs_zero, rung_zero]
    split <;> simp
  · have e : rn z v = if decide (v < 0) then 9223372036854775808 + min (rung 52 0 v.natAbs) 9218868437227405312 else min (rung 52 0 v.natAbs) 9218868437227405312 := by
      unfold rn; rw [if_neg h0]
    by_cases c : v < 0
    · have e' : rn z v = 9223372036854775808 + min (rung 52 0 v.natAbs) 9218868437227405312 := by rw [e, decide_eq_true c, if_pos rfl]
      rw [e', ng_of_ge (by omega), if_pos c, if_pos rfl]
    · have e' : rn z v = min (rung 52 0 v.natAbs) 9218868437227405312 := by rw [e, decide_eq_false c, if_neg (by decide)]
      rw [e', ng_of_lt (by omega), if_neg c, if_neg (by decide)]
theorem R_mono {v v' : Int} (h : v ≤ v') : R v ≤ R v' := by
  unfold R
  by_cases a : v < 0
  · rw [if_pos a]
    by_cases b : v' < 0
    · rw [if_pos b]
      have := rung_mono (p := 52) (d := 0) (V := v'.natAbs) (V' := v.natAbs) (by omega) (by omega)
      omega
    · rw [if_neg b]; omega
  · rw [if_neg a, if_neg (by omega)]
    have := rung_mono (p := 52) (d := 0) (V := v.natAbs) (V' := v'.natAbs) (by omega) (by omega)
    omega
theorem R_sv (x : Nat) (h : mg x ≤ 9218868437227405312) : R (sv x) = rk x := by
  unfold R sv rk
  cases hn : ng x
  · simp only [Bool.false_eq_true, if_false]
    rw [if_neg (by omega), Int.natAbs_natCast, rung_mv]; omega
  · simp only [if_true, Int.natAbs_neg, Int.natAbs_natCast, rung_mv]
    by_cases z : mg x = 0
    · rw [z, mv_zero]; simp
    · have := (@mv_lt 0 (mg x)).2 (by omega)
      rw [mv_zero] at this
      rw [if_pos (by omega)]; omega

theorem mv_succ (r : Nat) : mv (r + 1) = mv r + gap 52 r := mag_succ 52 r
/-- the step up, in units -/
theorem sv_up (x : Nat) (hx : x < 18446744073709551616) (h : mg x < 9218868437227405312) (hi : ¬ x = 9218868437227405311) :
    ∃ r, 0 < r ∧ r < 9218868437227405312 ∧ sv (upB x) - sv x = (mv r : Int) ∧ ∃ k, mv r = 2 ^ k := by
  have n : isN x = false := isN_false.2 (by omega)
  have hw := word_eq x hx
  have key : ∀ m, m < 9218868437227405311 → ∃ r, 0 < r ∧ r < 9218868437227405312 ∧ mv (m + 1) = mv m + mv r ∧ ∃ k, mv r = 2 ^ k := by
    intro m hm
    obtain ⟨r, h0, h1, e⟩ := gap_mv m hm
    exact ⟨r, h0, h1, by rw [mv_succ, e], ⟨_, e.symm⟩⟩
  have e : upB x = if mg x = 0 then 1 else if ng x then x - 1 else x + 1 := by
    unfold upB; rw [n]
    have : ¬ x = 9218868437227405312 := by
      intro h'; subst h'; simp [mg] at h
    simp only [Bool.false_eq_true, if_false, if_neg this]
  rw [e]
  by_cases z : mg x = 0
  · rw [if_pos z]
    refine ⟨1, by omega, by omega, ?_, 0, by decide⟩
    have e1 : sv 1 = 1 := by decide
    have e2 : mv 1 = 1 := by decide
    rw [e1, e2]; unfold sv; rw [z, mv_zero]; split <;> rfl
  · rw [if_neg z]
    cases hn : ng x
    · have := lt_of_ng hn
      rw [hn] at hw
      simp only [Bool.false_eq_true, if_false] at hw ⊢
      obtain ⟨r, h0, h1, e2, k⟩ := key (mg x) (by omega)
      refine ⟨r, h0, h1, ?_, k⟩
      have em : mg (x + 1) = mg x + 1 := by rw [mg_of_lt (by omega)]; omega
      unfold sv; rw [em, hn, ng_of_lt (by omega), e2]; simp only [Bool.false_eq_true, if_false]; omega
    · have := ge_of_ng hn
      rw [hn] at hw
      simp only [if_true] at hw ⊢
      obtain ⟨r, h0, h1, e2, k⟩ := key (mg x - 1) (by omega)
      rw [show mg x - 1 + 1 = mg x by omega] at e2
      refine ⟨r, h0, h1, ?_, k⟩
      have em : mg (x - 1) = mg x - 1 := by rw [mg_of_ge (by omega) (by omega)]; omega
      unfold sv; rw [em, hn, ng_of_ge (by omega)]; simp only [if_true]; omega

/-- half of a power of two, as the machine reckons it: at most half of it -/
theorem half_le (d r k : Nat) (h : mv r = 2 ^ k) : 2 * mv (rung 52 (d + 1) (mv r * 2 ^ d)) ≤ mv r := by
  cases k with
  | zero =>
    rw [h, Nat.pow_zero, Nat.one_mul]
    have : rung 52 (d + 1) (2 ^ d) = 0 := by
      have e0 : mag 52 0 = 0 := mag_zero 52
      have e1 : mag 52 (0 + 1) = 1 := by decide
      have hp : (2 : Nat) ^ (d + 1) = 2 * 2 ^ d := by rw [Nat.pow_succ]; omega
      have hp0 := pow_pos d
      rw [rung_between 52 (d + 1) 0 (2 ^ d) (by omega) (by rw [e0]; omega) (by rw [e1, hp]; omega), e0, e1, hp, if_neg (by omega)]
    rw [this, mv_zero]; omega
  | succ k =>
    have hlt : ∃ r', mv r' = 2 ^ k := by
      by_cases c : k < 52
      · refine ⟨2 ^ k, ?_⟩
        unfold mv mag
        rw [if_pos (Nat.pow_lt_pow_right (by omega) c)]
      · refine ⟨(k - 51) * 2 ^ 52, ?_⟩
        unfold mv mag
        rw [if_neg (by omega), Nat.mul_mod_left, Nat.mul_div_cancel _ (pow_pos 52), Nat.add_zero, ← Nat.pow_add]
        congr 1; omega
    obtain ⟨r', e'⟩ := hlt
    have e2 : mv r * 2 ^ d = mag 52 r' * 2 ^ (d + 1) := by
      show _ = mv r' * _
      rw [h, e', Nat.pow_succ, Nat.mul_assoc, Nat.pow_succ 2 d, Nat.mul_comm 2]
    rw [e2, rung_mag 52 (d + 1) r' (by omega), h, e', Nat.pow_succ]; omega

end Go.Proofs.Ytgbaaafikphafaa
