/-
  What the statement on lengths asks, by plain numbers (no program).
-/
import Derived.Test.YtgfggfkmfhonbaaNx
namespace Go.Proofs.Ytgfggfkmfhonbaa
open Tf Ieee
/-- what good answers -/
def gB (x : Nat) : Bool := feq x 0 || (classB (sqB x) == 2)
def Gd (x : Nat) : Prop := isN x = false ∧ (mg x = 0 ∨ Gn x)
theorem gB_Gd {x : Nat} (hx : x < 18446744073709551616) (h : gB x = true) : Gd x := by
  unfold gB at h
  rw [Bool.or_eq_true] at h
  rcases h with h | h
  · rw [feq_rk x 0 hx (by decide)] at h
    simp at h
    have h2 := h.2
    rw [show rk 0 = 0 by decide] at h2
    refine ⟨h.1.1, .inl ?_⟩
    unfold rk at h2
    cases k : ng x
    · rw [k] at h2; simpa using h2
    · rw [k] at h2; simp at h2; omega
  · have hg : Gn x := by
      have h : classB (sqB x) = 2 := by simpa using h
      unfold classB at h
      unfold Gn
      by_cases a : mg (sqB x) = 0
      · rw [if_pos a] at h; simp at h
      · rw [if_neg a] at h
        by_cases b : mg (sqB x) < 4503599627370496
        · rw [if_pos b] at h; simp at h
        · rw [if_neg b] at h
          by_cases c : mg (sqB x) < 9218868437227405312
          · exact ⟨by omega, c⟩
          · rw [if_neg c] at h
            by_cases d : mg (sqB x) = 9218868437227405312
            · rw [if_pos d] at h; simp at h
            · rw [if_neg d] at h; simp at h
    exact ⟨by rw [isN_false]; have := hg.fin hx; omega, .inr hg⟩
theorem feq_zero' {x : Nat} (h : x ≤ 9218868437227405312) : feq x 0 = decide (x = 0) := by
  rw [feq_rk x 0 (by omega) (by decide), rk_pos x (by omega), show rk 0 = 0 by decide, show isN 0 = false by decide, isN_false.2 (by rw [mg_of_lt (by omega)]; exact h)]
  by_cases c : x = 0
  · rw [c]; rfl
  · rw [decide_eq_false c, decide_eq_false (by omega)]; rfl
/-- a length that is nothing, or no more than nothing -/
theorem len_bad {x y z : Nat} (hx : x < 18446744073709551616) (hy : y < 18446744073709551616) (hz : z < 18446744073709551616) (h1 : feq (lnB x y z) (lnB x y z) = true) (h2 : fgt (lnB x y z) 0 = false) :
    sqB x = 0 ∧ sqB y = 0 ∧ sqB z = 0 := by
  have nn : isN x = false ∧ isN y = false ∧ isN z = false := by
    have hq : (isN x = true ∨ isN y = true ∨ isN z = true) → False := by
      intro h
      have : lnB x y z = quiet := by
        unfold lnB
        rw [thB_nan (by
          rcases h with h | h | h
          · left; rw [sq_nan h]; exact quiet_N
          · right; left; rw [sq_nan h]; exact quiet_N
          · right; right; rw [sq_nan h]; exact quiet_N)]
        exact rt_quiet
      rw [this] at h1
      exact absurd h1 (by decide +kernel)
    refine ⟨?_, ?_, ?_⟩
    · cases k : isN x; rfl; exact (hq (.inl k)).elim
    · cases k : isN y; rfl; exact (hq (.inr (.inl k))).elim
    · cases k : isN z; rfl; exact (hq (.inr (.inr k))).elim
  obtain ⟨t1, t2, t3, t4⟩ := thB_nn (sq_nn hx nn.1) (sq_nn hy nn.2.1) (sq_nn hz nn.2.2)
  obtain ⟨r1, r2, _, _⟩ := rt_nn t1
  have hl : lnB x y z = 0 := by
    have h3 : lnB x y z ≤ 9218868437227405312 := r1
    rw [fgt_rk _ 0 (by omega) (by decide), show rk 0 = 0 by decide, rk_pos (lnB x y z) (by omega), show isN 0 = false by decide, isN_false.2 (by rw [mg_of_lt (by omega)]; exact h3)] at h2
    simp at h2
    omega
  have := r2 hl
  omega
theorem one_part {a T : Nat} (ha : a < 18446744073709551616) (ga : Gd a) (hT : T ≤ 9218868437227405312) (hle : sqB a ≤ T) : mg a ≤ rtB T ∧ (mg a = 0 ∨ 4503599627370496 ≤ rtB T) := by
  rcases ga.2 with k | k
  · exact ⟨by rw [k]; exact Nat.zero_le _, .inl k⟩
  · have hm : mg (sqB a) = sqB a := mg_of_lt (Nat.lt_of_le_of_lt (sq_nn ha ga.1) (by decide))
    have hs : 4503599627370496 ≤ sqB a := by have := k.1; rw [hm] at this; exact this
    refine ⟨?_, .inr ((rt_nn hT).2.2.1 (Nat.le_trans hs hle))⟩
    rcases Nat.lt_or_ge T 9218868437227405312 with c | c
    · exact k.low ha c hle
    · have e : T = 9218868437227405312 := Nat.le_antisymm hT c
      rw [e, rt_inf]
      exact Nat.le_of_lt (k.fin ha)
theorem rt_th0 : rtB (thB 0 0 0) = 0 := by decide +kernel
/-- of good parts -/
theorem len_good {x y z : Nat} (hx : x < 18446744073709551616) (hy : y < 18446744073709551616) (hz : z < 18446744073709551616) (gx : Gd x) (gy : Gd y) (gz : Gd z) :
    lnB x y z ≤ 9218868437227405312 ∧ (mg x ≤ lnB x y z ∧ mg y ≤ lnB x y z ∧ mg z ≤ lnB x y z) ∧ (mg x = 0 ∧ mg y = 0 ∧ mg z = 0 → lnB x y z = 0) ∧ (lnB x y z ≠ 0 → 4503599627370496 ≤ lnB x y z) := by
  have t0 : mg x = 0 ∧ mg y = 0 ∧ mg z = 0 → lnB x y z = 0 := by
    intro h
    unfold lnB
    rw [sq_zero hx h.1, sq_zero hy h.2.1, sq_zero hz h.2.2]
    exact rt_th0
  obtain ⟨t1, t2, t3, t4⟩ := thB_nn (sq_nn hx gx.1) (sq_nn hy gy.1) (sq_nn hz gz.1)
  have r1 := (rt_nn t1).1
  have ox := one_part hx gx t1 t2
  have oy := one_part hy gy t1 t3
  have oz := one_part hz gz t1 t4
  refine ⟨r1, ⟨ox.1, oy.1, oz.1⟩, t0, fun h => ?_⟩
  rcases ox.2 with a | a
  · rcases oy.2 with b | b
    · rcases oz.2 with c | c
      · exact absurd (t0 ⟨a, b, c⟩) h
      · exact c
    · exact b
  · exact a
theorem pl_z {a : Nat} (h : a ≤ 9218868437227405312) : plB a 0 = a ∧ plB 0 a = a := by
  by_cases c : a = 9218868437227405312
  · subst c; decide +kernel
  · rw [pl_word (by omega) (by omega), pl_word (by omega) (by omega), mv_zero, Nat.add_zero, Nat.zero_add, rung_mv]
    omega
theorem th_z {s : Nat} (h : s ≤ 9218868437227405312) : thB s 0 0 = s := by
  obtain ⟨u, v, z, e, hp⟩ := th_perm s 0 0
  have z0 : plB 0 0 = 0 := by decide +kernel
  have p := pl_z h
  rw [e]
  rcases hp with ⟨rfl, rfl, rfl⟩ | ⟨rfl, rfl, rfl⟩ | ⟨rfl, rfl, rfl⟩ | ⟨rfl, rfl, rfl⟩ | ⟨rfl, rfl, rfl⟩ | ⟨rfl, rfl, rfl⟩
  · rw [p.1, p.1]
  · rw [p.1, p.1]
  · rw [p.2, p.1]
  · rw [z0, p.2]
  · rw [p.2, p.1]
  · rw [z0, p.2]
/-- one part alone -/
theorem len_one {x : Nat} (hx : x < 18446744073709551616) (g : Gd x) : lnB x 0 0 = mg x := by
  unfold lnB
  rw [show sqB 0 = 0 by decide +kernel, th_z (sq_nn hx g.1)]
  rcases g.2 with k | k
  · rw [sq_zero hx k, rt_zero, k]
  · exact k.root hx
theorem max_abs {x : Nat} (hx : x < 18446744073709551616) (h : isN x = false) : maxB x (negB x) = mg x := by
  have hw := word_eq x hx
  have hnN := negB_isN hx
  have hng := negB_ng hx
  unfold maxB
  rw [hnN, h]
  simp only [Bool.or_self, Bool.false_eq_true, if_false]
  cases k : ng x
  · have hl := lt_of_ng k
    rw [k] at hw hng
    have hn : negB x = x + 9223372036854775808 := by unfold negB; simp [k]
    have p1 : placeB x = x + 9223372036854775808 := by unfold placeB; simp [k]
    have p2 : placeB (negB x) = 18446744073709551615 - negB x := by unfold placeB; simp [hng]
    have hc : ¬ placeB x < placeB (negB x) := by omega
    rw [if_neg hc]
    simpa using hw
  · have hl := ge_of_ng k
    rw [k] at hw hng
    have hn : negB x = x - 9223372036854775808 := by unfold negB; simp [k]
    have p1 : placeB x = 18446744073709551615 - x := by unfold placeB; simp [k]
    have p2 : placeB (negB x) = negB x + 9223372036854775808 := by unfold placeB; simp [hng]
    have hc : placeB x < placeB (negB x) := by omega
    rw [if_pos hc]
    have hw2 : x = 9223372036854775808 + mg x := by simpa using hw
    omega
theorem max_nn {a b : Nat} (ha : a ≤ 9218868437227405312) (hb : b ≤ 9218868437227405312) : maxB a b = max a b := by
  have na : isN a = false := isN_false.2 (by rw [mg_of_lt (by omega)]; exact ha)
  have nb : isN b = false := isN_false.2 (by rw [mg_of_lt (by omega)]; exact hb)
  unfold maxB placeB
  rw [na, nb, ng_of_lt (by omega), ng_of_lt (by omega)]
  simp only [Bool.or_self, Bool.false_eq_true, if_false]
  by_cases c : a + 9223372036854775808 < b + 9223372036854775808
  · rw [if_pos c]; omega
  · rw [if_neg c]; omega
/-- the greatest part -/
def mxB (x y z : Nat) : Nat := maxB (maxB (maxB x (negB x)) (maxB y (negB y))) (maxB z (negB z))
theorem mx_facts {x y z : Nat} (hx : x < 18446744073709551616) (hy : y < 18446744073709551616) (hz : z < 18446744073709551616) (gx : Gd x) (gy : Gd y) (gz : Gd z) :
    flt (lnB x y z) (mxB x y z) = false ∧ feq (mxB x y z) 0 = feq (lnB x y z) 0 := by
  obtain ⟨l1, ⟨l2, l3, l4⟩, l5, l6⟩ := len_good hx hy hz gx gy gz
  have mx : mg x ≤ 9218868437227405312 := isN_false.1 gx.1
  have my : mg y ≤ 9218868437227405312 := isN_false.1 gy.1
  have mz : mg z ≤ 9218868437227405312 := isN_false.1 gz.1
  have e : mxB x y z = max (max (mg x) (mg y)) (mg z) := by
    unfold mxB
    rw [max_abs hx gx.1, max_abs hy gy.1, max_abs hz gz.1, max_nn mx my, max_nn (by omega) mz]
  rw [e]
  have hm : max (max (mg x) (mg y)) (mg z) ≤ 9218868437227405312 := by omega
  constructor
  · rw [flt_mg _ _ (by omega) (by omega) (isN_false.2 (by rw [mg_of_lt (by omega)]; exact l1)) (isN_false.2 (by rw [mg_of_lt (by omega)]; exact hm))]
    simp; omega
  · rw [feq_zero' hm, feq_zero' l1]
    by_cases c : lnB x y z = 0
    · rw [c] at l2 l3 l4
      rw [decide_eq_true c, decide_eq_true (by omega)]
    · have : ¬ max (max (mg x) (mg y)) (mg z) = 0 := by
        intro h
        exact c (l5 (by omega))
      rw [decide_eq_false c, decide_eq_false this]
/-- the parts of the unit -/
theorem unit_ok {x y z a : Nat} (hx : x < 18446744073709551616) (hy : y < 18446744073709551616) (hz : z < 18446744073709551616) (gx : Gd x) (gy : Gd y) (gz : Gd z) (ha : a < 18446744073709551616) (ga : Gd a) (hle : mg a ≤ lnB x y z)
    (l0 : lnB x y z ≠ 0) (l1 : lnB x y z < 9218868437227405312) :
    (fgt (unB (lnB x y z) a) 13830554455654793216 || feq (unB (lnB x y z) a) 13830554455654793216) = true ∧ (flt (unB (lnB x y z) a) 4607182418800017408 || feq (unB (lnB x y z) a) 4607182418800017408) = true ∧ ((flt (unB (lnB x y z) a) 0 || feq (unB (lnB x y z) a) 0) = true ∨ fgt a 0 = true) ∧ ((fgt (unB (lnB x y z) a) 0 || feq (unB (lnB x y z) a) 0) = true ∨ flt a 0 = true) := by
  have hb := (len_good hx hy hz gx gy gz).2.2.2 l0
  have hlv : lvB (lnB x y z) = true := by
    rw [lv_class (by omega) (ng_of_lt (by omega))]
    unfold classB
    rw [mg_of_lt (by omega), if_neg l0, if_neg (by omega), if_pos l1]
    rfl
  have hu : unB (lnB x y z) a = dvB a (lnB x y z) := by unfold unB; rw [if_pos hlv]
  rw [hu]
  obtain ⟨r, r1, r2, r3⟩ := dv_one ha hb l1 hle (by
    rcases ga.2 with k | k
    · exact .inl k
    · exact .inr (k.norm ha))
  exact part_ok ha ga.1 r1 r2 r3
theorem unit_none {l : Nat} (h : l = 0 ∨ l = 9218868437227405312) (a : Nat) : unB l a = 0 := by
  unfold unB
  rw [if_neg]
  rcases h with rfl | rfl <;> decide +kernel
end Go.Proofs.Ytgfggfkmfhonbaa
