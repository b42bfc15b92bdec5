/-
  For every float, of any bits, and every whole number of 64 bits, the call of the statement on Round, Floor and Clamp returns true and leaves its arguments as they were.
-/
import Derived.Test.YtpncpbpdbdlamaaRows
import Derived.Test.YtpncpbpdbdlamaaWwA
import Derived.Test.YtpncpbpdbdlamaaWwB
import Derived.Test.YtpncpbpdbdlamaaPz
import Derived.ProofKit
import Derived.OpenShut
import Derived.WalkLawsBesides
namespace Go.Proofs.Ytpncpbpdbdlamaa.convWholeDone
open Go.ChangeShapes Go.WideShapes Go.ChangeAt Go.RowKit

theorem own : ownKnob Try.prog.godebug = none := by kernel_rfl

open Tf
attribute [local go_sem] run_bits run_from raw_feq raw_fne raw_flt raw_fgt run_neg

theorem cmp_facts (d : Nat) (hd : d < 18446744073709551616) (n : isN d = false) (c : Nat) (hc : c < 18446744073709551616) (nc : isN c = false) (r : Int) (hr : rk c = r) :
    fgt d c = decide (r < rk d) ∧ feq d c = decide (rk d = r) ∧ flt d c = decide (rk d < r) := by
  subst hr
  rw [fgt_rk d c hd hc, feq_rk d c hd hc, flt_rk d c hd hc, n, nc]
  simp
theorem walk (a0 : Nat) (a1 : Int) (w0 : (Lit.float .f64 a0).wf = true) (w1 : (Lit.int .i64 a1).wf = true) (w : World) :
    Calls Try.prog 6 #[.float .f64 a0, .int .i64 a1] w fun e w' => e = .returned (.bool true) ∧ Grown w w' := by
  have hx := lit_lt w0
  have hm0 := w1
  simp only [Lit.wf, Bool.and_eq_true, decide_eq_true_eq] at hm0
  have q1 : IntKind.i64.min = -9223372036854775808 := by decide
  have q2 : IntKind.i64.max = 9223372036854775807 := by decide
  rw [q1, q2] at hm0
  have m1 : a1 ≤ 9223372036854775807 := by omega
  have key : Calls Try.prog 6 #[.float .f64 a0, .int .i64 a1] w fun e w' => e = .returned (.bool true) ∧ ∃ n, w' = w.drewN n := by
    have k1 := cOk_wOk .even a0 hx
    have k2 := cOk_wOk .down a0 hx
    cases n : isN a0
    · have fN := cmp_facts a0 hx n 14114281232179134464 (by decide) (by decide) (-4890909195324358656) (by decide)
      have fP := cmp_facts a0 hx n 4890909195324358656 (by decide) (by decide) 4890909195324358656 (by decide)
      have fZ := cmp_facts a0 hx n 0 (by decide) (by decide) 0 (by decide)
      have hw := wOk_rk a0 hx
      rw [n] at hw
      simp only [Bool.not_false, Bool.true_and] at hw
      have hcl : ∀ m r, 0 ≤ m → (clampB a0 m = r ↔ (if cOk .even a0 then min (max (cI .even a0) (-m)) m else if fgt a0 0 then m else -m) = r) := by
        intro m r hm
        have hcm : clampM m = m := by unfold clampM; rw [if_neg (by omega)]
        unfold clampB; rw [n, hcm, if_neg (by decide)]
      by_cases c1 : -4890909195324358656 ≤ rk a0
      · by_cases c2 : rk a0 < 4890909195324358656
        · have o1 : cOk .even a0 = true := by rw [k1, hw, decide_eq_true c1, decide_eq_true c2]; rfl
          have o2 : cOk .down a0 = true := by rw [k2, hw, decide_eq_true c1, decide_eq_true c2]; rfl
          have i1 : cI .even a0 = cq .even a0 := by unfold cI; rw [o1, if_pos rfl]
          have i2 : cI .down a0 = cq .down a0 := by unfold cI; rw [o2, if_pos rfl]
          have g1 : (fgt a0 14114281232179134464 || feq a0 14114281232179134464) = true := by
            rw [fN.1, fN.2.1, ← Bool.decide_or]; exact decide_eq_true (by omega)
          have g2 : flt a0 4890909195324358656 = true := by rw [fP.2.2]; exact decide_eq_true c2
          have fx : mg a0 < 9218868437227405312 := by
            have hr : rk a0 = mg a0 ∨ rk a0 = -(mg a0 : Int) := by unfold rk; split <;> simp
            omega
          obtain ⟨ln, fn, sn⟩ := fl_cq .even a0 hx fx
          obtain ⟨lf, ff, sf⟩ := fl_cq .down a0 hx fx
          have d0 := sub_d a0 _ hx ln fx fn
          have e0 := sub_d a0 _ hx lf fx ff
          rw [sn] at d0
          rw [sf] at e0
          have kd := rk_rn (ng a0 && !ng (rn false (cq .even a0 * one))) (sv a0 - cq .even a0 * one)
          have ke := rk_rn (ng a0 && !ng (rn false (cq .down a0 * one))) (sv a0 - cq .down a0 * one)
          have ld := rn_lt (ng a0 && !ng (rn false (cq .even a0 * one))) (sv a0 - cq .even a0 * one)
          have le := rn_lt (ng a0 && !ng (rn false (cq .down a0 * one))) (sv a0 - cq .down a0 * one)
          have nd := isN_rn (ng a0 && !ng (rn false (cq .even a0 * one))) (sv a0 - cq .even a0 * one)
          have ne := isN_rn (ng a0 && !ng (rn false (cq .down a0 * one))) (sv a0 - cq .down a0 * one)
          generalize rn (ng a0 && !ng (rn false (cq .even a0 * one))) (sv a0 - cq .even a0 * one) = d at *
          generalize rn (ng a0 && !ng (rn false (cq .down a0 * one))) (sv a0 - cq .down a0 * one) = e at *
          obtain ⟨x1, x2, x3⟩ := even_left a0
          obtain ⟨y1, y2⟩ := down_left a0
          rw [← kd] at x1 x2 x3
          rw [← ke] at y1 y2
          have fH := cmp_facts d ld nd 4602678819172646912 (by decide) (by decide) 4602678819172646912 (by decide)
          have fNH := cmp_facts d ld nd 13826050856027422720 (by decide) (by decide) (-4602678819172646912) (by decide)
          have fE := cmp_facts e le ne 4607182418800017408 (by decide) (by decide) 4607182418800017408 (by decide)
          have fE0 := cmp_facts e le ne 0 (by decide) (by decide) 0 (by decide)
          have fM := cmp_facts a0 hx n 13830554455654793216 (by decide) (by decide) (-4607182418800017408) (by decide)
          have hn' : floatOfInt .f64 (cq .even a0) = rn false (cq .even a0 * one) := ofInt_d _
          have hf' : floatOfInt .f64 (cq .down a0) = rn false (cq .down a0 * one) := ofInt_d _
          generalize rn false (cq .even a0 * one) = N at *
          generalize rn false (cq .down a0 * one) = F at *
          generalize cq .down a0 = f at *
          generalize cq .even a0 = q at *
          have tm : q % 2 = 0 → q.tmod 2 = 0 := fun h => Int.tmod_eq_zero_of_dvd (Int.dvd_of_emod_eq_zero h)
          rw [o1, i1] at hcl
          simp only [if_true] at hcl
          have T1 : fgt d 13826050856027422720 = true ↔ -4602678819172646912 < rk d := by rw [fNH.1]; exact decide_eq_true_iff
          have T2 : flt d 4602678819172646912 = true ↔ rk d < 4602678819172646912 := by rw [fH.2.2]; exact decide_eq_true_iff
          have T3 : fgt e 0 = true ↔ 0 < rk e := by rw [fE0.1]; exact decide_eq_true_iff
          have T4 : flt e 4607182418800017408 = true ↔ rk e < 4607182418800017408 := by rw [fE.2.2]; exact decide_eq_true_iff
          have F1 : fgt d 13826050856027422720 = false ↔ ¬ -4602678819172646912 < rk d := by rw [fNH.1]; exact decide_eq_false_iff_not
          have F2 : flt d 4602678819172646912 = false ↔ ¬ rk d < 4602678819172646912 := by rw [fH.2.2]; exact decide_eq_false_iff_not
          have F3 : fgt e 0 = false ↔ ¬ 0 < rk e := by rw [fE0.1]; exact decide_eq_false_iff_not
          have F4 : flt e 4607182418800017408 = false ↔ ¬ rk e < 4607182418800017408 := by rw [fE.2.2]; exact decide_eq_false_iff_not
          have U1 : feq d 4602678819172646912 = true ↔ rk d = 4602678819172646912 := by rw [fH.2.1]; exact decide_eq_true_iff
          have U2 : feq d 4602678819172646912 = false ↔ ¬ rk d = 4602678819172646912 := by rw [fH.2.1]; exact decide_eq_false_iff_not
          have U3 : feq d 13826050856027422720 = true ↔ rk d = -4602678819172646912 := by rw [fNH.2.1]; exact decide_eq_true_iff
          have U4 : feq d 13826050856027422720 = false ↔ ¬ rk d = -4602678819172646912 := by rw [fNH.2.1]; exact decide_eq_false_iff_not
          have U5 : feq e 0 = true ↔ rk e = 0 := by rw [fE0.2.1]; exact decide_eq_true_iff
          have U6 : feq e 4607182418800017408 = true ↔ rk e = 4607182418800017408 := by rw [fE.2.1]; exact decide_eq_true_iff
          have Z1 : flt a0 0 = true ↔ rk a0 < 0 := by rw [fZ.2.2]; exact decide_eq_true_iff
          have Z2 : fgt a0 13830554455654793216 = true ↔ -4607182418800017408 < rk a0 := by rw [fM.1]; exact decide_eq_true_iff
          clear fN fP fZ fH fNH fE fE0 fM kd ke
          by_cases c0 : a1 < 0
          · by_cases c3 : q < -0
            · by_cases h1 : rk d = 4602678819172646912
              · rcases y2 with y2 | ⟨y2, y3, y4⟩
                · by_cases h3 : rk e = 0
                  · exact inloHzA a0 a1 w hx c0 q f i1 o1 i2 o2 g1 g2 N F d e hn' hf' d0 e0 ((hcl 0 _ (by omega)).2 (by omega)) (by omega) (T1.2 (by omega)) (F2.2 (by omega)) (U1.2 h1) (tm (x3 (.inl h1))) (F3.2 (by omega)) (U5.2 h3) (T4.2 y2)
                  · exact inloHlA a0 a1 w hx c0 q f i1 o1 i2 o2 g1 g2 N F d e hn' hf' d0 e0 ((hcl 0 _ (by omega)).2 (by omega)) (by omega) (T1.2 (by omega)) (F2.2 (by omega)) (U1.2 h1) (tm (x3 (.inl h1))) (T3.2 (by omega)) (T4.2 y2)
                · exact inloHqA a0 a1 w hx c0 q f i1 o1 i2 o2 g1 g2 N F d e hn' hf' d0 e0 ((hcl 0 _ (by omega)).2 (by omega)) (by omega) (T1.2 (by omega)) (F2.2 (by omega)) (U1.2 h1) (tm (x3 (.inl h1))) (T3.2 (by omega)) (F4.2 (by omega)) (U6.2 y2) (Z1.2 y3) (Z2.2 y4)
              · by_cases h2 : rk d = -4602678819172646912
                · rcases y2 with y2 | ⟨y2, y3, y4⟩
                  · by_cases h3 : rk e = 0
                    · exact inloNzA a0 a1 w hx c0 q f i1 o1 i2 o2 g1 g2 N F d e hn' hf' d0 e0 ((hcl 0 _ (by omega)).2 (by omega)) (by omega) (F1.2 (by omega)) (T2.2 (by omega)) (U2.2 h1) (U3.2 h2) (tm (x3 (.inr h2))) (F3.2 (by omega)) (U5.2 h3) (T4.2 y2)
                    · exact inloNlA a0 a1 w hx c0 q f i1 o1 i2 o2 g1 g2 N F d e hn' hf' d0 e0 ((hcl 0 _ (by omega)).2 (by omega)) (by omega) (F1.2 (by omega)) (T2.2 (by omega)) (U2.2 h1) (U3.2 h2) (tm (x3 (.inr h2))) (T3.2 (by omega)) (T4.2 y2)
                  · exact inloNqA a0 a1 w hx c0 q f i1 o1 i2 o2 g1 g2 N F d e hn' hf' d0 e0 ((hcl 0 _ (by omega)).2 (by omega)) (by omega) (F1.2 (by omega)) (T2.2 (by omega)) (U2.2 h1) (U3.2 h2) (tm (x3 (.inr h2))) (T3.2 (by omega)) (F4.2 (by omega)) (U6.2 y2) (Z1.2 y3) (Z2.2 y4)
                · rcases y2 with y2 | ⟨y2, y3, y4⟩
                  · by_cases h3 : rk e = 0
                    · exact inloozA a0 a1 w hx c0 q f i1 o1 i2 o2 g1 g2 N F d e hn' hf' d0 e0 ((hcl 0 _ (by omega)).2 (by omega)) (by omega) (T1.2 (by omega)) (T2.2 (by omega)) (U2.2 h1) (U4.2 h2) (F3.2 (by omega)) (U5.2 h3) (T4.2 y2)
                    · exact inloolA a0 a1 w hx c0 q f i1 o1 i2 o2 g1 g2 N F d e hn' hf' d0 e0 ((hcl 0 _ (by omega)).2 (by omega)) (by omega) (T1.2 (by omega)) (T2.2 (by omega)) (U2.2 h1) (U4.2 h2) (T3.2 (by omega)) (T4.2 y2)
                  · exact inlooqA a0 a1 w hx c0 q f i1 o1 i2 o2 g1 g2 N F d e hn' hf' d0 e0 ((hcl 0 _ (by omega)).2 (by omega)) (by omega) (T1.2 (by omega)) (T2.2 (by omega)) (U2.2 h1) (U4.2 h2) (T3.2 (by omega)) (F4.2 (by omega)) (U6.2 y2) (Z1.2 y3) (Z2.2 y4)
            · by_cases c4 : 0 < q
              · by_cases h1 : rk d = 4602678819172646912
                · rcases y2 with y2 | ⟨y2, y3, y4⟩
                  · by_cases h3 : rk e = 0
                    · exact inhiHzA a0 a1 w hx c0 q f i1 o1 i2 o2 g1 g2 N F d e hn' hf' d0 e0 ((hcl 0 _ (by omega)).2 (by omega)) (by omega) (T1.2 (by omega)) (F2.2 (by omega)) (U1.2 h1) (tm (x3 (.inl h1))) (F3.2 (by omega)) (U5.2 h3) (T4.2 y2)
                    · exact inhiHlA a0 a1 w hx c0 q f i1 o1 i2 o2 g1 g2 N F d e hn' hf' d0 e0 ((hcl 0 _ (by omega)).2 (by omega)) (by omega) (T1.2 (by omega)) (F2.2 (by omega)) (U1.2 h1) (tm (x3 (.inl h1))) (T3.2 (by omega)) (T4.2 y2)
                  · exact inhiHqA a0 a1 w hx c0 q f i1 o1 i2 o2 g1 g2 N F d e hn' hf' d0 e0 ((hcl 0 _ (by omega)).2 (by omega)) (by omega) (T1.2 (by omega)) (F2.2 (by omega)) (U1.2 h1) (tm (x3 (.inl h1))) (T3.2 (by omega)) (F4.2 (by omega)) (U6.2 y2) (Z1.2 y3) (Z2.2 y4)
                · by_cases h2 : rk d = -4602678819172646912
                  · rcases y2 with y2 | ⟨y2, y3, y4⟩
                    · by_cases h3 : rk e = 0
                      · exact inhiNzA a0 a1 w hx c0 q f i1 o1 i2 o2 g1 g2 N F d e hn' hf' d0 e0 ((hcl 0 _ (by omega)).2 (by omega)) (by omega) (F1.2 (by omega)) (T2.2 (by omega)) (U2.2 h1) (U3.2 h2) (tm (x3 (.inr h2))) (F3.2 (by omega)) (U5.2 h3) (T4.2 y2)
                      · exact inhiNlA a0 a1 w hx c0 q f i1 o1 i2 o2 g1 g2 N F d e hn' hf' d0 e0 ((hcl 0 _ (by omega)).2 (by omega)) (by omega) (F1.2 (by omega)) (T2.2 (by omega)) (U2.2 h1) (U3.2 h2) (tm (x3 (.inr h2))) (T3.2 (by omega)) (T4.2 y2)
                    · exact inhiNqA a0 a1 w hx c0 q f i1 o1 i2 o2 g1 g2 N F d e hn' hf' d0 e0 ((hcl 0 _ (by omega)).2 (by omega)) (by omega) (F1.2 (by omega)) (T2.2 (by omega)) (U2.2 h1) (U3.2 h2) (tm (x3 (.inr h2))) (T3.2 (by omega)) (F4.2 (by omega)) (U6.2 y2) (Z1.2 y3) (Z2.2 y4)
                  · rcases y2 with y2 | ⟨y2, y3, y4⟩
                    · by_cases h3 : rk e = 0
                      · exact inhiozA a0 a1 w hx c0 q f i1 o1 i2 o2 g1 g2 N F d e hn' hf' d0 e0 ((hcl 0 _ (by omega)).2 (by omega)) (by omega) (T1.2 (by omega)) (T2.2 (by omega)) (U2.2 h1) (U4.2 h2) (F3.2 (by omega)) (U5.2 h3) (T4.2 y2)
                      · exact inhiolA a0 a1 w hx c0 q f i1 o1 i2 o2 g1 g2 N F d e hn' hf' d0 e0 ((hcl 0 _ (by omega)).2 (by omega)) (by omega) (T1.2 (by omega)) (T2.2 (by omega)) (U2.2 h1) (U4.2 h2) (T3.2 (by omega)) (T4.2 y2)
                    · exact inhioqA a0 a1 w hx c0 q f i1 o1 i2 o2 g1 g2 N F d e hn' hf' d0 e0 ((hcl 0 _ (by omega)).2 (by omega)) (by omega) (T1.2 (by omega)) (T2.2 (by omega)) (U2.2 h1) (U4.2 h2) (T3.2 (by omega)) (F4.2 (by omega)) (U6.2 y2) (Z1.2 y3) (Z2.2 y4)
              · by_cases h1 : rk d = 4602678819172646912
                · rcases y2 with y2 | ⟨y2, y3, y4⟩
                  · by_cases h3 : rk e = 0
                    · exact ininHzA a0 a1 w hx c0 q f i1 o1 i2 o2 g1 g2 N F d e hn' hf' d0 e0 ((hcl 0 _ (by omega)).2 (by omega)) (by omega) (by omega) (T1.2 (by omega)) (F2.2 (by omega)) (U1.2 h1) (tm (x3 (.inl h1))) (F3.2 (by omega)) (U5.2 h3) (T4.2 y2)
                    · exact ininHlA a0 a1 w hx c0 q f i1 o1 i2 o2 g1 g2 N F d e hn' hf' d0 e0 ((hcl 0 _ (by omega)).2 (by omega)) (by omega) (by omega) (T1.2 (by omega)) (F2.2 (by omega)) (U1.2 h1) (tm (x3 (.inl h1))) (T3.2 (by omega)) (T4.2 y2)
                  · exact ininHqA a0 a1 w hx c0 q f i1 o1 i2 o2 g1 g2 N F d e hn' hf' d0 e0 ((hcl 0 _ (by omega)).2 (by omega)) (by omega) (by omega) (T1.2 (by omega)) (F2.2 (by omega)) (U1.2 h1) (tm (x3 (.inl h1))) (T3.2 (by omega)) (F4.2 (by omega)) (U6.2 y2) (Z1.2 y3) (Z2.2 y4)
                · by_cases h2 : rk d = -4602678819172646912
                  · rcases y2 with y2 | ⟨y2, y3, y4⟩
                    · by_cases h3 : rk e = 0
                      · exact ininNzA a0 a1 w hx c0 q f i1 o1 i2 o2 g1 g2 N F d e hn' hf' d0 e0 ((hcl 0 _ (by omega)).2 (by omega)) (by omega) (by omega) (F1.2 (by omega)) (T2.2 (by omega)) (U2.2 h1) (U3.2 h2) (tm (x3 (.inr h2))) (F3.2 (by omega)) (U5.2 h3) (T4.2 y2)
                      · exact ininNlA a0 a1 w hx c0 q f i1 o1 i2 o2 g1 g2 N F d e hn' hf' d0 e0 ((hcl 0 _ (by omega)).2 (by omega)) (by omega) (by omega) (F1.2 (by omega)) (T2.2 (by omega)) (U2.2 h1) (U3.2 h2) (tm (x3 (.inr h2))) (T3.2 (by omega)) (T4.2 y2)
                    · exact ininNqA a0 a1 w hx c0 q f i1 o1 i2 o2 g1 g2 N F d e hn' hf' d0 e0 ((hcl 0 _ (by omega)).2 (by omega)) (by omega) (by omega) (F1.2 (by omega)) (T2.2 (by omega)) (U2.2 h1) (U3.2 h2) (tm (x3 (.inr h2))) (T3.2 (by omega)) (F4.2 (by omega)) (U6.2 y2) (Z1.2 y3) (Z2.2 y4)
                  · rcases y2 with y2 | ⟨y2, y3, y4⟩
                    · by_cases h3 : rk e = 0
                      · exact ininozA a0 a1 w hx c0 q f i1 o1 i2 o2 g1 g2 N F d e hn' hf' d0 e0 ((hcl 0 _ (by omega)).2 (by omega)) (by omega) (by omega) (T1.2 (by omega)) (T2.2 (by omega)) (U2.2 h1) (U4.2 h2) (F3.2 (by omega)) (U5.2 h3) (T4.2 y2)
                      · exact ininolA a0 a1 w hx c0 q f i1 o1 i2 o2 g1 g2 N F d e hn' hf' d0 e0 ((hcl 0 _ (by omega)).2 (by omega)) (by omega) (by omega) (T1.2 (by omega)) (T2.2 (by omega)) (U2.2 h1) (U4.2 h2) (T3.2 (by omega)) (T4.2 y2)
                    · exact ininoqA a0 a1 w hx c0 q f i1 o1 i2 o2 g1 g2 N F d e hn' hf' d0 e0 ((hcl 0 _ (by omega)).2 (by omega)) (by omega) (by omega) (T1.2 (by omega)) (T2.2 (by omega)) (U2.2 h1) (U4.2 h2) (T3.2 (by omega)) (F4.2 (by omega)) (U6.2 y2) (Z1.2 y3) (Z2.2 y4)
          · by_cases c3 : q < -a1
            · by_cases h1 : rk d = 4602678819172646912
              · rcases y2 with y2 | ⟨y2, y3, y4⟩
                · by_cases h3 : rk e = 0
                  · exact inloHzB a0 a1 w hx c0 m1 q f i1 o1 i2 o2 g1 g2 N F d e hn' hf' d0 e0 ((hcl a1 _ (by omega)).2 (by omega)) (by omega) (T1.2 (by omega)) (F2.2 (by omega)) (U1.2 h1) (tm (x3 (.inl h1))) (F3.2 (by omega)) (U5.2 h3) (T4.2 y2)
                  · exact inloHlB a0 a1 w hx c0 m1 q f i1 o1 i2 o2 g1 g2 N F d e hn' hf' d0 e0 ((hcl a1 _ (by omega)).2 (by omega)) (by omega) (T1.2 (by omega)) (F2.2 (by omega)) (U1.2 h1) (tm (x3 (.inl h1))) (T3.2 (by omega)) (T4.2 y2)
                · exact inloHqB a0 a1 w hx c0 m1 q f i1 o1 i2 o2 g1 g2 N F d e hn' hf' d0 e0 ((hcl a1 _ (by omega)).2 (by omega)) (by omega) (T1.2 (by omega)) (F2.2 (by omega)) (U1.2 h1) (tm (x3 (.inl h1))) (T3.2 (by omega)) (F4.2 (by omega)) (U6.2 y2) (Z1.2 y3) (Z2.2 y4)
              · by_cases h2 : rk d = -4602678819172646912
                · rcases y2 with y2 | ⟨y2, y3, y4⟩
                  · by_cases h3 : rk e = 0
                    · exact inloNzB a0 a1 w hx c0 m1 q f i1 o1 i2 o2 g1 g2 N F d e hn' hf' d0 e0 ((hcl a1 _ (by omega)).2 (by omega)) (by omega) (F1.2 (by omega)) (T2.2 (by omega)) (U2.2 h1) (U3.2 h2) (tm (x3 (.inr h2))) (F3.2 (by omega)) (U5.2 h3) (T4.2 y2)
                    · exact inloNlB a0 a1 w hx c0 m1 q f i1 o1 i2 o2 g1 g2 N F d e hn' hf' d0 e0 ((hcl a1 _ (by omega)).2 (by omega)) (by omega) (F1.2 (by omega)) (T2.2 (by omega)) (U2.2 h1) (U3.2 h2) (tm (x3 (.inr h2))) (T3.2 (by omega)) (T4.2 y2)
                  · exact inloNqB a0 a1 w hx c0 m1 q f i1 o1 i2 o2 g1 g2 N F d e hn' hf' d0 e0 ((hcl a1 _ (by omega)).2 (by omega)) (by omega) (F1.2 (by omega)) (T2.2 (by omega)) (U2.2 h1) (U3.2 h2) (tm (x3 (.inr h2))) (T3.2 (by omega)) (F4.2 (by omega)) (U6.2 y2) (Z1.2 y3) (Z2.2 y4)
                · rcases y2 with y2 | ⟨y2, y3, y4⟩
                  · by_cases h3 : rk e = 0
                    · exact inloozB a0 a1 w hx c0 m1 q f i1 o1 i2 o2 g1 g2 N F d e hn' hf' d0 e0 ((hcl a1 _ (by omega)).2 (by omega)) (by omega) (T1.2 (by omega)) (T2.2 (by omega)) (U2.2 h1) (U4.2 h2) (F3.2 (by omega)) (U5.2 h3) (T4.2 y2)
                    · exact inloolB a0 a1 w hx c0 m1 q f i1 o1 i2 o2 g1 g2 N F d e hn' hf' d0 e0 ((hcl a1 _ (by omega)).2 (by omega)) (by omega) (T1.2 (by omega)) (T2.2 (by omega)) (U2.2 h1) (U4.2 h2) (T3.2 (by omega)) (T4.2 y2)
                  · exact inlooqB a0 a1 w hx c0 m1 q f i1 o1 i2 o2 g1 g2 N F d e hn' hf' d0 e0 ((hcl a1 _ (by omega)).2 (by omega)) (by omega) (T1.2 (by omega)) (T2.2 (by omega)) (U2.2 h1) (U4.2 h2) (T3.2 (by omega)) (F4.2 (by omega)) (U6.2 y2) (Z1.2 y3) (Z2.2 y4)
            · by_cases c4 : a1 < q
              · by_cases h1 : rk d = 4602678819172646912
                · rcases y2 with y2 | ⟨y2, y3, y4⟩
                  · by_cases h3 : rk e = 0
                    · exact inhiHzB a0 a1 w hx c0 m1 q f i1 o1 i2 o2 g1 g2 N F d e hn' hf' d0 e0 ((hcl a1 _ (by omega)).2 (by omega)) (by omega) (T1.2 (by omega)) (F2.2 (by omega)) (U1.2 h1) (tm (x3 (.inl h1))) (F3.2 (by omega)) (U5.2 h3) (T4.2 y2)
                    · exact inhiHlB a0 a1 w hx c0 m1 q f i1 o1 i2 o2 g1 g2 N F d e hn' hf' d0 e0 ((hcl a1 _ (by omega)).2 (by omega)) (by omega) (T1.2 (by omega)) (F2.2 (by omega)) (U1.2 h1) (tm (x3 (.inl h1))) (T3.2 (by omega)) (T4.2 y2)
                  · exact inhiHqB a0 a1 w hx c0 m1 q f i1 o1 i2 o2 g1 g2 N F d e hn' hf' d0 e0 ((hcl a1 _ (by omega)).2 (by omega)) (by omega) (T1.2 (by omega)) (F2.2 (by omega)) (U1.2 h1) (tm (x3 (.inl h1))) (T3.2 (by omega)) (F4.2 (by omega)) (U6.2 y2) (Z1.2 y3) (Z2.2 y4)
                · by_cases h2 : rk d = -4602678819172646912
                  · rcases y2 with y2 | ⟨y2, y3, y4⟩
                    · by_cases h3 : rk e = 0
                      · exact inhiNzB a0 a1 w hx c0 m1 q f i1 o1 i2 o2 g1 g2 N F d e hn' hf' d0 e0 ((hcl a1 _ (by omega)).2 (by omega)) (by omega) (F1.2 (by omega)) (T2.2 (by omega)) (U2.2 h1) (U3.2 h2) (tm (x3 (.inr h2))) (F3.2 (by omega)) (U5.2 h3) (T4.2 y2)
                      · exact inhiNlB a0 a1 w hx c0 m1 q f i1 o1 i2 o2 g1 g2 N F d e hn' hf' d0 e0 ((hcl a1 _ (by omega)).2 (by omega)) (by omega) (F1.2 (by omega)) (T2.2 (by omega)) (U2.2 h1) (U3.2 h2) (tm (x3 (.inr h2))) (T3.2 (by omega)) (T4.2 y2)
                    · exact inhiNqB a0 a1 w hx c0 m1 q f i1 o1 i2 o2 g1 g2 N F d e hn' hf' d0 e0 ((hcl a1 _ (by omega)).2 (by omega)) (by omega) (F1.2 (by omega)) (T2.2 (by omega)) (U2.2 h1) (U3.2 h2) (tm (x3 (.inr h2))) (T3.2 (by omega)) (F4.2 (by omega)) (U6.2 y2) (Z1.2 y3) (Z2.2 y4)
                  · rcases y2 with y2 | ⟨y2, y3, y4⟩
                    · by_cases h3 : rk e = 0
                      · exact inhiozB a0 a1 w hx c0 m1 q f i1 o1 i2 o2 g1 g2 N F d e hn' hf' d0 e0 ((hcl a1 _ (by omega)).2 (by omega)) (by omega) (T1.2 (by omega)) (T2.2 (by omega)) (U2.2 h1) (U4.2 h2) (F3.2 (by omega)) (U5.2 h3) (T4.2 y2)
                      · exact inhiolB a0 a1 w hx c0 m1 q f i1 o1 i2 o2 g1 g2 N F d e hn' hf' d0 e0 ((hcl a1 _ (by omega)).2 (by omega)) (by omega) (T1.2 (by omega)) (T2.2 (by omega)) (U2.2 h1) (U4.2 h2) (T3.2 (by omega)) (T4.2 y2)
                    · exact inhioqB a0 a1 w hx c0 m1 q f i1 o1 i2 o2 g1 g2 N F d e hn' hf' d0 e0 ((hcl a1 _ (by omega)).2 (by omega)) (by omega) (T1.2 (by omega)) (T2.2 (by omega)) (U2.2 h1) (U4.2 h2) (T3.2 (by omega)) (F4.2 (by omega)) (U6.2 y2) (Z1.2 y3) (Z2.2 y4)
              · by_cases h1 : rk d = 4602678819172646912
                · rcases y2 with y2 | ⟨y2, y3, y4⟩
                  · by_cases h3 : rk e = 0
                    · exact ininHzB a0 a1 w hx c0 m1 q f i1 o1 i2 o2 g1 g2 N F d e hn' hf' d0 e0 ((hcl a1 _ (by omega)).2 (by omega)) (by omega) (by omega) (T1.2 (by omega)) (F2.2 (by omega)) (U1.2 h1) (tm (x3 (.inl h1))) (F3.2 (by omega)) (U5.2 h3) (T4.2 y2)
                    · exact ininHlB a0 a1 w hx c0 m1 q f i1 o1 i2 o2 g1 g2 N F d e hn' hf' d0 e0 ((hcl a1 _ (by omega)).2 (by omega)) (by omega) (by omega) (T1.2 (by omega)) (F2.2 (by omega)) (U1.2 h1) (tm (x3 (.inl h1))) (T3.2 (by omega)) (T4.2 y2)
                  · exact ininHqB a0 a1 w hx c0 m1 q f i1 o1 i2 o2 g1 g2 N F d e hn' hf' d0 e0 ((hcl a1 _ (by omega)).2 (by omega)) (by omega) (by omega) (T1.2 (by omega)) (F2.2 (by omega)) (U1.2 h1) (tm (x3 (.inl h1))) (T3.2 (by omega)) (F4.2 (by omega)) (U6.2 y2) (Z1.2 y3) (Z2.2 y4)
                · by_cases h2 : rk d = -4602678819172646912
                  · rcases y2 with y2 | ⟨y2, y3, y4⟩
                    · by_cases h3 : rk e = 0
                      · exact ininNzB a0 a1 w hx c0 m1 q f i1 o1 i2 o2 g1 g2 N F d e hn' hf' d0 e0 ((hcl a1 _ (by omega)).2 (by omega)) (by omega) (by omega) (F1.2 (by omega)) (T2.2 (by omega)) (U2.2 h1) (U3.2 h2) (tm (x3 (.inr h2))) (F3.2 (by omega)) (U5.2 h3) (T4.2 y2)
                      · exact ininNlB a0 a1 w hx c0 m1 q f i1 o1 i2 o2 g1 g2 N F d e hn' hf' d0 e0 ((hcl a1 _ (by omega)).2 (by omega)) (by omega) (by omega) (F1.2 (by omega)) (T2.2 (by omega)) (U2.2 h1) (U3.2 h2) (tm (x3 (.inr h2))) (T3.2 (by omega)) (T4.2 y2)
                    · exact ininNqB a0 a1 w hx c0 m1 q f i1 o1 i2 o2 g1 g2 N F d e hn' hf' d0 e0 ((hcl a1 _ (by omega)).2 (by omega)) (by omega) (by omega) (F1.2 (by omega)) (T2.2 (by omega)) (U2.2 h1) (U3.2 h2) (tm (x3 (.inr h2))) (T3.2 (by omega)) (F4.2 (by omega)) (U6.2 y2) (Z1.2 y3) (Z2.2 y4)
                  · rcases y2 with y2 | ⟨y2, y3, y4⟩
                    · by_cases h3 : rk e = 0
                      · exact ininozB a0 a1 w hx c0 m1 q f i1 o1 i2 o2 g1 g2 N F d e hn' hf' d0 e0 ((hcl a1 _ (by omega)).2 (by omega)) (by omega) (by omega) (T1.2 (by omega)) (T2.2 (by omega)) (U2.2 h1) (U4.2 h2) (F3.2 (by omega)) (U5.2 h3) (T4.2 y2)
                      · exact ininolB a0 a1 w hx c0 m1 q f i1 o1 i2 o2 g1 g2 N F d e hn' hf' d0 e0 ((hcl a1 _ (by omega)).2 (by omega)) (by omega) (by omega) (T1.2 (by omega)) (T2.2 (by omega)) (U2.2 h1) (U4.2 h2) (T3.2 (by omega)) (T4.2 y2)
                    · exact ininoqB a0 a1 w hx c0 m1 q f i1 o1 i2 o2 g1 g2 N F d e hn' hf' d0 e0 ((hcl a1 _ (by omega)).2 (by omega)) (by omega) (by omega) (T1.2 (by omega)) (T2.2 (by omega)) (U2.2 h1) (U4.2 h2) (T3.2 (by omega)) (F4.2 (by omega)) (U6.2 y2) (Z1.2 y3) (Z2.2 y4)
        · have o1 : cOk .even a0 = false := by rw [k1, hw, decide_eq_false c2, Bool.and_false]
          have o2 : cOk .down a0 = false := by rw [k2, hw, decide_eq_false c2, Bool.and_false]
          have i1 : cI .even a0 = 0 := by unfold cI; rw [o1]; rfl
          have i2 : cI .down a0 = 0 := by unfold cI; rw [o2]; rfl
          have s1 : fgt a0 0 = true := by rw [fZ.1]; exact decide_eq_true (by omega)
          by_cases c0 : a1 < 0
          · exact oposA a0 a1 w hx c0 i1 o1 i2 o2 (by rw [fN.1, fN.2.1, ← Bool.decide_or]; exact decide_eq_true (by omega)) (by rw [fP.2.2]; exact decide_eq_false c2) s1 (by rw [fZ.2.2]; exact decide_eq_false (by omega)) ((hcl 0 _ (by omega)).2 (by rw [o1, s1]; rfl))
          · exact oposB a0 a1 w hx c0 m1 i1 o1 i2 o2 (by rw [fN.1, fN.2.1, ← Bool.decide_or]; exact decide_eq_true (by omega)) (by rw [fP.2.2]; exact decide_eq_false c2) s1 (by rw [fZ.2.2]; exact decide_eq_false (by omega)) ((hcl a1 _ (by omega)).2 (by rw [o1, s1]; rfl))
      · have o1 : cOk .even a0 = false := by rw [k1, hw, decide_eq_false c1, Bool.false_and]
        have o2 : cOk .down a0 = false := by rw [k2, hw, decide_eq_false c1, Bool.false_and]
        have i1 : cI .even a0 = 0 := by unfold cI; rw [o1]; rfl
        have i2 : cI .down a0 = 0 := by unfold cI; rw [o2]; rfl
        have s1 : fgt a0 0 = false := by rw [fZ.1]; exact decide_eq_false (by omega)
        by_cases c0 : a1 < 0
        · exact onegA a0 a1 w hx c0 i1 o1 i2 o2 (by rw [fN.1]; exact decide_eq_false (by omega)) (by rw [fN.2.1]; exact decide_eq_false (by omega)) s1 (by rw [fZ.2.2]; exact decide_eq_true (by omega)) ((hcl 0 _ (by omega)).2 (by rw [o1, s1]; rfl))
        · exact onegB a0 a1 w hx c0 m1 i1 o1 i2 o2 (by rw [fN.1]; exact decide_eq_false (by omega)) (by rw [fN.2.1]; exact decide_eq_false (by omega)) s1 (by rw [fZ.2.2]; exact decide_eq_true (by omega)) ((hcl a1 _ (by omega)).2 (by rw [o1, s1]; rfl))
    · have o1 := cOk_nan .even n
      have o2 := cOk_nan .down n
      have hz : ∀ c, c < 18446744073709551616 → fgt a0 c = false ∧ feq a0 c = false ∧ flt a0 c = false := by
        intro c hc
        rw [fgt_rk a0 c hx hc, feq_rk a0 c hx hc, flt_rk a0 c hx hc, n]; simp
      have h1 := hz 14114281232179134464 (by decide)
      have h2 := hz 0 (by decide)
      by_cases c0 : a1 < 0
      · exact onanA a0 a1 w hx c0 o1.2 o1.1 o2.2 o2.1 h1.1 h1.2.1 h2.1 h2.2.2 (by unfold clampB; rw [n]; rfl)
      · exact onanB a0 a1 w hx c0 m1 o1.2 o1.1 o2.2 o2.1 h1.1 h1.2.1 h2.1 h2.2.2 (by unfold clampB; rw [n]; rfl)
  exact key.mono fun e w' ⟨h1, n, h2⟩ => ⟨h1, by rw [h2]; exact Grown.refl _⟩

set_option maxRecDepth 100000 in
theorem lifted (os : Os) (started : os.Started) (H : Type) (enc : TypeId × Value → H) :
    ReturnsInHanded {} Try.checked os 6 .any (Rows.convWholeSpec.pre6 enc Try.prog Try.f6 Rows.convWholeRow.domain false) (Rows.convWholeSpec.post enc Try.prog Try.f6 false true false false) := by
  refine returnsInHanded_of_change (C := Try.checked) own started (by kernel_rfl) Try.func6
    (ChangeSpec.witness6 (enc := enc) (C := Try.checked) false ⟨#[], #[.float .f64 0, .int .i64 0], []⟩ 8 (by kernel_rfl) (by kernel_rfl) (by kernel_rfl) (by kernel_rfl)) ?_
  intro W base args ds gs before hval0 hW hcnd _
  have hval : ∀ (j : Nat) t v, Try.f6.params[j]? = some t → args[j]? = some v → Value.okWide Try.prog W .any base t v := hval0
  have hW' := hW
  obtain ⟨p, q, hA0, hV, rfl, hfz, hnd⟩ := hW
  have hA : DataW.TrodAll enc Try.prog W 0 (fun _ => true) true Try.f6.params.toList args.toList ds p := hA0
  rw [Try.params6] at hA hval
  obtain ⟨v0, vs0, d0, ds0, p0, q0, hargs, rfl, rfl, h0, r0⟩ := trodAll_cons hA
  obtain ⟨v1, vs1, d1, ds1, p1, q1, rfl, rfl, rfl, h1, r1⟩ := trodAll_cons r0
  obtain ⟨rfl, rfl, rfl⟩ := trodAll_nil r1
  obtain rfl : args = #[v0, v1] := by cases args; simp_all
  obtain ⟨rfl, rfl⟩ := trodVars_none hV
  obtain ⟨a0, rfl, rfl, rfl, w0⟩ := open_float Try.underlying24 (hval 0 24 v0 rfl rfl) h0
  obtain ⟨a1, rfl, rfl, rfl, w1⟩ := open_int Try.underlying2 (hval 1 2 v1 rfl rfl) h1
  clear hA0 hval0
  simp only [List.append_nil] at hW'
  refine (walk a0 a1 w0 w1 W).mono fun e W' ⟨he, hg⟩ => ?_
  subst he
  exact ⟨_, rfl, post_of_same (pa := []) (pv := []) hW' (fun _ _ _ => (trodAll_cons_mk (shut_bool Try.underlying4 _) trodAll_mk0)) (fun sp _ => (trodAll_cons_mk (shut_float Try.underlying24 w0) (trodAll_cons_mk (shut_int Try.underlying2 w1) trodAll_mk0))) (fun _ _ => rfl) rfl
    (hg.frame _) hg.2.1 (ok_one (by kernel_rfl) rfl (okWide_bool_mk Try.underlying4 _))⟩

theorem over : Rows.convWholeRow.holds Try.pinned (OpenSpec.ofChange Rows.convWholeSpec) :=
  OpenClaim.holds_of_wide 6 Try.f6 rfl rfl rfl rfl rfl rfl rfl ⟨rfl, rfl, rfl, rfl, rfl⟩ rfl rfl rfl rfl rfl (by kernel_rfl) Try.func6 (by kernel_rfl)
    (of_decide_eq_true (by kernel_rfl)) (by unfold Func.isWrapper; first | (rw [if_pos (by decide +kernel)]; kernel_rfl) | (rw [if_neg (by decide +kernel)]; exact ⟨rfl, rfl⟩))
    (fun os started H enc _ => lifted os started H enc)

end Go.Proofs.Ytpncpbpdbdlamaa.convWholeDone
namespace Go.Proofs.Ytpncpbpdbdlamaa
theorem convWhole_holds : Rows.ConvWholeSaid := convWholeDone.over
#print axioms convWhole_holds
end Go.Proofs.Ytpncpbpdbdlamaa
