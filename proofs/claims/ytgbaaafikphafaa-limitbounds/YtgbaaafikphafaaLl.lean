/-
  Signs and bounds of slopes: of all floats.
-/
import Derived.Test.YtgbaaafikphafaaLk
namespace Go.Proofs.Ytgbaaafikphafaa
open Go.RowKit Tf
theorem lm1 (a b : Nat) : lm 1 a b = min a b := by unfold lm; simp
theorem lm2 (a b : Nat) : lm 2 a b = sbee a b := by unfold lm; simp
theorem lm3 (a b : Nat) : lm 3 a b = lr a b := by unfold lm; simp
theorem maxB_nn {a b : Nat} (ha : a ≤ 9218868437227405312) (hb : b ≤ 9218868437227405312) : maxB a b = max a b := by
  unfold maxB
  rw [nn_N ha, nn_N hb]
  have e : ∀ x, x ≤ 9218868437227405312 → placeB x = 9223372036854775808 + x := fun x hx => by
    unfold placeB
    rw [ng_of_lt (by omega)]
    simp only [Bool.false_eq_true, if_false]
    exact Nat.add_comm _ _
  simp only [Bool.or_self, Bool.false_eq_true, if_false]
  rw [e a ha, e b hb]
  split <;> omega
theorem rk_dn {p : Nat} (h : p ≤ 9218868437227405312) : rk (p + 9223372036854775808) = -(p : Int) := by
  unfold rk
  rw [ng_of_ge (by omega), if_pos rfl]
  have : mg (p + 9223372036854775808) = p := by unfold mg; omega
  rw [this]
theorem N_dn {p : Nat} (h : p ≤ 9218868437227405312) : isN (p + 9223372036854775808) = false := isN_false.2 (by unfold mg; omega)
theorem feq_own10 {x : Nat} (hx : x < 18446744073709551616) (h : isN x = false) : feq x x = true := by
  rw [feq_rk x x hx hx, h]; simp
theorem feq_dn {p q : Nat} (hp : p ≤ 9218868437227405312) (hq : q ≤ 9218868437227405312) : feq (p + 9223372036854775808) (q + 9223372036854775808) = decide (p = q) := by
  rw [feq_rk _ _ (by omega) (by omega), rk_dn hp, rk_dn hq, N_dn hp, N_dn hq]
  by_cases c : p = q
  · rw [decide_eq_true c, decide_eq_true (by omega)]; rfl
  · rw [decide_eq_false c, decide_eq_false (by omega)]; rfl
theorem op_pos {x : Nat} (h : 0 < x) : op x = x + 9223372036854775808 := by unfold op; rw [if_neg (by omega)]
theorem op_N {x : Nat} (h : x ≤ 9218868437227405312) : isN (op x) = false := by
  unfold op
  split
  · decide
  · exact N_dn h
theorem op_fgt {x : Nat} (h : x ≤ 9218868437227405312) : fgt (op x) 0 = false := by
  have := op_lt h
  rw [fgt_ps (by omega)]
  refine ps_no.2 ?_
  unfold op
  split <;> omega
theorem op_zero {x : Nat} (h : x ≤ 9218868437227405312) (z : feq (op x) 0 = true) : op x = 0 := by
  unfold op at z ⊢
  split
  · rfl
  · rename_i c
    rw [if_neg c, feq_rk _ _ (by omega) (by decide), rk_dn h, rk_zero, decide_eq_false (p := -(x : Int) = 0) (by omega), Bool.and_false] at z
    exact absurd z (by decide)
theorem negB_dn (p : Nat) : negB (p + 9223372036854775808) = p := by
  unfold negB
  rw [ng_of_ge (by omega), if_pos rfl, Nat.add_sub_cancel]
theorem neg_dn {p : Nat} (h : p ≤ 9218868437227405312) : Op.negFloat .f64 (p + 9223372036854775808) = p := by
  rw [negFloat_eq _ (by omega), negB_dn p]
theorem mul_dn {p : Nat} (h : p ≤ 9218868437227405312) : Ieee.double.mul 4611686018427387904 (p + 9223372036854775808) = some (mlB 4611686018427387904 (p + 9223372036854775808)) := by
  have e := two_neg h
  cases k : Ieee.double.mul 4611686018427387904 (p + 9223372036854775808) with
  | none => rw [mlB_none k] at e; unfold quiet at e; omega
  | some r => rw [mlB_some k]
theorem flt_dn {p : Nat} (h : p ≤ 9218868437227405312) (h0 : 0 < p) : flt (p + 9223372036854775808) 0 = true := by
  rw [flt_ns (by omega)]
  exact ns_iff.2 (by omega)
theorem bounds_at (a b : Nat) (w : World) (ha : a < 18446744073709551616) (hb : b < 18446744073709551616) : Calls Try.prog 4 #[.float .f64 a, .float .f64 b] w fun e w' => e = .returned (.bool true) ∧ Below w.heap.size w w' := by
  cases pp : (ps a && ps b)
  · cases n : (ns a && ns b)
    · exact bounds_z a b w pp n ha hb
    · rw [Bool.and_eq_true] at n
      have h1 := ns_iff.1 n.1
      have h2 := ns_iff.1 n.2
      have fa := flt_ns ha
      have fb := flt_ns hb
      have ga := fgt_ps ha
      rw [n.1] at fa
      rw [n.2] at fb
      rw [ns_ps n.1] at ga
      have S := fun k w => slope_at k a b w ha hb
      simp only [slp_n n.1 n.2] at S
      obtain ⟨p, e⟩ : ∃ p, a = p + 9223372036854775808 := ⟨a - 9223372036854775808, by omega⟩
      obtain ⟨q, e'⟩ : ∃ q, b = q + 9223372036854775808 := ⟨b - 9223372036854775808, by omega⟩
      subst e
      subst e'
      simp only [Nat.add_sub_cancel] at S
      have p1 : p ≤ 9218868437227405312 := by omega
      have q1 : q ≤ 9218868437227405312 := by omega
      have p0 : 0 < p := by omega
      have q0 : 0 < q := by omega
      have sf := sbee_facts p1 q1
      have mi : 0 < min p q ∧ min p q ≤ 9218868437227405312 := by omega
      have L := lr_le p q
      have S1 := S 1
      have S2 := S 2
      have S3 := S 3
      rw [lm1] at S1
      rw [lm2] at S2
      rw [lm3] at S3
      have dp := two_neg p1
      have dq := two_neg q1
      have dp1 := (d2_facts p1).1
      have dq1 := (d2_facts q1).1
      have dm := (d2_facts mi.2).1
      have om := op_pos mi.1
      have os := op_pos (x := sbee p q) (by omega)
      refine bounds_d _ _ (op (min p q)) (op (sbee p q)) (op (lr p q)) p q (min p q) (sbee p q) (mlB 4611686018427387904 (p + 9223372036854775808)) (mlB 4611686018427387904 (q + 9223372036854775808)) (maxB p q) (mlB 4611686018427387904 (min p q)) w ga fa fb
        (op_fgt mi.2) (op_fgt (by omega)) (op_fgt (by omega)) S1 S2 S3 (feq_own10 (by omega) (op_N mi.2)) (feq_own10 (by omega) (op_N (by omega))) (feq_own10 (by have := op_lt (x := lr p q) (by omega); omega) (op_N (by omega)))
        (op_zero mi.2) (op_zero (by omega)) (op_zero (by omega)) ?_
        (fun w => mag10_n _ _ w fa (neg_dn p1)) (fun w => mag10_n _ _ w fb (neg_dn q1)) (fun w => mag10_n _ _ w (by rw [om]; exact flt_dn mi.2 mi.1) (by rw [om]; exact neg_dn mi.2)) (fun w => mag10_n _ _ w (by rw [os]; exact flt_dn (by omega) (by omega)) (by rw [os]; exact neg_dn (by omega)))
        (by rw [fgt_nn mi.2 p1]; exact decide_eq_false (by omega)) (by rw [fgt_nn mi.2 q1]; exact decide_eq_false (by omega))
        (fun w => finite10_yes _ w (by have := op_lt (x := lr p q) (by omega); omega) ?_) (fun w t => run_float_arith w .mul t .f64 _ _ _ (mul_dn p1)) (fun w t => run_float_arith w .mul t .f64 _ _ _ (mul_dn q1)) (fun w t => run_float_arith w .mul t .f64 _ _ _ (mul_pp (by decide) mi.2 (by decide) mi.1))
        (fun w => finite10_at _ w (by omega)) (fun w => finite10_at _ w (by omega)) (fun w => max_any p q w (by omega) (by omega)) ?_ ?_ ?_
      · rw [om, feq_dn mi.2 p1, feq_dn mi.2 q1]
        by_cases c : p ≤ q
        · exact .inl (decide_eq_true (by omega))
        · exact .inr ⟨decide_eq_false (by omega), decide_eq_true (by omega)⟩
      · unfold op
        split
        · decide
        · unfold fin
          refine decide_eq_true ?_
          unfold mg
          omega
      · rw [fgt_nn (by omega) mi.2, feq_nn (by omega) mi.2]
        by_cases c : min p q < sbee p q
        · rw [decide_eq_true c]; rfl
        · rw [decide_eq_true (p := sbee p q = min p q) (by omega), Bool.or_true]
      · rw [flt_nn (by omega) dm, feq_nn (by omega) dm]
        by_cases c : sbee p q < mlB 4611686018427387904 (min p q)
        · rw [decide_eq_true c]; rfl
        · rw [decide_eq_true (p := sbee p q = mlB 4611686018427387904 (min p q)) (by omega), Bool.or_true]
      · rw [maxB_nn p1 q1, flt_nn (by omega) (by omega), feq_nn (by omega) (by omega)]
        by_cases c : sbee p q < max p q
        · rw [decide_eq_true c]; rfl
        · rw [decide_eq_true (p := sbee p q = max p q) (by omega), Bool.or_true]
  · rw [Bool.and_eq_true] at pp
    obtain ⟨pa, pb⟩ := pp
    obtain ⟨p0, p1⟩ := ps_iff.1 pa
    obtain ⟨q0, q1⟩ := ps_iff.1 pb
    have fa := fgt_ps ha
    have fb := fgt_ps hb
    have ga := flt_ns ha
    rw [pa] at fa
    rw [pb] at fb
    rw [ps_ns pa] at ga
    have S := fun k w => slope_at k a b w ha hb
    simp only [slp_p pa pb] at S
    have sf := sbee_facts p1 q1
    have mi : 0 < min a b ∧ min a b ≤ 9218868437227405312 := by omega
    have L := lr_le a b
    have S1 := S 1
    have S2 := S 2
    have S3 := S 3
    rw [lm1] at S1
    rw [lm2] at S2
    rw [lm3] at S3
    have dp1 := (d2_facts p1).1
    have dq1 := (d2_facts q1).1
    have dm := (d2_facts mi.2).1
    have nl : ∀ x, x ≤ 9218868437227405312 → flt x 0 = false := fun x hx => by rw [flt_nn hx (by omega)]; exact decide_eq_false (by omega)
    have zz : ∀ x, x ≤ 9218868437227405312 → feq x 0 = true → x = 0 := fun x hx h => by rw [feq_nn hx (by omega), decide_eq_true_iff] at h; exact h
    refine bounds_u a b (min a b) (sbee a b) (lr a b) a b (min a b) (sbee a b) (mlB 4611686018427387904 a) (mlB 4611686018427387904 b) (maxB a b) (mlB 4611686018427387904 (min a b)) w fa fb ga
        (nl _ mi.2) (nl _ (by omega)) (nl _ (by omega)) S1 S2 S3 (feq_own10 (by omega) (nn_N mi.2)) (feq_own10 (by omega) (nn_N (by omega))) (feq_own10 (by omega) (nn_N (by omega)))
        (zz _ mi.2) (zz _ (by omega)) (zz _ (by omega)) ?_
        (fun w => mag10_p _ w ga) (fun w => mag10_p _ w (nl _ q1)) (fun w => mag10_p _ w (nl _ mi.2)) (fun w => mag10_p _ w (nl _ (by omega)))
        (by rw [fgt_nn mi.2 p1]; exact decide_eq_false (by omega)) (by rw [fgt_nn mi.2 q1]; exact decide_eq_false (by omega))
        (fun w => finite10_yes _ w (by omega) ?_) (fun w t => run_float_arith w .mul t .f64 _ _ _ (mul_pp (by decide) p1 (by decide) p0)) (fun w t => run_float_arith w .mul t .f64 _ _ _ (mul_pp (by decide) q1 (by decide) q0)) (fun w t => run_float_arith w .mul t .f64 _ _ _ (mul_pp (by decide) mi.2 (by decide) mi.1))
        (fun w => finite10_at _ w (by omega)) (fun w => finite10_at _ w (by omega)) (fun w => max_any a b w (by omega) (by omega)) ?_ ?_ ?_
    · rw [feq_nn mi.2 p1, feq_nn mi.2 q1]
      by_cases c : a ≤ b
      · exact .inl (decide_eq_true (by omega))
      · exact .inr ⟨decide_eq_false (by omega), decide_eq_true (by omega)⟩
    · unfold fin
      refine decide_eq_true ?_
      rw [mg_of_lt (by omega)]
      exact L
    · rw [fgt_nn (by omega) mi.2, feq_nn (by omega) mi.2]
      by_cases c : min a b < sbee a b
      · rw [decide_eq_true c]; rfl
      · rw [decide_eq_true (p := sbee a b = min a b) (by omega), Bool.or_true]
    · rw [flt_nn (by omega) dm, feq_nn (by omega) dm]
      by_cases c : sbee a b < mlB 4611686018427387904 (min a b)
      · rw [decide_eq_true c]; rfl
      · rw [decide_eq_true (p := sbee a b = mlB 4611686018427387904 (min a b)) (by omega), Bool.or_true]
    · rw [maxB_nn p1 q1, flt_nn (by omega) (by omega), feq_nn (by omega) (by omega)]
      by_cases c : sbee a b < max a b
      · rw [decide_eq_true c]; rfl
      · rw [decide_eq_true (p := sbee a b = max a b) (by omega), Bool.or_true]
end Go.Proofs.Ytgbaaafikphafaa
