/-
  Opposite and exchanged differences, by plain numbers (no program).
-/
import Derived.Test.YtgbaaafikphafaaLe
namespace Go.Proofs.Ytgbaaafikphafaa
open Tf Ieee
theorem neg_ps {a : Nat} (h : a < 9223372036854775808) : negB a = a + 9223372036854775808 := by
  unfold negB
  rw [ng_of_lt h, if_neg (by decide)]
theorem two_neg {p : Nat} (hp : p ≤ 9218868437227405312) : mlB 4611686018427387904 (p + 9223372036854775808) = mlB 4611686018427387904 p + 9223372036854775808 := by
  by_cases c : p = 9218868437227405312
  · subst c; decide +kernel
  · have mp : mg p = p := mg_of_lt (by omega)
    have mq : mg (p + 9223372036854775808) = p := by unfold mg; omega
    have nq : ng (p + 9223372036854775808) = true := ng_of_ge (by omega)
    rw [mul_w (by decide) (by omega) (by decide) (by omega), mul_w (by decide) (by omega) (by decide) (by omega), mp, mq, nq, ng_of_lt (x := p) (by omega), show ng 4611686018427387904 = false by decide]
    simp only [Bool.false_xor, if_true, Bool.false_eq_true, if_false]
    exact Nat.add_comm _ _
theorem fin_two_p {a : Nat} (h : ps a = true) : fin (mlB 4611686018427387904 a) = decide (mlB 4611686018427387904 a < 9218868437227405312) := by
  obtain ⟨-, h⟩ := ps_iff.1 h
  have := (d2_facts h).1
  unfold fin
  rw [mg_of_lt (by omega)]
theorem fin_two_n {a : Nat} (h : ns a = true) : fin (mlB 4611686018427387904 a) = decide (mlB 4611686018427387904 (a - 9223372036854775808) < 9218868437227405312) := by
  obtain ⟨h0, h⟩ := ns_iff.1 h
  obtain ⟨p, e⟩ : ∃ p, a = p + 9223372036854775808 := ⟨a - 9223372036854775808, by omega⟩
  subst e
  rw [Nat.add_sub_cancel, two_neg (by omega)]
  have := (d2_facts (a := p) (by omega)).1
  unfold fin
  have m : mg (mlB 4611686018427387904 p + 9223372036854775808) = mlB 4611686018427387904 p := by unfold mg; omega
  rw [m]
theorem ps_neg {a : Nat} (ha : a < 18446744073709551616) : ps (negB a) = ns a := by
  by_cases c : a < 9223372036854775808
  · rw [neg_ps c, ps_no.2 (by omega), ns_no.2 (by omega)]
  · have e : negB a = a - 9223372036854775808 := by
      unfold negB
      rw [ng_of_ge (by omega), if_pos rfl]
    rw [e]
    by_cases d : ns a = true
    · have := ns_iff.1 d
      rw [d, ps_iff.2 (by omega)]
    · have d := Bool.eq_false_iff.2 d
      have := ns_no.1 d
      rw [d, ps_no.2 (by omega)]
theorem ns_neg {a : Nat} (ha : a < 18446744073709551616) : ns (negB a) = ps a := by
  rw [← ps_neg (negB_lt' ha), negB_negB' ha]
theorem ps_ns {a : Nat} (h : ps a = true) : ns a = false := ns_no.2 (by have := ps_iff.1 h; omega)
theorem ns_ps {a : Nat} (h : ns a = true) : ps a = false := ps_no.2 (by have := ns_iff.1 h; omega)
theorem slp_p {k : Int} {a b : Nat} (ha : ps a = true) (hb : ps b = true) : slp k a b = lm k a b := by unfold slp; rw [ha, hb]; rfl
theorem slp_n {k : Int} {a b : Nat} (ha : ns a = true) (hb : ns b = true) : slp k a b = op (lm k (a - 9223372036854775808) (b - 9223372036854775808)) := by
  unfold slp; rw [ns_ps ha, ns_ps hb, ha, hb]; simp
theorem slp_z {k : Int} {a b : Nat} (ha : (ps a && ps b) = false) (hb : (ns a && ns b) = false) : slp k a b = 0 := by
  unfold slp; rw [ha, hb]; simp
theorem canon_op' {x : Nat} (h : x ≤ 9218868437227405312) : canonB (negB (op x)) = x := by
  unfold op
  by_cases c : x = 0
  · subst c; decide
  · rw [if_neg c, neg_ns (by omega), Nat.add_sub_cancel]
    exact canon_nn h
theorem slp_neg (k : Int) {a b : Nat} (ha : a < 18446744073709551616) (hb : b < 18446744073709551616) : slp k (negB a) (negB b) = canonB (negB (slp k a b)) := by
  cases p : (ps a && ps b)
  · cases n : (ns a && ns b)
    · rw [slp_z p n, slp_z (by rw [ps_neg ha, ps_neg hb]; exact n) (by rw [ns_neg ha, ns_neg hb]; exact p)]
      decide
    · rw [Bool.and_eq_true] at n
      have h1 := ns_iff.1 n.1
      have h2 := ns_iff.1 n.2
      rw [slp_n n.1 n.2, slp_p (by rw [ps_neg ha]; exact n.1) (by rw [ps_neg hb]; exact n.2), neg_ns h1.1, neg_ns h2.1, canon_op' (lm_le k (by omega) (by omega))]
  · rw [Bool.and_eq_true] at p
    have h1 := ps_iff.1 p.1
    have h2 := ps_iff.1 p.2
    rw [slp_p p.1 p.2, slp_n (by rw [ns_neg ha]; exact p.1) (by rw [ns_neg hb]; exact p.2), neg_ps (by omega), neg_ps (by omega), Nat.add_sub_cancel, Nat.add_sub_cancel, canon_op (lm_le k h1.2 h2.2)]
theorem lr_comm {a b : Nat} (ha : ps a = true) (hb : ps b = true) (fa : mlB 4611686018427387904 a < 9218868437227405312) (fb : mlB 4611686018427387904 b < 9218868437227405312) : lr b a = lr a b := by
  have a1 := ps_iff.1 ha
  have b1 := ps_iff.1 hb
  have da := d2_facts a1.2
  have db := d2_facts b1.2
  have e : leer b a = leer a b := by
    unfold leer
    rw [leer_comm (by omega) (by omega) fb fa]
    congr 1
    unfold plB
    rw [addB_comm_fin b a (by omega) (by omega) (by rw [mg_of_lt (by omega)]; omega) (by rw [mg_of_lt (by omega)]; omega)]
  unfold lr
  rw [e]
theorem lm_comm {k : Int} {a b : Nat} (ha : ps a = true) (hb : ps b = true) (h : k = 3 → mlB 4611686018427387904 a < 9218868437227405312 ∧ mlB 4611686018427387904 b < 9218868437227405312) : lm k b a = lm k a b := by
  unfold lm
  rw [Nat.min_comm b a, sbee_comm b a]
  split
  · rfl
  · split
    · rfl
    · split
      · rename_i c
        exact lr_comm ha hb (h c).1 (h c).2
      · rfl
theorem slp_comm {k : Int} {a b : Nat} (h : k = 3 → fin (mlB 4611686018427387904 a) = true ∧ fin (mlB 4611686018427387904 b) = true) : slp k b a = slp k a b := by
  cases p : (ps a && ps b)
  · cases n : (ns a && ns b)
    · rw [slp_z p n, slp_z (by rw [Bool.and_comm]; exact p) (by rw [Bool.and_comm]; exact n)]
    · rw [Bool.and_eq_true] at n
      rw [slp_n n.1 n.2, slp_n n.2 n.1]
      have h1 := ns_iff.1 n.1
      have h2 := ns_iff.1 n.2
      rw [lm_comm (ps_iff.2 (by omega)) (ps_iff.2 (by omega)) (fun e => by
        have := h e
        rw [fin_two_n n.1, fin_two_n n.2, decide_eq_true_iff, decide_eq_true_iff] at this
        exact this)]
  · rw [Bool.and_eq_true] at p
    rw [slp_p p.1 p.2, slp_p p.2 p.1]
    exact lm_comm p.1 p.2 (fun e => by
        have := h e
        rw [fin_two_p p.1, fin_two_p p.2, decide_eq_true_iff, decide_eq_true_iff] at this
        exact this)
theorem fin_q {r q : Nat} (h : IsQ r q) : fin r = fin q := by
  obtain ⟨h1, h2⟩ := h
  cases n : isN r
  · rw [qB_of n] at h2; rw [h2]
  · rw [qB_N n] at h2
    rw [← h2]
    have := isN_true.1 n
    unfold fin
    rw [decide_eq_false (by omega), decide_eq_false (by decide)]
end Go.Proofs.Ytgbaaafikphafaa
