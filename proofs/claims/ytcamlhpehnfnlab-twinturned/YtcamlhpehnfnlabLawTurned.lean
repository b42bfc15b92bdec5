/-
  For every two floats, of any bits, the call of the statement on order and signs returns true and leaves its arguments as they were.
-/
import Derived.Test.YtcamlhpehnfnlabRows
import Derived.Test.YtcamlhpehnfnlabTh
import Derived.ProofKit
import Derived.OpenShut
import Derived.WalkLawsBesides
namespace Go.Proofs.Ytcamlhpehnfnlab.twinTurnedDone
open Go.ChangeShapes Go.WideShapes Go.ChangeAt Go.RowKit

theorem own : ownKnob Try.prog.godebug = none := by kernel_rfl

open Tf
attribute [local go_sem] run_bits run_from raw_feq raw_fne raw_flt raw_fgt run_neg

theorem addB_comm (a b : Nat) (ha : a < 18446744073709551616) (hb : b < 18446744073709551616) : addB b a = addB a b := by
  have key : Ieee.double.add b a = Ieee.double.add a b := by
    rcases three a with h1 | h1 | h1
    · rcases three b with h2 | h2 | h2
      · exact addB_comm_fin b a hb ha h2 h1
      · rw [add_fi a b hb h1 h2, add_if b a hb h2 h1]
      · rw [add_nan a b (.inr h2), add_nan b a (.inl h2)]
    · rcases three b with h2 | h2 | h2
      · rw [add_if a b ha h1 h2, add_fi b a ha h2 h1]
      · rw [add_ii a b ha hb h1 h2, add_ii b a hb ha h2 h1]
        by_cases c : ng a = ng b
        · rw [if_pos c, if_pos c.symm, c]
        · rw [if_neg c, if_neg (fun h => c h.symm)]
      · rw [add_nan a b (.inr h2), add_nan b a (.inl h2)]
    · rw [add_nan a b (.inl h1), add_nan b a (.inr h1)]
  unfold addB; rw [key]
theorem sumE_comm (a b : Nat) (ha : a < 18446744073709551616) (hb : b < 18446744073709551616) : sumE b a = sumE a b := by
  unfold sumE; rw [addB_comm a b ha hb, Int.add_comm (sv b)]
theorem quiet_neg : canonB (negB quiet) = quiet := by decide
theorem addB_neg (a b : Nat) (ha : a < 18446744073709551616) (hb : b < 18446744073709551616) : addB (negB a) (negB b) = canonB (negB (addB a b)) := by
  have ha' := negB_lt ha
  have hb' := negB_lt hb
  have ma := mg_negB a
  have mb := mg_negB b
  have na := ng_negB a ha
  have nb := ng_negB b hb
  have ia := isN_neg a
  have ib := isN_neg b
  rcases three a with h1 | h1 | h1
  · rcases three b with h2 | h2 | h2
    · rw [addB_fin a b ha hb h1 h2, addB_fin _ _ ha' hb' (by rw [ma]; exact h1) (by rw [mb]; exact h2), sv_negB a ha, sv_negB b hb, rn_negv]
      rw [← Int.neg_add]
    · rw [addB_some (add_fi a b hb h1 h2), addB_some (add_fi _ _ hb' (by rw [ma]; exact h1) (by rw [mb]; exact h2)), infW_canon, infW_canon, infW_neg, infW_canon, nb]
    · rw [addB_none (add_nan a b (.inr h2)), addB_none (add_nan _ _ (.inr (by rw [ib]; exact h2))), quiet_neg]
  · rcases three b with h2 | h2 | h2
    · rw [addB_some (add_if a b ha h1 h2), addB_some (add_if _ _ ha' (by rw [ma]; exact h1) (by rw [mb]; exact h2)), infW_canon, infW_canon, infW_neg, infW_canon, na]
    · have e1 := add_ii a b ha hb h1 h2
      have e2 := add_ii _ _ ha' hb' (by rw [ma]; exact h1) (by rw [mb]; exact h2)
      rw [na, nb] at e2
      by_cases c : ng a = ng b
      · rw [if_pos c] at e1
        rw [if_pos (by rw [c])] at e2
        rw [addB_some e1, addB_some e2, infW_canon, infW_canon, infW_neg, infW_canon]
      · rw [if_neg c] at e1
        rw [if_neg (fun h => c (by revert h; cases ng a <;> cases ng b <;> simp))] at e2
        rw [addB_none e1, addB_none e2, quiet_neg]
    · rw [addB_none (add_nan a b (.inr h2)), addB_none (add_nan _ _ (.inr (by rw [ib]; exact h2))), quiet_neg]
  · rw [addB_none (add_nan a b (.inl h1)), addB_none (add_nan _ _ (.inl (by rw [ia]; exact h1))), quiet_neg]
theorem mg_addB_neg (x : Nat) (hx : x < 18446744073709551616) (n : isN x = false) : mg (canonB (negB x)) = mg x ∧ sv (canonB (negB x)) = -sv x := by
  have hn : isN (negB x) = false := by rw [isN_neg]; exact n
  refine ⟨by rw [mg_canon _ hn, mg_negB], ?_⟩
  unfold canonB
  rw [hn, if_neg (by decide)]
  by_cases c : mg (negB x) = 0
  · rw [if_pos c]
    rw [mg_negB] at c
    have h0 : sv x = 0 := by have := sv_abs x; rw [c, mv_zero] at this; omega
    rw [h0]; decide
  · rw [if_neg c, sv_negB x hx]
theorem isN_addB (a b : Nat) (ha : a < 18446744073709551616) (hb : b < 18446744073709551616) : isN (addB a b) = false ∨ addB a b = quiet := by
  rcases add_cases a b ha hb with ⟨h1, h2⟩ | h | ⟨s, h⟩
  · left; rw [addB_fin a b ha hb h1 h2]; exact isN_rn _ _
  · right; exact addB_none h
  · left; rw [addB_some h, infW_canon]; exact isN_false.2 (by rw [infW_mg]; omega)
theorem zero_neg : canonB (negB 0) = 0 := by decide
theorem sumE_neg (a b : Nat) (ha : a < 18446744073709551616) (hb : b < 18446744073709551616) : sumE (negB a) (negB b) = canonB (negB (sumE a b)) := by
  unfold sumE
  rw [addB_neg a b ha hb]
  rcases isN_addB a b ha hb with n | n
  · obtain ⟨e1, e2⟩ := mg_addB_neg _ (addB_lt a b ha hb) n
    rw [e1, e2]
    by_cases c : mg (addB a b) < 9218868437227405312
    · rw [if_pos c, if_pos c, sv_negB a ha, sv_negB b hb, rn_negv]
      have : -sv a + -sv b - -sv (addB a b) = -(sv a + sv b - sv (addB a b)) := by omega
      rw [this]
    · rw [if_neg c, if_neg c, zero_neg]
  · rw [n, quiet_neg, quiet_mg, if_neg (by omega), if_neg (by omega), zero_neg]
theorem mulB_comm (a b : Nat) (ha : a < 18446744073709551616) (hb : b < 18446744073709551616) : mulB b a = mulB a b := by
  have key : Ieee.double.mul b a = Ieee.double.mul a b := by
    rcases three a with h1 | h1 | h1
    · rcases three b with h2 | h2 | h2
      · rw [mul_d a b ha hb h1 h2, mul_d b a hb ha h2 h1, Nat.mul_comm, Bool.xor_comm]
      · rw [mul_fi a b ha hb h1 h2, mul_if b a hb ha h2 h1, Bool.xor_comm]
      · rw [mul_nan a b (.inr h2), mul_nan b a (.inl h2)]
    · rcases three b with h2 | h2 | h2
      · rw [mul_if a b ha hb h1 h2, mul_fi b a hb ha h2 h1, Bool.xor_comm]
      · rw [mul_ii a b ha hb h1 h2, mul_ii b a hb ha h2 h1, Bool.xor_comm]
      · rw [mul_nan a b (.inr h2), mul_nan b a (.inl h2)]
    · rw [mul_nan a b (.inl h1), mul_nan b a (.inr h1)]
  unfold mulB; rw [key]
theorem toldB_comm (a b p : Nat) : toldB b a p = toldB a b p := by
  unfold toldB
  rw [Bool.and_comm (decide (mg b ≤ 9092767647661031424))]
theorem prodE_comm (a b : Nat) (ha : a < 18446744073709551616) (hb : b < 18446744073709551616) : prodE b a = prodE a b := by
  unfold prodE prodV; rw [mulB_comm a b ha hb, toldB_comm, Int.mul_comm (sv b)]
theorem xor_not (a b : Bool) : ((!a) ^^ b) = !(a ^^ b) := by cases a <;> cases b <;> rfl
theorem canon_word (s : Bool) (q : Nat) (hq : q ≤ 9218868437227405312) : canonB (if (!s) = true then 9223372036854775808 + q else q) = canonB (negB (canonB (if s = true then 9223372036854775808 + q else q))) := by
  by_cases c : q = 0
  · subst c; cases s <;> decide
  · have h1 : ∀ t : Bool, canonB (if t = true then 9223372036854775808 + q else q) = if t = true then 9223372036854775808 + q else q := by
      intro t
      have hm : mg (if t = true then 9223372036854775808 + q else q) = q := by
        cases t
        · simp only [Bool.false_eq_true, if_false]; exact mg_of_lt (by omega)
        · simp only [if_true]; rw [mg_of_ge (by omega) (by omega)]; omega
      unfold canonB
      rw [isN_false.2 (by rw [hm]; exact hq), if_neg (by decide), hm, if_neg c]
    rw [h1, h1]
    cases s
    · have : negB q = 9223372036854775808 + q := by unfold negB; rw [ng_of_lt (by omega), if_neg (by decide)]; omega
      simp only [Bool.not_false, if_true, Bool.false_eq_true, if_false]
      rw [this]; exact (h1 true).symm
    · have : negB (9223372036854775808 + q) = q := by unfold negB; rw [ng_of_ge (by omega), if_pos rfl]; omega
      simp only [Bool.not_true, if_true, Bool.false_eq_true, if_false]
      rw [this]; exact (h1 false).symm
theorem mulB_neg (a b : Nat) (ha : a < 18446744073709551616) (hb : b < 18446744073709551616) : mulB (negB a) b = canonB (negB (mulB a b)) := by
  have ha' := negB_lt ha
  have ma := mg_negB a
  have na := ng_negB a ha
  have ia := isN_neg a
  rcases three a with h1 | h1 | h1
  · rcases three b with h2 | h2 | h2
    · rw [mulB_some (mul_d a b ha hb h1 h2), mulB_some (mul_d _ b ha' hb (by rw [ma]; exact h1) h2), ma, na, xor_not]
      exact canon_word _ _ (Nat.min_le_right _ _)
    · have e1 := mul_fi a b ha hb h1 h2
      have e2 := mul_fi _ b ha' hb (by rw [ma]; exact h1) h2
      rw [ma, na, xor_not] at e2
      by_cases c : mg a = 0
      · rw [if_pos c] at e1 e2
        rw [mulB_none e1, mulB_none e2, quiet_neg]
      · rw [if_neg c] at e1 e2
        rw [mulB_some e1, mulB_some e2, infW_canon, infW_canon, infW_neg, infW_canon]
    · rw [mulB_none (mul_nan a b (.inr h2)), mulB_none (mul_nan _ _ (.inr h2)), quiet_neg]
  · rcases three b with h2 | h2 | h2
    · have e1 := mul_if a b ha hb h1 h2
      have e2 := mul_if _ b ha' hb (by rw [ma]; exact h1) h2
      rw [na, xor_not] at e2
      by_cases c : mg b = 0
      · rw [if_pos c] at e1 e2
        rw [mulB_none e1, mulB_none e2, quiet_neg]
      · rw [if_neg c] at e1 e2
        rw [mulB_some e1, mulB_some e2, infW_canon, infW_canon, infW_neg, infW_canon]
    · have e1 := mul_ii a b ha hb h1 h2
      have e2 := mul_ii _ b ha' hb (by rw [ma]; exact h1) h2
      rw [na, xor_not] at e2
      rw [mulB_some e1, mulB_some e2, infW_canon, infW_canon, infW_neg, infW_canon]
    · rw [mulB_none (mul_nan a b (.inr h2)), mulB_none (mul_nan _ _ (.inr h2)), quiet_neg]
  · rw [mulB_none (mul_nan a b (.inl h1)), mulB_none (mul_nan _ _ (.inl (by rw [ia]; exact h1))), quiet_neg]
theorem isN_mulB (a b : Nat) (ha : a < 18446744073709551616) (hb : b < 18446744073709551616) : isN (mulB a b) = false ∨ mulB a b = quiet := by
  cases h : Ieee.double.mul a b with
  | none => right; exact mulB_none h
  | some p =>
    left
    rw [mulB_some h]
    have n := (mul_ok a b p ha hb h).2
    rw [isN_false, mg_canon p n]
    exact isN_false.1 n
theorem prodE_neg (a b : Nat) (ha : a < 18446744073709551616) (hb : b < 18446744073709551616) : prodE (negB a) b = canonB (negB (prodE a b)) := by
  cases h : Ieee.double.mul a b with
  | none =>
    have q : mulB a b = quiet := mulB_none h
    have tq : ∀ x, toldB x b quiet = false := by
      intro x
      have h3 : decide (mg quiet ≤ 9200854038717923328) = false := by rw [quiet_mg]; rfl
      unfold toldB; rw [h3]; simp
    unfold prodE
    rw [mulB_neg a b ha hb, q, quiet_neg, tq, tq, if_neg (by decide), if_neg (by decide), zero_neg]
  | some p =>
    have hp := mul_ok a b p ha hb h
    have n : isN (mulB a b) = false := by
      rw [mulB_some h, isN_false, mg_canon p hp.2]; exact isN_false.1 hp.2
    obtain ⟨e1, e2⟩ := mg_addB_neg _ (mulB_lt a b ha hb) n
    unfold prodE
    rw [mulB_neg a b ha hb]
    have et : toldB (negB a) b (canonB (negB (mulB a b))) = toldB a b (mulB a b) := by unfold toldB; rw [e1, mg_negB]
    rw [et, e2]
    cases t : toldB a b (mulB a b)
    · rw [if_neg (by decide), if_neg (by decide), zero_neg]
    · rw [if_pos rfl, if_pos rfl, rn_negv]
      have t' : toldB a b p = true := by
        rw [← t]; unfold toldB; rw [mulB_some h, mg_canon p hp.2]
      obtain ⟨W, hh, lh, hl, ll, P, eV, _⟩ := prod_facts a b p ha hb h t'
      have hK : ((2 ^ K : Nat) : Int) ≠ 0 := by have := pow_pos K; omega
      have eN : prodV (negB a) b = -W := by
        unfold prodV
        rw [sv_negB a ha, Int.neg_mul, P.eW, ← Int.neg_mul]
        exact Int.mul_ediv_cancel _ hK
      rw [eN, eV]
      have : -W - -sv (mulB a b) = -(W - sv (mulB a b)) := by omega
      rw [this]

set_option maxHeartbeats 2000000 in
theorem go (a b na nb s l p q ns nl np nq s' l' p' q' : Nat) (w : World) (ha : a < 18446744073709551616) (hb : b < 18446744073709551616)
    (e1 : Op.negFloat .f64 a = na) (e2 : Op.negFloat .f64 b = nb) (hna : na < 18446744073709551616) (hnb : nb < 18446744073709551616)
    (c1 : Hid (addB a b = s)) (c2 : Hid (sumE a b = l)) (c3 : Hid (addB b a = s)) (c4 : Hid (sumE b a = l)) (c5 : Hid (addB na nb = s')) (c6 : Hid (sumE na nb = l'))
    (c7 : Hid (mulB a b = p)) (c8 : Hid (prodE a b = q)) (c9 : Hid (mulB b a = p)) (d1 : Hid (prodE b a = q)) (d2 : Hid (mulB na b = p')) (d3 : Hid (prodE na b = q'))
    (f1 : Op.negFloat .f64 s = ns) (f2 : Op.negFloat .f64 l = nl) (f3 : Op.negFloat .f64 p = np) (f4 : Op.negFloat .f64 q = nq)
    (g1 : ns < 18446744073709551616) (g2 : nl < 18446744073709551616) (g3 : np < 18446744073709551616) (g4 : nq < 18446744073709551616)
    (k1 : Hid (canonB ns = s')) (k2 : Hid (canonB nl = l')) (k3 : Hid (canonB np = p')) (k4 : Hid (canonB nq = q')) :
    Calls Try.prog 3 #[.float .f64 a, .float .f64 b] w fun e w' => e = .returned (.bool true) ∧ ∃ n, w' = w.drewN n := by
  have A := hid awake_any
  have B1 := hid (fun w => sum_at a b s l w ha hb c1.out c2.out)
  have B2 := hid (fun w => sum_at b a s l w hb ha c3.out c4.out)
  have B3 := hid (fun w => sum_at na nb s' l' w hna hnb c5.out c6.out)
  have B4 := hid (fun w => prod_at a b p q w ha hb c7.out c8.out)
  have B5 := hid (fun w => prod_at b a p q w hb ha c9.out d1.out)
  have B6 := hid (fun w => prod_at na b p' q' w hna hb d2.out d3.out)
  have D1 := hid (fun w => canon_to ns s' w g1 k1.out)
  have D2 := hid (fun w => canon_to nl l' w g2 k2.out)
  have D3 := hid (fun w => canon_to np p' w g3 k3.out)
  have D4 := hid (fun w => canon_to nq q' w g4 k4.out)
  have S := hid same_refl
  clear ha hb hna hnb c1 c2 c3 c4 c5 c6 c7 c8 c9 d1 d2 d3 g1 g2 g3 g4 k1 k2 k3 k4
  go_enter Try.func3, Try.ntmps3
  go_wp2_with fail
  refine (A.out _).mono ?_
  rintro e w' ⟨rfl, k, rfl⟩
  go_wp2_with fail
  refine (B1.out _).mono ?_
  rintro e w' ⟨rfl, k, rfl⟩
  go_wp2_with fail
  refine (B2.out _).mono ?_
  rintro e w' ⟨rfl, k, rfl⟩
  go_wp2_with fail
  refine (B3.out _).mono ?_
  rintro e w' ⟨rfl, k, rfl⟩
  go_wp2_with fail
  refine (B4.out _).mono ?_
  rintro e w' ⟨rfl, k, rfl⟩
  go_wp2_with fail
  refine (B5.out _).mono ?_
  rintro e w' ⟨rfl, k, rfl⟩
  go_wp2_with fail
  refine (B6.out _).mono ?_
  rintro e w' ⟨rfl, k, rfl⟩
  go_wp2_with fail
  refine (S.out _ _ _).mono ?_
  rintro e w' ⟨rfl, rfl⟩
  go_wp2_with fail
  refine (D1.out _).mono ?_
  rintro e w' ⟨rfl, rfl⟩
  go_wp2_with fail
  refine (D2.out _).mono ?_
  rintro e w' ⟨rfl, rfl⟩
  go_wp2_with fail
  refine (S.out _ _ _).mono ?_
  rintro e w' ⟨rfl, rfl⟩
  go_wp2_with fail
  refine (S.out _ _ _).mono ?_
  rintro e w' ⟨rfl, rfl⟩
  go_wp2_with fail
  refine (D3.out _).mono ?_
  rintro e w' ⟨rfl, rfl⟩
  go_wp2_with fail
  refine (D4.out _).mono ?_
  rintro e w' ⟨rfl, rfl⟩
  go_wp2_with fail
  refine (S.out _ _ _).mono ?_
  rintro e w' ⟨rfl, rfl⟩
  go_wp2
  go_ret
  exact ⟨rfl, _, rfl⟩

theorem walk (a0 a1 : Nat) (w0 : (Lit.float .f64 a0).wf = true) (w1 : (Lit.float .f64 a1).wf = true) (w : World) :
    Calls Try.prog 3 #[.float .f64 a0, .float .f64 a1] w fun e w' => e = .returned (.bool true) ∧ Grown w w' := by
  have hg : ∀ (n : Nat), Grown w (w.drewN n) := fun n => Grown.refl _
  have ha := lit_lt w0
  have hb := lit_lt w1
  have ng' : ∀ x, x < 18446744073709551616 → Op.negFloat .f64 x = negB x := negFloat_eq
  have hs := addB_lt a0 a1 ha hb
  have hl := sumE_lt a0 a1
  have hp := mulB_lt a0 a1 ha hb
  have hq := prodE_lt a0 a1
  exact (go a0 a1 (negB a0) (negB a1) _ _ _ _ _ _ _ _ _ _ _ _ w ha hb (ng' _ ha) (ng' _ hb) (negB_lt ha) (negB_lt hb) rfl rfl (addB_comm a0 a1 ha hb) (sumE_comm a0 a1 ha hb) rfl rfl
    rfl rfl (mulB_comm a0 a1 ha hb) (prodE_comm a0 a1 ha hb) rfl rfl (ng' _ hs) (ng' _ hl) (ng' _ hp) (ng' _ hq) (negB_lt hs) (negB_lt hl) (negB_lt hp) (negB_lt hq)
    (addB_neg a0 a1 ha hb).symm (sumE_neg a0 a1 ha hb).symm (mulB_neg a0 a1 ha hb).symm (prodE_neg a0 a1 ha hb).symm).mono fun e w' ⟨h1, n, h2⟩ => ⟨h1, by rw [h2]; exact hg n⟩

set_option maxRecDepth 100000 in
theorem lifted (os : Os) (started : os.Started) (H : Type) (enc : TypeId × Value → H) :
    ReturnsInHanded {} Try.checked os 3 .any (Rows.twinTurnedSpec.pre6 enc Try.prog Try.f3 Rows.twinTurnedRow.domain false) (Rows.twinTurnedSpec.post enc Try.prog Try.f3 false true false false) := by
  refine returnsInHanded_of_change (C := Try.checked) own started (by kernel_rfl) Try.func3
    (ChangeSpec.witness6 (enc := enc) (C := Try.checked) false ⟨#[], #[.float .f64 0, .float .f64 0], []⟩ 8 (by kernel_rfl) (by kernel_rfl) (by kernel_rfl) (by kernel_rfl)) ?_
  intro W base args ds gs before hval0 hW hcnd _
  have hval : ∀ (j : Nat) t v, Try.f3.params[j]? = some t → args[j]? = some v → Value.okWide Try.prog W .any base t v := hval0
  have hW' := hW
  obtain ⟨p, q, hA0, hV, rfl, hfz, hnd⟩ := hW
  have hA : DataW.TrodAll enc Try.prog W 0 (fun _ => true) true Try.f3.params.toList args.toList ds p := hA0
  rw [Try.params3] at hA hval
  obtain ⟨v0, vs0, d0, ds0, p0, q0, hargs, rfl, rfl, h0, r0⟩ := trodAll_cons hA
  obtain ⟨v1, vs1, d1, ds1, p1, q1, rfl, rfl, rfl, h1, r1⟩ := trodAll_cons r0
  obtain ⟨rfl, rfl, rfl⟩ := trodAll_nil r1
  obtain rfl : args = #[v0, v1] := by cases args; simp_all
  obtain ⟨rfl, rfl⟩ := trodVars_none hV
  obtain ⟨a0, rfl, rfl, rfl, w0⟩ := open_float Try.underlying22 (hval 0 22 v0 rfl rfl) h0
  obtain ⟨a1, rfl, rfl, rfl, w1⟩ := open_float Try.underlying22 (hval 1 22 v1 rfl rfl) h1
  clear hA0 hval0
  simp only [List.append_nil] at hW'
  refine (walk a0 a1 w0 w1 W).mono fun e W' ⟨he, hg⟩ => ?_
  subst he
  exact ⟨_, rfl, post_of_same (pa := []) (pv := []) hW' (fun _ _ _ => (trodAll_cons_mk (shut_bool Try.underlying4 _) trodAll_mk0)) (fun sp _ => (trodAll_cons_mk (shut_float Try.underlying22 w0) (trodAll_cons_mk (shut_float Try.underlying22 w1) trodAll_mk0))) (fun _ _ => rfl) rfl
    (hg.frame _) hg.2.1 (ok_one (by kernel_rfl) rfl (okWide_bool_mk Try.underlying4 _))⟩

theorem over : Rows.twinTurnedRow.holds Try.pinned (OpenSpec.ofChange Rows.twinTurnedSpec) :=
  OpenClaim.holds_of_wide 3 Try.f3 rfl rfl rfl rfl rfl rfl rfl ⟨rfl, rfl, rfl, rfl, rfl⟩ rfl rfl rfl rfl rfl (by kernel_rfl) Try.func3 (by kernel_rfl)
    (of_decide_eq_true (by kernel_rfl)) (by unfold Func.isWrapper; first | (rw [if_pos (by decide +kernel)]; kernel_rfl) | (rw [if_neg (by decide +kernel)]; exact ⟨rfl, rfl⟩))
    (fun os started H enc _ => lifted os started H enc)

end Go.Proofs.Ytcamlhpehnfnlab.twinTurnedDone
namespace Go.Proofs.Ytcamlhpehnfnlab
theorem twinTurned_holds : Rows.TwinTurnedSaid := twinTurnedDone.over
#print axioms twinTurned_holds
end Go.Proofs.Ytcamlhpehnfnlab
