/-
  For every two floats, of any bits, the call of the statement on exact sums returns true and leaves its arguments as they were.
-/
import Derived.Test.YtcamlhpehnfnlaaRows
import Derived.Test.YtcamlhpehnfnlaaVf
import Derived.ProofKit
import Derived.OpenShut
import Derived.WalkLawsBesides
import Derived.Below
namespace Go.Proofs.Ytcamlhpehnfnlaa.twinExactDone
open Go.ChangeShapes Go.WideShapes Go.ChangeAt Go.RowKit

theorem own : ownKnob Try.prog.godebug = none := by kernel_rfl

open Tf
attribute [local go_sem] run_bits run_from raw_feq raw_fne raw_flt raw_fgt run_neg

set_option maxHeartbeats 2000000 in
theorem go_fin (a b s l t : Nat) (w : World) (PS : Hid (∀ w, Calls Try.prog 19 #[.float .f64 s] w fun e w' => e = .returned (.bool true) ∧ w' = w)) (PL : Hid (∀ w, Calls Try.prog 19 #[.float .f64 l] w fun e w' => e = .returned (.bool true) ∧ w' = w))
    (SU : Hid (∀ w, Calls Try.prog 10 #[.float .f64 a, .float .f64 b] w fun e w' => e = .returned (.tuple #[.float .f64 s, .float .f64 l]) ∧ ∃ n, w' = w.drewN n))
    (h : Ieee.double.add a b = some t) (CN : Hid (∀ w, Calls Try.prog 21 #[.float .f64 t] w fun e w' => e = .returned (.float .f64 s) ∧ w' = w)) (FI : Hid (∀ w, Calls Try.prog 22 #[.float .f64 s] w fun e w' => e = .returned (.bool true) ∧ w' = w))
    (S2 : Hid (∀ w, Calls Try.prog 10 #[.float .f64 s, .float .f64 l] w fun e w' => e = .returned (.tuple #[.float .f64 s, .float .f64 l]) ∧ ∃ n, w' = w.drewN n))
    (EQ : Hid (∀ w, Calls Try.prog 24 #[.float .f64 a, .float .f64 b, .float .f64 s, .float .f64 l] w fun e w' => e = .returned (.bool true) ∧ Below w.heap.size w w')) :
    Calls Try.prog 6 #[.float .f64 a, .float .f64 b] w fun e w' => e = .returned (.bool true) ∧ Below w.heap.size w w' := by
  have A := hid awake_any
  have SR := hid rawSame_refl
  have SA := hid same_refl
  have RB := hid rawBits_any
  have hc := fun (ty : TypeId) (w : World) => run_float_arith (P := Try.prog) w .add ty .f64 a b t h
  clear h
  go_enter Try.func6, Try.ntmps6
  go_wp2_with fail
  refine (A.out _).mono ?_
  rintro e w' ⟨rfl, k, rfl⟩
  go_wp2_with fail
  refine (SU.out _).mono ?_
  rintro e w' ⟨rfl, k, rfl⟩
  go_wp2_with fail
  refine (PS.out _).mono ?_
  rintro e w' ⟨rfl, rfl⟩
  go_wp2_with fail
  refine (PL.out _).mono ?_
  rintro e w' ⟨rfl, rfl⟩
  go_wp2_with fail
  refine (CN.out _).mono ?_
  rintro e w' ⟨rfl, rfl⟩
  go_wp2_with fail
  refine (SR.out _ _).mono ?_
  rintro e w' ⟨rfl, rfl⟩
  go_wp2_with fail
  refine (FI.out _).mono ?_
  rintro e w' ⟨rfl, rfl⟩
  go_wp2_with fail
  refine (S2.out _).mono ?_
  rintro e w' ⟨rfl, k, rfl⟩
  go_wp2_with fail
  refine (EQ.out _).mono ?_
  rintro e w' ⟨rfl, hb⟩
  have HB := hid hb
  clear hb
  go_wp2_with fail
  refine (SA.out _ _ _).mono ?_
  rintro e w' ⟨rfl, rfl⟩
  go_wp2
  go_ret
  exact ⟨rfl, (below_drewN (Below.refl _ _) _).trans HB.out⟩

set_option maxHeartbeats 2000000 in
theorem go_inf (a b s l t : Nat) (w : World) (PS : Hid (∀ w, Calls Try.prog 19 #[.float .f64 s] w fun e w' => e = .returned (.bool true) ∧ w' = w)) (PL : Hid (∀ w, Calls Try.prog 19 #[.float .f64 l] w fun e w' => e = .returned (.bool true) ∧ w' = w))
    (SU : Hid (∀ w, Calls Try.prog 10 #[.float .f64 a, .float .f64 b] w fun e w' => e = .returned (.tuple #[.float .f64 s, .float .f64 l]) ∧ ∃ n, w' = w.drewN n))
    (h : Ieee.double.add a b = some t) (CN : Hid (∀ w, Calls Try.prog 21 #[.float .f64 t] w fun e w' => e = .returned (.float .f64 s) ∧ w' = w)) (FI : Hid (∀ w, Calls Try.prog 22 #[.float .f64 s] w fun e w' => e = .returned (.bool false) ∧ w' = w)) (hl : l = 0) :
    Calls Try.prog 6 #[.float .f64 a, .float .f64 b] w fun e w' => e = .returned (.bool true) ∧ Below w.heap.size w w' := by
  have A := hid awake_any
  have SR := hid rawSame_refl
  have SA := hid same_refl
  have RB := hid rawBits_any
  have hc := fun (ty : TypeId) (w : World) => run_float_arith (P := Try.prog) w .add ty .f64 a b t h
  subst hl
  clear h
  go_enter Try.func6, Try.ntmps6
  go_wp2_with fail
  refine (A.out _).mono ?_
  rintro e w' ⟨rfl, k, rfl⟩
  go_wp2_with fail
  refine (SU.out _).mono ?_
  rintro e w' ⟨rfl, k, rfl⟩
  go_wp2_with fail
  refine (PS.out _).mono ?_
  rintro e w' ⟨rfl, rfl⟩
  go_wp2_with fail
  refine (PL.out _).mono ?_
  rintro e w' ⟨rfl, rfl⟩
  go_wp2_with fail
  refine (CN.out _).mono ?_
  rintro e w' ⟨rfl, rfl⟩
  go_wp2_with fail
  refine (SR.out _ _).mono ?_
  rintro e w' ⟨rfl, rfl⟩
  go_wp2_with fail
  refine (FI.out _).mono ?_
  rintro e w' ⟨rfl, rfl⟩
  go_wp2_with fail
  refine (RB.out _ _).mono ?_
  rintro e w' ⟨rfl, rfl⟩
  go_wp2
  go_ret
  exact ⟨rfl, below_drewN (Below.refl _ _) _⟩

set_option maxHeartbeats 2000000 in
theorem go_nan (a b s l : Nat) (w : World) (PS : Hid (∀ w, Calls Try.prog 19 #[.float .f64 s] w fun e w' => e = .returned (.bool true) ∧ w' = w)) (PL : Hid (∀ w, Calls Try.prog 19 #[.float .f64 l] w fun e w' => e = .returned (.bool true) ∧ w' = w))
    (SU : Hid (∀ w, Calls Try.prog 10 #[.float .f64 a, .float .f64 b] w fun e w' => e = .returned (.tuple #[.float .f64 s, .float .f64 l]) ∧ ∃ n, w' = w.drewN n))
    (h : Ieee.double.add a b = none) (CN : Hid (∀ w w', Calls Try.prog 21 #[.float .f64 (nanOf w a b)] w' fun e w'' => e = .returned (.float .f64 s) ∧ w'' = w')) (FI : Hid (∀ w, Calls Try.prog 22 #[.float .f64 s] w fun e w' => e = .returned (.bool false) ∧ w' = w)) (hl : l = 0) :
    Calls Try.prog 6 #[.float .f64 a, .float .f64 b] w fun e w' => e = .returned (.bool true) ∧ Below w.heap.size w w' := by
  have A := hid awake_any
  have SR := hid rawSame_refl
  have SA := hid same_refl
  have RB := hid rawBits_any
  have hc := fun (ty : TypeId) (w : World) => run_nan_add (P := Try.prog) w ty a b h
  subst hl
  clear h
  go_enter Try.func6, Try.ntmps6
  go_wp2_with fail
  refine (A.out _).mono ?_
  rintro e w' ⟨rfl, k, rfl⟩
  go_wp2_with fail
  refine (SU.out _).mono ?_
  rintro e w' ⟨rfl, k, rfl⟩
  go_wp2_with fail
  refine (PS.out _).mono ?_
  rintro e w' ⟨rfl, rfl⟩
  go_wp2_with fail
  refine (PL.out _).mono ?_
  rintro e w' ⟨rfl, rfl⟩
  go_wp2_with fail
  refine (CN.out _ _).mono ?_
  rintro e w' ⟨rfl, rfl⟩
  go_wp2_with fail
  refine (SR.out _ _).mono ?_
  rintro e w' ⟨rfl, rfl⟩
  go_wp2_with fail
  refine (FI.out _).mono ?_
  rintro e w' ⟨rfl, rfl⟩
  go_wp2_with fail
  refine (RB.out _ _).mono ?_
  rintro e w' ⟨rfl, rfl⟩
  go_wp2
  go_ret
  exact ⟨rfl, below_drewN (Below.refl _ _) _⟩

theorem walk (a0 a1 : Nat) (w0 : (Lit.float .f64 a0).wf = true) (w1 : (Lit.float .f64 a1).wf = true) (w : World) :
    Calls Try.prog 6 #[.float .f64 a0, .float .f64 a1] w fun e w' => e = .returned (.bool true) ∧ Below w.heap.size w w' := by
  have ha := lit_lt w0
  have hb := lit_lt w1
  have ls := addB_lt a0 a1 ha hb
  have ll := sumE_lt a0 a1
  have PS := hid (fun w => plain_any (addB a0 a1) w ls (canon_addB a0 a1 ha hb))
  have PL := hid (fun w => plain_any (sumE a0 a1) w ll (canon_sumE a0 a1))
  have SU := hid (fun w => sum_at a0 a1 _ _ w ha hb rfl rfl)
  have fb : ∀ v, fin (addB a0 a1) = v → Hid (∀ w, Calls Try.prog 22 #[.float .f64 (addB a0 a1)] w fun e w' => e = .returned (.bool v) ∧ w' = w) := fun v hv w => lfinite_at _ v w ls hv
  have nf : ¬ mg (addB a0 a1) < 9218868437227405312 → fin (addB a0 a1) = false ∧ sumE a0 a1 = 0 := by
    intro c
    exact ⟨by unfold fin; exact decide_eq_false c, by unfold sumE; rw [if_neg c]⟩
  cases h : Ieee.double.add a0 a1 with
  | none =>
    have e := addB_none h
    have c : ¬ mg (addB a0 a1) < 9218868437227405312 := by rw [e, quiet_mg]; omega
    refine go_nan a0 a1 _ _ w PS PL SU h ?_ (fb _ (nf c).1) (nf c).2
    intro w w'
    refine canon_to _ _ w' (nanOf_lt _ _ _) ?_
    rw [e]; unfold canonB; rw [isN_nanOf]; rfl
  | some t =>
    have lt := add_ok a0 a1 t ha hb h
    have CN := hid (fun w => canon_to t (addB a0 a1) w lt (addB_some h).symm)
    by_cases c : mg (addB a0 a1) < 9218868437227405312
    · obtain ⟨fa, fb'⟩ := fin_of_sum a0 a1 ha hb c
      obtain ⟨fe, ee⟩ := sumE_sv a0 a1 ha hb c
      have e1 : addB (addB a0 a1) (sumE a0 a1) = addB a0 a1 := by
        rw [addB_fin _ _ ls ll c fe, ee]
        have : sv (addB a0 a1) + (sv a0 + sv a1 - sv (addB a0 a1)) = sv a0 + sv a1 := by omega
        rw [this, addB_fin a0 a1 ha hb fa fb']
      have e2 : sumE (addB a0 a1) (sumE a0 a1) = sumE a0 a1 := by
        have h1 : sumE (addB a0 a1) (sumE a0 a1) = rn false (sv (addB a0 a1) + sv (sumE a0 a1) - sv (addB a0 a1)) := by
          show (if mg (addB (addB a0 a1) (sumE a0 a1)) < _ then _ else _) = _
          rw [e1, if_pos c]
        have h2 : sumE a0 a1 = rn false (sv a0 + sv a1 - sv (addB a0 a1)) := by
          show (if mg (addB a0 a1) < _ then _ else _) = _
          rw [if_pos c]
        rw [h1, ee, h2]
        have : sv (addB a0 a1) + (sv a0 + sv a1 - sv (addB a0 a1)) - sv (addB a0 a1) = sv a0 + sv a1 - sv (addB a0 a1) := by omega
        rw [this]
      have S2 := hid (fun w => sum_at (addB a0 a1) (sumE a0 a1) _ _ w ls ll e1 e2)
      have EQ := hid (fun w => equal_go a0 a1 (addB a0 a1) (sumE a0 a1) w ha hb ls ll fa fb' c fe (by omega))
      exact go_fin a0 a1 _ _ t w PS PL SU h CN (fb _ (by unfold fin; exact decide_eq_true c)) S2 EQ
    · exact go_inf a0 a1 _ _ t w PS PL SU h CN (fb _ (nf c).1) (nf c).2

set_option maxRecDepth 100000 in
theorem lifted (os : Os) (started : os.Started) (H : Type) (enc : TypeId × Value → H) :
    ReturnsInHanded {} Try.checked os 6 .any (Rows.twinExactSpec.pre6 enc Try.prog Try.f6 Rows.twinExactRow.domain false) (Rows.twinExactSpec.post enc Try.prog Try.f6 false true false false) := by
  refine returnsInHanded_of_change (C := Try.checked) own started (by kernel_rfl) Try.func6
    (ChangeSpec.witness6 (enc := enc) (C := Try.checked) false ⟨#[], #[.float .f64 0, .float .f64 0], []⟩ 8 (by kernel_rfl) (by kernel_rfl) (by kernel_rfl) (by kernel_rfl)) ?_
  intro W base args ds gs before hval0 hW hcnd _
  have hval : ∀ (j : Nat) t v, Try.f6.params[j]? = some t → args[j]? = some v → Value.okWide Try.prog W .any base t v := hval0
  have hW' := hW
  obtain ⟨p, q, hA0, hV, rfl, hfz, hnd⟩ := hW
  have hA : DataW.TrodAll enc Try.prog W 0 (fun _ => true) true Try.f6.params.toList args.toList ds p := hA0
  rw [Try.params6] at hA hval
  obtain ⟨v0, vs0, d0, ds0, p0, q0, hargs, rfl, rfl, h0, r0⟩ := trodAll_cons hA
  obtain ⟨v1, vs1, d1, ds1, p1, q1, rfl, rfl, rfl, h1, r1⟩ := trodAll_cons r0
  obtain ⟨rfl, rfl, rfl⟩ := trodAll_nil r1
  obtain rfl : args = #[v0, v1] := by cases args; simp_all
  obtain ⟨rfl, rfl⟩ := trodVars_none hV
  obtain ⟨a0, rfl, rfl, rfl, w0⟩ := open_float Try.underlying24 (hval 0 24 v0 rfl rfl) h0
  obtain ⟨a1, rfl, rfl, rfl, w1⟩ := open_float Try.underlying24 (hval 1 24 v1 rfl rfl) h1
  clear hA0 hval0
  refine (walk a0 a1 w0 w1 W).mono fun e W' ⟨he, hg⟩ => ?_
  subst he
  exact ⟨_, rfl, _, _, _, [], _, [], hW', trodAll_mk1 (shut_bool Try.underlying4 _), (trodAll_cons_mk (shut_float Try.underlying24 w0) (trodAll_cons_mk (shut_float Try.underlying24 w1) trodAll_mk0)), rfl, hg.frame _, fun h => by cases h⟩

theorem over : Rows.twinExactRow.holds Try.pinned (OpenSpec.ofChange Rows.twinExactSpec) :=
  OpenClaim.holds_of_wide 6 Try.f6 rfl rfl rfl rfl rfl rfl rfl ⟨rfl, rfl, rfl, rfl, rfl⟩ rfl rfl rfl rfl rfl (by kernel_rfl) Try.func6 (by kernel_rfl)
    (of_decide_eq_true (by kernel_rfl)) (by unfold Func.isWrapper; first | (rw [if_pos (by decide +kernel)]; kernel_rfl) | (rw [if_neg (by decide +kernel)]; exact ⟨rfl, rfl⟩))
    (fun os started H enc _ => lifted os started H enc)

end Go.Proofs.Ytcamlhpehnfnlaa.twinExactDone
namespace Go.Proofs.Ytcamlhpehnfnlaa
theorem twinExact_holds : Rows.TwinExactSaid := twinExactDone.over
#print axioms twinExact_holds
end Go.Proofs.Ytcamlhpehnfnlaa
