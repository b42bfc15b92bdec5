/-
  One operation on floats, whatever comes of it; squares, areas, roots, and vectors in the one form: walks over the program.
-/
import Derived.Test.YtgbaaafikphafaaNa
import Derived.Test.YtgbaaafikphafaaSt
import Derived.BigQuiet
import Derived.Deep.QuietTactic
import Derived.Deep.Quiet
import Derived.Deep.MidRow
import Derived.Deep.Cut
import Derived.Deep.CutRange
namespace Go.Proofs.Ytgbaaafikphafaa
open Go.RowKit Tf
theorem run_store_float {P : Program} {w : World} {a : Addr} {m : Mode} (k : FloatKind) (x : Nat) : (store a (.float k x) m).run P w = stored P w a (.float k x) m := run_store P w a _ m rfl
attribute [local go_sem] run_bits run_from raw_feq raw_fne raw_flt raw_fgt run_neg run_store_float
theorem mul_ql (a b : Nat) : Ieee.double.mul (qB a) b = Ieee.double.mul a b := by
  cases h : isN a
  · rw [qB_of h]
  · rw [mul_nan a b (.inl h), mul_nan _ _ (.inl (by rw [qB_isN]; exact h))]
theorem mul_qr (a b : Nat) : Ieee.double.mul a (qB b) = Ieee.double.mul a b := by rw [Go.Proofs.Ytgbaaafikphafaa.mul_comm, mul_ql, Go.Proofs.Ytgbaaafikphafaa.mul_comm]
theorem mul_any {P : Program} (w : World) (s q x y : Nat) (h : IsQ s q) (k : IsQ x y) : ∃ r n, (∀ t, (binOp .mul t (.float .f64 s) (.float .f64 x)).run P w = .ok (.float .f64 r) (w.drewN n)) ∧ IsQ r (mlB q y) := by
  have e0 : mlB q y = mlB s x := by unfold mlB; rw [← h.2, ← k.2, mul_ql, mul_qr]
  rw [e0]
  cases e : Ieee.double.mul s x with
  | none => exact ⟨nanOf w s x, 1, fun t => run_nan_mul w t s x e, nanOf_lt _ _ _, by rw [mlB_none e]; exact qB_N (isN_nanOf _ _ _)⟩
  | some r => exact ⟨r, 0, fun t => run_float_arith w .mul t .f64 s x r e, (mul_fact e h.1 k.1).1, by rw [mlB_some e]; exact qB_of (mul_fact e h.1 k.1).2⟩
theorem negB_q {x : Nat} (hx : x < 18446744073709551616) (h : isN x = false) : isN (negB x) = false := by rw [negB_isN hx]; exact h
theorem addB_q {a b c d : Nat} (hb : b < 18446744073709551616) (hd : d < 18446744073709551616) (h : qB a = qB c) (k : qB b = qB d) : addB a (negB b) = addB c (negB d) := by
  cases h1 : isN a
  · have h2 : isN c = false := by rw [← qB_isN, ← h, qB_isN]; exact h1
    rw [qB_of h1, qB_of h2] at h
    subst h
    cases h3 : isN b
    · have h4 : isN d = false := by rw [← qB_isN, ← k, qB_isN]; exact h3
      rw [qB_of h3, qB_of h4] at k
      rw [k]
    · have h4 : isN d = true := by rw [← qB_isN, ← k, qB_isN]; exact h3
      rw [addB_none (add_nan _ _ (.inr (by rw [negB_isN hb]; exact h3))), addB_none (add_nan _ _ (.inr (by rw [negB_isN hd]; exact h4)))]
  · have h2 : isN c = true := by rw [← qB_isN, ← h, qB_isN]; exact h1
    rw [addB_none (add_nan _ _ (.inl h1)), addB_none (add_nan _ _ (.inl h2))]
/-- a word whose one form is q -/
def IsC (s q : Nat) : Prop := s < 18446744073709551616 ∧ canonB s = q
theorem sub_any {P : Program} (w : World) (s q x y : Nat) (h : IsQ s q) (k : IsQ x y) : ∃ r n, (∀ t, (binOp .sub t (.float .f64 s) (.float .f64 x)).run P w = .ok (.float .f64 r) (w.drewN n)) ∧ IsC r (sbB q y) := by
  have e0 : sbB q y = addB s (negB x) := addB_q k.lt k.1 (by rw [← h.2, qB_qB]) (by rw [← k.2, qB_qB])
  rw [e0]
  have ea := sub_add s x k.1
  cases e : Ieee.double.sub s x with
  | none =>
    refine ⟨nanOf w s x, 1, fun t => run_nan_sub w t s x e, nanOf_lt _ _ _, ?_⟩
    rw [addB_none (by rw [← ea]; exact e)]
    unfold canonB; rw [if_pos (isN_nanOf _ _ _)]
  | some r =>
    rw [e] at ea
    exact ⟨r, 0, fun t => run_float_arith w .sub t .f64 s x r e, (add_facts h.1 (negB_lt' k.1) ea.symm).1, by rw [addB_some ea.symm]⟩
theorem run_nan_div {P : Program} (w : World) (t : TypeId) (x y : Nat) (h : Ieee.double.div x y = none) :
    (binOp .quo t (.float .f64 x) (.float .f64 y)).run P w = .ok (.float .f64 (nanOf w x y)) w.drew := by
  have h' : FloatKind.f64.format.div x y = none := h
  simp [binOp, Op.floatArith, h', nanOf, Question.forced]
theorem div_lt {x y r : Nat} (h : Ieee.double.div x y = some r) : r < 18446744073709551616 := Ieee.Format.div_lt Ieee.double h
theorem div_any {P : Program} (w : World) (s x : Nat) : ∃ r n, (∀ t, (binOp .quo t (.float .f64 s) (.float .f64 x)).run P w = .ok (.float .f64 r) (w.drewN n)) ∧ IsC r (dvB s x) := by
  cases e : Ieee.double.div s x with
  | none => exact ⟨nanOf w s x, 1, fun t => run_nan_div w t s x e, nanOf_lt _ _ _, by rw [dvB_none e]; unfold canonB; rw [if_pos (isN_nanOf _ _ _)]⟩
  | some r => exact ⟨r, 0, fun t => run_float_arith w .quo t .f64 s x r e, div_lt e, by rw [dvB_some e]⟩
theorem sqrt_lt {x r : Nat} (h : Ieee.double.sqrt x = some r) : r < 18446744073709551616 := Ieee.Format.sqrt_lt Ieee.double h
end Go.Proofs.Ytgbaaafikphafaa
