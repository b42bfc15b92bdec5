/-
  Differences, cross products, lengths, units and gaps of vectors: walks over the program.
-/
import Derived.Test.YtgbaaafikphafaaNb
namespace Go.Proofs.Ytgbaaafikphafaa
open Go.RowKit Tf
attribute [local go_sem] run_bits run_from raw_feq raw_fne raw_flt raw_fgt run_neg run_store_float
theorem sbB_q {a b : Nat} (hb : b < 18446744073709551616) : sbB (qB a) (qB b) = sbB a b := addB_q (qB_lt hb) hb (qB_qB a) (qB_qB b)
theorem Abx.drewN {W w : World} {g n : Nat} {T : TypeId} (h : Abx W g n T w) (k : Nat) : Abx W g n T (w.drewN k) := h
theorem W3rows (w : World) (A B C : Obj) : (((w.alloc A).alloc B).alloc C).heap[w.heap.size]? = some A ∧ (((w.alloc A).alloc B).alloc C).heap[w.heap.size + 1]? = some B ∧ (((w.alloc A).alloc B).alloc C).heap[w.heap.size + 1 + 1]? = some C := by
  refine ⟨?_, ?_, heap_alloc3_new _ _ _ _⟩
  · rw [Below.heap_alloc _ _ _ (by simp; omega)]; exact heap_alloc2_old _ _ _
  · rw [Below.heap_alloc _ _ _ (by simp)]; exact heap_alloc2_new _ _ _
end Go.Proofs.Ytgbaaafikphafaa
