/-
  Whether two exact sums are equal: walks over the program.
-/
import Derived.Test.YtcamlhpehnfnlabVd
namespace Go.Proofs.Ytcamlhpehnfnlab
open Go.RowKit Tf
attribute [local go_sem] run_bits run_from raw_feq raw_fne raw_flt raw_fgt run_neg

theorem valN_zero (n : Nat) : valN (fun _ => 0) n = 0 := by
  induction n with
  | zero => rfl
  | succ n ih => show valN (fun _ => 0) n + 0 * _ = 0; rw [ih]; simp
/-- two new arrays of noughts -/
theorem sides_new (w : World) : Sides w.heap.size (w.heap.size + 1) 0 0 ((w.alloc (.cells (enc fun _ => 0) 32)).alloc (.cells (enc fun _ => 0) 32)) :=
  ⟨by omega, fun _ => 0, fun _ => 0, heap_alloc2_old _ _ _, heap_alloc2_new _ _ _, by rw [valN_zero]; rfl, fun _ => ⟨Int.le_refl 0, Int.le_refl 0⟩, fun _ => ⟨Int.le_refl 0, Int.le_refl 0⟩⟩
theorem below_new (w : World) (o o' : Obj) : Below w.heap.size w ((w.alloc o).alloc o') := ((Below.refl _ _).alloc (by omega) _).alloc (by simp) _
theorem Two.below {g h : Nat} {a w w' : World} {B : Nat} (b : Below B a w) (t : Two g h w w') (hg : B ≤ g) (hh : B ≤ h) : Below B a w' :=
  ⟨t.os.trans b.os, t.tape.trans b.tape, t.output.trans b.output, by rw [t.size]; exact b.size, fun k hk => (t.block k (by omega) (by omega)).trans (b.block k hk)⟩
theorem Sides.below {g h : Nat} {D B : Int} {w w' : World} (s : Sides g h D B w) (b : Below w.heap.size w w') : Sides g h D B w' := by
  obtain ⟨f, f', x1, x2, x3⟩ := s.ex
  exact ⟨s.ne, f, f', by rw [b.block g (row_lt _ _ _ x1)]; exact x1, by rw [b.block h (row_lt _ _ _ x2)]; exact x2, x3⟩

end Go.Proofs.Ytcamlhpehnfnlab
