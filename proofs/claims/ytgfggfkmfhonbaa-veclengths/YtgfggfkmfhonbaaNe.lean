/-
  The small helpers of the statements on vectors: walks over the program.
-/
import Derived.Test.YtgfggfkmfhonbaaNd
import Derived.Test.YtgfggfkmfhonbaaMn
namespace Go.Proofs.Ytgfggfkmfhonbaa
open Go.RowKit Tf
attribute [local go_sem] run_bits run_from raw_feq raw_fne raw_flt raw_fgt run_neg run_store_float
set_option maxHeartbeats 1000000 in
theorem at_at (x y z : Nat) (w : World) :
    Calls Try.prog 9 #[.float .f64 x, .float .f64 y, .float .f64 z] w fun e w' => e = .returned (.agg #[.float .f64 x, .float .f64 y, .float .f64 z]) ∧ Below w.heap.size w w' := by
  have A0 := hid (bl1 w (.cells #[.float .f64 0, .float .f64 0, .float .f64 0] 24))
  have R0 := hid (heap_alloc_new w (.cells #[.float .f64 0, .float .f64 0, .float .f64 0] 24))
  go_enter Try.func9, Try.ntmps9
  go_upto_region 1 with fail
  generalize hW : World.alloc _ _ = W
  have A1 : Hid (Ab w W) := by rw [← hW]; exact A0.out
  have r1 : W.heap[w.heap.size]? = some (.cells #[.float .f64 0, .float .f64 0, .float .f64 0] 24) := by rw [← hW]; exact R0.out
  obtain ⟨⟨o0, o1, o2⟩, o3, o4, o5⟩ := rowfacts r1
  have R1 := hid r1
  clear r1 hW A0 R0
  go_wp2
  refine bodyPost_ret ?_ rfl ⟨rfl, ?_⟩
  · exact results_cell_row Try.results9 _ _ w.heap.size _ _ (0, 0) _ rfl (row3 R1.out) Try.underlying24 rfl (by kernel_rfl)
  · exact ((Ab.setk A1.out (by omega) _).setk (by omega) _).setk (by omega) _
set_option maxHeartbeats 2000000 in
theorem moved_at (x y z : Nat) (w : World) :
    Calls Try.prog 23 #[.agg #[.float .f64 x, .float .f64 y, .float .f64 z]] w fun e w' => e = .returned (.agg #[.float .f64 y, .float .f64 z, .float .f64 x]) ∧ Below w.heap.size w w' := by
  have AT := hid (fun w => at_at y z x w)
  have A0 := hid (bl2 w (.cells #[.float .f64 x, .float .f64 y, .float .f64 z] 24) (.cells #[.float .f64 0, .float .f64 0, .float .f64 0] 24))
  have R0 := hid (heap_alloc2_new w (.cells #[.float .f64 x, .float .f64 y, .float .f64 z] 24) (.cells #[.float .f64 0, .float .f64 0, .float .f64 0] 24))
  go_enter Try.func23, Try.ntmps23
  go_wp2_with fail
  refine (AT.out _).mono ?_
  rintro e w1 ⟨rfl, b1⟩
  have A1 : Hid (Ab w w1) := Ab.call A0.out b1
  have r1 : w1.heap[w.heap.size + 1]? = some (.cells #[.float .f64 0, .float .f64 0, .float .f64 0] 24) := Ab.heap b1 R0.out
  obtain ⟨⟨o0, o1, o2⟩, o3, o4, o5⟩ := rowfacts r1
  have R1 := hid r1
  clear r1 b1 A0 R0
  go_wp2
  refine bodyPost_ret ?_ rfl ⟨rfl, ?_⟩
  · exact results_cell_row Try.results23 _ _ (w.heap.size + 1) _ _ (0, 0) _ rfl (row3 R1.out) Try.underlying24 rfl (by kernel_rfl)
  · exact ((Ab.setk A1.out (by omega) _).setk (by omega) _).setk (by omega) _
set_option maxHeartbeats 2000000 in
theorem swapped_at (x y z : Nat) (w : World) :
    Calls Try.prog 24 #[.agg #[.float .f64 x, .float .f64 y, .float .f64 z]] w fun e w' => e = .returned (.agg #[.float .f64 y, .float .f64 x, .float .f64 z]) ∧ Below w.heap.size w w' := by
  have AT := hid (fun w => at_at y x z w)
  have A0 := hid (bl2 w (.cells #[.float .f64 x, .float .f64 y, .float .f64 z] 24) (.cells #[.float .f64 0, .float .f64 0, .float .f64 0] 24))
  have R0 := hid (heap_alloc2_new w (.cells #[.float .f64 x, .float .f64 y, .float .f64 z] 24) (.cells #[.float .f64 0, .float .f64 0, .float .f64 0] 24))
  go_enter Try.func24, Try.ntmps24
  go_wp2_with fail
  refine (AT.out _).mono ?_
  rintro e w1 ⟨rfl, b1⟩
  have A1 : Hid (Ab w w1) := Ab.call A0.out b1
  have r1 : w1.heap[w.heap.size + 1]? = some (.cells #[.float .f64 0, .float .f64 0, .float .f64 0] 24) := Ab.heap b1 R0.out
  obtain ⟨⟨o0, o1, o2⟩, o3, o4, o5⟩ := rowfacts r1
  have R1 := hid r1
  clear r1 b1 A0 R0
  go_wp2
  refine bodyPost_ret ?_ rfl ⟨rfl, ?_⟩
  · exact results_cell_row Try.results24 _ _ (w.heap.size + 1) _ _ (0, 0) _ rfl (row3 R1.out) Try.underlying24 rfl (by kernel_rfl)
  · exact ((Ab.setk A1.out (by omega) _).setk (by omega) _).setk (by omega) _
set_option maxHeartbeats 2000000 in
theorem turned_at (x y z : Nat) (w : World) (hx : x < 18446744073709551616) :
    Calls Try.prog 25 #[.agg #[.float .f64 x, .float .f64 y, .float .f64 z]] w fun e w' => e = .returned (.agg #[.float .f64 (negB x), .float .f64 y, .float .f64 z]) ∧ Below w.heap.size w w' := by
  have hneg := negFloat_eq x hx
  have AT := hid (fun w => at_at (negB x) y z w)
  have A0 := hid (bl2 w (.cells #[.float .f64 x, .float .f64 y, .float .f64 z] 24) (.cells #[.float .f64 0, .float .f64 0, .float .f64 0] 24))
  have R0 := hid (heap_alloc2_new w (.cells #[.float .f64 x, .float .f64 y, .float .f64 z] 24) (.cells #[.float .f64 0, .float .f64 0, .float .f64 0] 24))
  go_enter Try.func25, Try.ntmps25
  go_wp2_with fail
  refine (AT.out _).mono ?_
  rintro e w1 ⟨rfl, b1⟩
  have A1 : Hid (Ab w w1) := Ab.call A0.out b1
  have r1 : w1.heap[w.heap.size + 1]? = some (.cells #[.float .f64 0, .float .f64 0, .float .f64 0] 24) := Ab.heap b1 R0.out
  obtain ⟨⟨o0, o1, o2⟩, o3, o4, o5⟩ := rowfacts r1
  have R1 := hid r1
  clear r1 b1 A0 R0
  go_wp2
  refine bodyPost_ret ?_ rfl ⟨rfl, ?_⟩
  · exact results_cell_row Try.results25 _ _ (w.heap.size + 1) _ _ (0, 0) _ rfl (row3 R1.out) Try.underlying24 rfl (by kernel_rfl)
  · exact ((Ab.setk A1.out (by omega) _).setk (by omega) _).setk (by omega) _
set_option maxHeartbeats 4000000 in
theorem against_at (x y z : Nat) (w : World) (hx : x < 18446744073709551616) (hy : y < 18446744073709551616) (hz : z < 18446744073709551616) :
    Calls Try.prog 21 #[.agg #[.float .f64 x, .float .f64 y, .float .f64 z]] w fun e w' => e = .returned (.agg #[.float .f64 (canonB (negB x)), .float .f64 (canonB (negB y)), .float .f64 (canonB (negB z))]) ∧ Below w.heap.size w w' := by
  obtain ⟨c0, hc0⟩ : ∃ c, canonB (negB x) = c := ⟨_, rfl⟩
  obtain ⟨c1, hc1⟩ : ∃ c, canonB (negB y) = c := ⟨_, rfl⟩
  obtain ⟨c2, hc2⟩ : ∃ c, canonB (negB z) = c := ⟨_, rfl⟩
  rw [hc0, hc1, hc2]
  have n0 := negFloat_eq x hx
  have n1 := negFloat_eq y hy
  have n2 := negFloat_eq z hz
  have T0 : Hid (∀ u0, Calls Try.prog 12 #[.float .f64 (negB x)] u0 fun e w' => e = .returned (.float .f64 c0) ∧ w' = u0) := fun u0 => by rw [← hc0]; exact canon_any _ u0 (negB_lt' hx)
  have T1 : Hid (∀ u0, Calls Try.prog 12 #[.float .f64 (negB y)] u0 fun e w' => e = .returned (.float .f64 c1) ∧ w' = u0) := fun u0 => by rw [← hc1]; exact canon_any _ u0 (negB_lt' hy)
  have T2 : Hid (∀ u0, Calls Try.prog 12 #[.float .f64 (negB z)] u0 fun e w' => e = .returned (.float .f64 c2) ∧ w' = u0) := fun u0 => by rw [← hc2]; exact canon_any _ u0 (negB_lt' hz)
  have AT := hid (fun w => at_at c0 c1 c2 w)
  have A0 := hid (bl2 w (.cells #[.float .f64 x, .float .f64 y, .float .f64 z] 24) (.cells #[.float .f64 0, .float .f64 0, .float .f64 0] 24))
  have R0 := hid (And.intro (heap_alloc2_old w (.cells #[.float .f64 x, .float .f64 y, .float .f64 z] 24) (.cells #[.float .f64 0, .float .f64 0, .float .f64 0] 24)) (heap_alloc2_new w (.cells #[.float .f64 x, .float .f64 y, .float .f64 z] 24) (.cells #[.float .f64 0, .float .f64 0, .float .f64 0] 24)))
  clear hx hy hz hc0 hc1 hc2
  go_enter Try.func21, Try.ntmps21
  go_upto_region 1 with fail
  generalize hW : World.alloc _ _ = W
  have AW : Hid (Ab w W) := by rw [← hW]; exact A0.out
  have ra : W.heap[w.heap.size]? = some (.cells #[.float .f64 x, .float .f64 y, .float .f64 z] 24) := by rw [← hW]; exact R0.out.1
  have rc : W.heap[w.heap.size + 1]? = some (.cells #[.float .f64 0, .float .f64 0, .float .f64 0] 24) := by rw [← hW]; exact R0.out.2
  have KS : Hid (∀ w', Abx W (w.heap.size + 1) 3 24 w' → Abx W (w.heap.size + 1) 3 24 w' ∧ w'.cell? ⟨w.heap.size, 0, none⟩ = some (.float .f64 x) ∧ w'.cell? ⟨w.heap.size, 1, none⟩ = some (.float .f64 y) ∧ w'.cell? ⟨w.heap.size, 2, none⟩ = some (.float .f64 z) ∧ w'.frozen? ⟨w.heap.size + 1, 0, none⟩ = false ∧ w'.frozen? ⟨w.heap.size + 1, 1, none⟩ = false ∧ w'.frozen? ⟨w.heap.size + 1, 2, none⟩ = false ∧ w'.cell? ⟨w.heap.size + 1, 0, none⟩ = some (rv w' (w.heap.size + 1) 0) ∧ w'.cell? ⟨w.heap.size + 1, 1, none⟩ = some (rv w' (w.heap.size + 1) 1) ∧ w'.cell? ⟨w.heap.size + 1, 2, none⟩ = some (rv w' (w.heap.size + 1) 2)) := by
    intro w' hw
    obtain ⟨-, p3, p4, p5⟩ := rowfacts (hw.heap (by omega) ra)
    exact ⟨hw, p3, p4, p5, hw.free 0, hw.free 1, hw.free 2, hw.some (by omega), hw.some (by omega), hw.some (by omega)⟩
  have A1 : Abx W (w.heap.size + 1) 3 24 W := (Ab.refl W).x rfl rc
  clear ra rc hW A0 R0
  go_region_held3 (fun w' => Abx W (w.heap.size + 1) 3 24 w' ∧ w'.cell? ⟨w.heap.size, 0, none⟩ = some (.float .f64 x) ∧ w'.cell? ⟨w.heap.size, 1, none⟩ = some (.float .f64 y) ∧ w'.cell? ⟨w.heap.size, 2, none⟩ = some (.float .f64 z) ∧ w'.frozen? ⟨w.heap.size + 1, 0, none⟩ = false ∧ w'.frozen? ⟨w.heap.size + 1, 1, none⟩ = false ∧ w'.frozen? ⟨w.heap.size + 1, 2, none⟩ = false ∧ w'.cell? ⟨w.heap.size + 1, 0, none⟩ = some (rv w' (w.heap.size + 1) 0) ∧ w'.cell? ⟨w.heap.size + 1, 1, none⟩ = some (rv w' (w.heap.size + 1) 1) ∧ w'.cell? ⟨w.heap.size + 1, 2, none⟩ = some (rv w' (w.heap.size + 1) 2)) ((refine KS.out _ ?_; (with_reducible (repeat (first | assumption | apply Abx.drew | apply Abx.drewN | apply Abx.set | (refine Abx.call ?_ (by assumption))))); done)) (first
    | (go_at_call_of 12 (negB x); refine (T0.out _).mono ?_; rintro e w1 ⟨rfl, rfl⟩)
    | (go_at_call_of 12 (negB y); refine (T1.out _).mono ?_; rintro e w2 ⟨rfl, rfl⟩)
    | (go_at_call_of 12 (negB z); refine (T2.out _).mono ?_; rintro e w3 ⟨rfl, rfl⟩)
    | (go_at_call 9; refine (AT.out _).mono ?_; rintro e w4 ⟨rfl, b4⟩))
  have A2 : Abx W (w.heap.size + 1) 3 24 w4 := Abx.call (A1.drew) b4
  clear KS A1 b4
  go_wp2
  refine bodyPost_ret ?_ rfl ⟨rfl, ?_⟩
  · exact results_cell_row Try.results21 _ _ (w.heap.size + 1) _ _ (0, 0) _ rfl (set3 A2) Try.underlying24 rfl (by kernel_rfl)
  · exact (((A2.set 0 _).set 1 _).set 2 _).ab AW.out (by omega)
set_option maxHeartbeats 1000000 in
theorem same7_self (a : Nat) (w : World) : Calls Try.prog 14 #[.float .f64 a, .float .f64 a] w fun e w' => e = .returned (.bool true) ∧ Below w.heap.size w w' := by
  have S := hid (fun w => rawSame_refl a w)
  go_enter Try.func14, Try.ntmps14
  go_wp2_with fail
  refine (S.out _).mono ?_
  rintro e w ⟨rfl, rfl⟩
  go_wp2
  go_ret
  exact ⟨rfl, Below.refl _ _⟩
set_option maxHeartbeats 2000000 in
theorem alike_self (x y z : Nat) (w : World) : Calls Try.prog 11 #[.agg #[.float .f64 x, .float .f64 y, .float .f64 z], .agg #[.float .f64 x, .float .f64 y, .float .f64 z]] w fun e w' => e = .returned (.bool true) ∧ Below w.heap.size w w' := by
  have S0 : Hid (∀ u0, Calls Try.prog 14 #[.float .f64 x, .float .f64 x] u0 fun e w' => e = .returned (.bool true) ∧ Below u0.heap.size u0 w') := fun u0 => same7_self x u0
  have S1 : Hid (∀ u0, Calls Try.prog 14 #[.float .f64 y, .float .f64 y] u0 fun e w' => e = .returned (.bool true) ∧ Below u0.heap.size u0 w') := fun u0 => same7_self y u0
  have S2 : Hid (∀ u0, Calls Try.prog 14 #[.float .f64 z, .float .f64 z] u0 fun e w' => e = .returned (.bool true) ∧ Below u0.heap.size u0 w') := fun u0 => same7_self z u0
  have A0 := hid (bl2 w (.cells #[.float .f64 x, .float .f64 y, .float .f64 z] 24) (.cells #[.float .f64 x, .float .f64 y, .float .f64 z] 24))
  have R0 := hid (And.intro (heap_alloc2_old w (.cells #[.float .f64 x, .float .f64 y, .float .f64 z] 24) (.cells #[.float .f64 x, .float .f64 y, .float .f64 z] 24)) (heap_alloc2_new w (.cells #[.float .f64 x, .float .f64 y, .float .f64 z] 24) (.cells #[.float .f64 x, .float .f64 y, .float .f64 z] 24)))
  go_enter Try.func11, Try.ntmps11
  go_wp2_with fail
  refine (S0.out _).mono ?_
  rintro e w1 ⟨rfl, b1⟩
  obtain ⟨-, p0, p1, p2⟩ := rowfacts (Ab.heap b1 R0.out.1)
  obtain ⟨-, q0, q1, q2⟩ := rowfacts (Ab.heap b1 R0.out.2)
  go_wp2_with fail
  refine (S1.out _).mono ?_
  rintro e w2 ⟨rfl, b2⟩
  obtain ⟨-, p0, p1, p2⟩ := rowfacts (Ab.heap b2 (Ab.heap b1 R0.out.1))
  obtain ⟨-, q0, q1, q2⟩ := rowfacts (Ab.heap b2 (Ab.heap b1 R0.out.2))
  go_wp2_with fail
  refine (S2.out _).mono ?_
  rintro e w3 ⟨rfl, b3⟩
  have A3 : Hid (Ab w w3) := ((Ab.call A0.out b1).call b2).call b3
  clear b1 b2 b3
  go_wp2
  go_ret
  exact ⟨rfl, A3.out⟩
end Go.Proofs.Ytgfggfkmfhonbaa
