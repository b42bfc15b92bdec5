/-
  Some of the texts of this proof, one behind the other.
-/
import Derived.Test.YtdigecacmibkpaaGreatDoorSa08
namespace Go.Proofs.YtdigecacmibkpaaGreatDoor
open Go.RowKit Cu
theorem A3.set0 {W w : World} {g : Nat} (a : A3 W g w) (k : Nat) (v : Value) : A3 W g (w.setCell ⟨g, k, none⟩ v) := a.set 0 (by omega) k v
theorem A3.set1 {W w : World} {g : Nat} (a : A3 W g w) (k : Nat) (v : Value) : A3 W g (w.setCell ⟨g + 1, k, none⟩ v) := a.set 1 (by omega) k v
theorem A3.set2 {W w : World} {g : Nat} (a : A3 W g w) (k : Nat) (v : Value) : A3 W g (w.setCell ⟨g + 1 + 1, k, none⟩ v) := a.set 2 (by omega) k v
theorem rows3 {W w : World} {g : Nat} {x0 x1 x2 y0 y1 y2 z0 z1 z2 : Value} (a : A3 W g w) :
    let v := ((((((((w.setCell ⟨g, 0, none⟩ x0).setCell ⟨g, 1, none⟩ x1).setCell ⟨g, 2, none⟩ x2).setCell ⟨g + 1, 0, none⟩ y0).setCell ⟨g + 1, 1, none⟩ y1).setCell ⟨g + 1, 2, none⟩ y2).setCell ⟨g + 1 + 1, 0, none⟩ z0).setCell ⟨g + 1 + 1, 1, none⟩ z1).setCell ⟨g + 1 + 1, 2, none⟩ z2
    v.heap[g]? = some (.cells #[x0, x1, x2] 123) ∧ v.heap[g + 1]? = some (.cells #[y0, y1, y2] 123) ∧ v.heap[g + 1 + 1]? = some (.cells #[z0, z1, z2] 123) ∧ A3 W g v := by
  obtain ⟨a0, b0, c0, h0⟩ := a.2 0 (by omega)
  obtain ⟨a1, b1, c1, h1⟩ := a.2 1 (by omega)
  obtain ⟨a2, b2, c2, h2⟩ := a.2 2 (by omega)
  have n01 : g ≠ g + 1 := by omega
  have n02 : g ≠ g + 1 + 1 := by omega
  have n10 : g + 1 ≠ g := by omega
  have n12 : g + 1 ≠ g + 1 + 1 := by omega
  have n20 : g + 1 + 1 ≠ g := by omega
  have n21 : g + 1 + 1 ≠ g + 1 := by omega
  refine ⟨?_, ?_, ?_, ((((((((a.set0 _ _).set0 _ _).set0 _ _).set1 _ _).set1 _ _).set1 _ _).set2 _ _).set2 _ _).set2 _ _⟩
  · exact (Below.heap_setCell _ _ _ _ n02).trans ((Below.heap_setCell _ _ _ _ n02).trans ((Below.heap_setCell _ _ _ _ n02).trans ((Below.heap_setCell _ _ _ _ n01).trans ((Below.heap_setCell _ _ _ _ n01).trans ((Below.heap_setCell _ _ _ _ n01).trans (row3 h0))))))
  · exact (Below.heap_setCell _ _ _ _ n12).trans ((Below.heap_setCell _ _ _ _ n12).trans ((Below.heap_setCell _ _ _ _ n12).trans (row3 ((Below.heap_setCell _ _ _ _ n10).trans ((Below.heap_setCell _ _ _ _ n10).trans ((Below.heap_setCell _ _ _ _ n10).trans h1))))))
  · exact row3 ((Below.heap_setCell _ _ _ _ n21).trans ((Below.heap_setCell _ _ _ _ n21).trans ((Below.heap_setCell _ _ _ _ n21).trans ((Below.heap_setCell _ _ _ _ n20).trans ((Below.heap_setCell _ _ _ _ n20).trans ((Below.heap_setCell _ _ _ _ n20).trans h2))))))
set_option maxHeartbeats 4000000 in
theorem rframe0 (w : World) : Calls Tryz.prog 100 #[.int .i64 0] w fun e w' => e = .returned (.tuple #[.agg #[.int .i64 (cC 0).1, .int .i64 (cC 0).2.1, .int .i64 (cC 0).2.2], .agg #[.int .i64 (cR 0).1, .int .i64 (cR 0).2.1, .int .i64 (cR 0).2.2], .agg #[.int .i64 (cU 0).1, .int .i64 (cU 0).2.1, .int .i64 (cU 0).2.2]]) ∧ Below w.heap.size w w' := by
  go_enter Tryz.func100, Tryz.ntmps100
  go_upto_region 7 with fail
  go_region
  go_wp2
  refine bodyPost_ret ?_ rfl ⟨rfl, ?_⟩
  · exact results_cell3 Tryz.results100 _ _ w.heap.size (w.heap.size + 1) (w.heap.size + 1 + 1) 123 #[.int .i64 1, .int .i64 0, .int .i64 0] #[.int .i64 0, .int .i64 1, .int .i64 0] #[.int .i64 0, .int .i64 0, .int .i64 1] _ rfl rfl rfl (by rw [heap_drew]; repeat (first | exact heap_at _ _ _ (by first | (simp; done) | (simp; omega)) | rw [Below.heap_alloc _ _ _ (by first | (simp; done) | (simp; omega))])) (by rw [heap_drew]; repeat (first | exact heap_at _ _ _ (by first | (simp; done) | (simp; omega)) | rw [Below.heap_alloc _ _ _ (by first | (simp; done) | (simp; omega))])) (by rw [heap_drew]; repeat (first | exact heap_at _ _ _ (by first | (simp; done) | (simp; omega)) | rw [Below.heap_alloc _ _ _ (by first | (simp; done) | (simp; omega))])) Tryz.underlying123 rfl (by kernel_rfl) (by kernel_rfl) (by kernel_rfl)
  · exact (((((((Ab.refl w).alloc _).alloc _).alloc _).alloc _).alloc _).alloc _).alloc _ |>.drew
set_option maxHeartbeats 4000000 in
theorem rframe1 (w : World) : Calls Tryz.prog 100 #[.int .i64 1] w fun e w' => e = .returned (.tuple #[.agg #[.int .i64 (cC 1).1, .int .i64 (cC 1).2.1, .int .i64 (cC 1).2.2], .agg #[.int .i64 (cR 1).1, .int .i64 (cR 1).2.1, .int .i64 (cR 1).2.2], .agg #[.int .i64 (cU 1).1, .int .i64 (cU 1).2.1, .int .i64 (cU 1).2.2]]) ∧ Below w.heap.size w w' := by
  have Tx : Hid (∀ u, Calls Tryz.prog 129 #[.agg #[.int .i64 0, .int .i64 0, .int .i64 0], .int .i64 (-1), .agg #[.int .i64 1, .int .i64 0, .int .i64 0]] u fun e w' => e = .returned (.agg #[.int .i64 (-1), .int .i64 (0), .int .i64 (0)]) ∧ Below u.heap.size u w') := fun u => rplus_at (0, 0, 0) (-1) (1, 0, 0) u (by simp [Sm]) (by simp [Sm, sc])
  go_enter Tryz.func100, Tryz.ntmps100
  go_upto_region 9 with fail
  generalize hW : World.alloc _ _ = W
  have AW : Hid (Ab w W) := by
    rw [← hW]
    exact ((((((((Ab.refl w).alloc _).alloc _).alloc _).alloc _).alloc _).alloc _).alloc _)
  have r0 : W.heap[w.heap.size]? = some (.cells #[.int .i64 0, .int .i64 0, .int .i64 0] 123) := by
    rw [← hW]
    repeat (first | exact heap_at _ _ _ (by first | (simp; done) | (simp; omega)) | rw [Below.heap_alloc _ _ _ (by first | (simp; done) | (simp; omega))])
  have r1 : W.heap[w.heap.size + 1]? = some (.cells #[.int .i64 0, .int .i64 0, .int .i64 0] 123) := by
    rw [← hW]
    repeat (first | exact heap_at _ _ _ (by first | (simp; done) | (simp; omega)) | rw [Below.heap_alloc _ _ _ (by first | (simp; done) | (simp; omega))])
  have r2 : W.heap[w.heap.size + 1 + 1]? = some (.cells #[.int .i64 0, .int .i64 0, .int .i64 0] 123) := by
    rw [← hW]
    repeat (first | exact heap_at _ _ _ (by first | (simp; done) | (simp; omega)) | rw [Below.heap_alloc _ _ _ (by first | (simp; done) | (simp; omega))])
  have r3 : W.heap[w.heap.size + 1 + 1 + 1]? = some (.cells #[.int .i64 1, .int .i64 0, .int .i64 0] 123) := by
    rw [← hW]
    repeat (first | exact heap_at _ _ _ (by first | (simp; done) | (simp; omega)) | rw [Below.heap_alloc _ _ _ (by first | (simp; done) | (simp; omega))])
  have r4 : W.heap[w.heap.size + 1 + 1 + 1 + 1]? = some (.cells #[.int .i64 0, .int .i64 1, .int .i64 0] 123) := by
    rw [← hW]
    repeat (first | exact heap_at _ _ _ (by first | (simp; done) | (simp; omega)) | rw [Below.heap_alloc _ _ _ (by first | (simp; done) | (simp; omega))])
  have r5 : W.heap[w.heap.size + 1 + 1 + 1 + 1 + 1]? = some (.cells #[.int .i64 0, .int .i64 0, .int .i64 1] 123) := by
    rw [← hW]
    repeat (first | exact heap_at _ _ _ (by first | (simp; done) | (simp; omega)) | rw [Below.heap_alloc _ _ _ (by first | (simp; done) | (simp; omega))])
  have r6 : W.heap[w.heap.size + 1 + 1 + 1 + 1 + 1 + 1]? = some (.cells #[.int .i64 0, .int .i64 0, .int .i64 0] 123) := by
    rw [← hW]
    repeat (first | exact heap_at _ _ _ (by first | (simp; done) | (simp; omega)) | rw [Below.heap_alloc _ _ _ (by first | (simp; done) | (simp; omega))])
  have KS : Hid (∀ w', A3 W w.heap.size w' → A3 W w.heap.size w' ∧ w'.cell? ⟨w.heap.size + 1 + 1 + 1, 0, none⟩ = some (.int .i64 1) ∧ w'.cell? ⟨w.heap.size + 1 + 1 + 1, 1, none⟩ = some (.int .i64 0) ∧ w'.cell? ⟨w.heap.size + 1 + 1 + 1, 2, none⟩ = some (.int .i64 0) ∧ w'.cell? ⟨w.heap.size + 1 + 1 + 1 + 1, 0, none⟩ = some (.int .i64 0) ∧ w'.cell? ⟨w.heap.size + 1 + 1 + 1 + 1, 1, none⟩ = some (.int .i64 1) ∧ w'.cell? ⟨w.heap.size + 1 + 1 + 1 + 1, 2, none⟩ = some (.int .i64 0) ∧ w'.cell? ⟨w.heap.size + 1 + 1 + 1 + 1 + 1, 0, none⟩ = some (.int .i64 0) ∧ w'.cell? ⟨w.heap.size + 1 + 1 + 1 + 1 + 1, 1, none⟩ = some (.int .i64 0) ∧ w'.cell? ⟨w.heap.size + 1 + 1 + 1 + 1 + 1, 2, none⟩ = some (.int .i64 1) ∧ w'.cell? ⟨w.heap.size + 1 + 1 + 1 + 1 + 1 + 1, 0, none⟩ = some (.int .i64 0) ∧ w'.cell? ⟨w.heap.size + 1 + 1 + 1 + 1 + 1 + 1, 1, none⟩ = some (.int .i64 0) ∧ w'.cell? ⟨w.heap.size + 1 + 1 + 1 + 1 + 1 + 1, 2, none⟩ = some (.int .i64 0) ∧ w'.frozen? ⟨w.heap.size, 0, none⟩ = false ∧ w'.frozen? ⟨w.heap.size, 1, none⟩ = false ∧ w'.frozen? ⟨w.heap.size, 2, none⟩ = false ∧ w'.frozen? ⟨w.heap.size + 1, 0, none⟩ = false ∧ w'.frozen? ⟨w.heap.size + 1, 1, none⟩ = false ∧ w'.frozen? ⟨w.heap.size + 1, 2, none⟩ = false ∧ w'.frozen? ⟨w.heap.size + 1 + 1, 0, none⟩ = false ∧ w'.frozen? ⟨w.heap.size + 1 + 1, 1, none⟩ = false ∧ w'.frozen? ⟨w.heap.size + 1 + 1, 2, none⟩ = false ∧ w'.cell? ⟨w.heap.size, 0, none⟩ = some (rv w' (w.heap.size) 0) ∧ w'.cell? ⟨w.heap.size, 1, none⟩ = some (rv w' (w.heap.size) 1) ∧ w'.cell? ⟨w.heap.size, 2, none⟩ = some (rv w' (w.heap.size) 2) ∧ w'.cell? ⟨w.heap.size + 1, 0, none⟩ = some (rv w' (w.heap.size + 1) 0) ∧ w'.cell? ⟨w.heap.size + 1, 1, none⟩ = some (rv w' (w.heap.size + 1) 1) ∧ w'.cell? ⟨w.heap.size + 1, 2, none⟩ = some (rv w' (w.heap.size + 1) 2) ∧ w'.cell? ⟨w.heap.size + 1 + 1, 0, none⟩ = some (rv w' (w.heap.size + 1 + 1) 0) ∧ w'.cell? ⟨w.heap.size + 1 + 1, 1, none⟩ = some (rv w' (w.heap.size + 1 + 1) 1) ∧ w'.cell? ⟨w.heap.size + 1 + 1, 2, none⟩ = some (rv w' (w.heap.size + 1 + 1) 2)) := by
    intro w' hw
    obtain ⟨-, p0, p1, p2⟩ := rowfacts (hw.heap (by omega) r3)
    obtain ⟨-, p3, p4, p5⟩ := rowfacts (hw.heap (by omega) r4)
    obtain ⟨-, p6, p7, p8⟩ := rowfacts (hw.heap (by omega) r5)
    obtain ⟨-, p9, p10, p11⟩ := rowfacts (hw.heap (by omega) r6)
    obtain ⟨⟨f0, f1, f2⟩, c0, c1, c2⟩ := hw.facts 0 (by omega)
    obtain ⟨⟨f3, f4, f5⟩, c3, c4, c5⟩ := hw.facts 1 (by omega)
    obtain ⟨⟨f6, f7, f8⟩, c6, c7, c8⟩ := hw.facts 2 (by omega)
    exact ⟨hw, p0, p1, p2, p3, p4, p5, p6, p7, p8, p9, p10, p11, f0, f1, f2, f3, f4, f5, f6, f7, f8, c0, c1, c2, c3, c4, c5, c6, c7, c8⟩
  have A0 : A3 W w.heap.size W := (Ab.refl W).a3 (fun j hj => by
    rcases (show j = 0 ∨ j = 1 ∨ j = 2 by omega) with rfl | rfl | rfl
    · exact ⟨_, _, _, r0⟩
    · exact ⟨_, _, _, r1⟩
    · exact ⟨_, _, _, r2⟩)
  clear r0 r1 r2 r3 r4 r5 r6 hW
  go_region_held3 (fun w' => A3 W w.heap.size w' ∧ w'.cell? ⟨w.heap.size + 1 + 1 + 1, 0, none⟩ = some (.int .i64 1) ∧ w'.cell? ⟨w.heap.size + 1 + 1 + 1, 1, none⟩ = some (.int .i64 0) ∧ w'.cell? ⟨w.heap.size + 1 + 1 + 1, 2, none⟩ = some (.int .i64 0) ∧ w'.cell? ⟨w.heap.size + 1 + 1 + 1 + 1, 0, none⟩ = some (.int .i64 0) ∧ w'.cell? ⟨w.heap.size + 1 + 1 + 1 + 1, 1, none⟩ = some (.int .i64 1) ∧ w'.cell? ⟨w.heap.size + 1 + 1 + 1 + 1, 2, none⟩ = some (.int .i64 0) ∧ w'.cell? ⟨w.heap.size + 1 + 1 + 1 + 1 + 1, 0, none⟩ = some (.int .i64 0) ∧ w'.cell? ⟨w.heap.size + 1 + 1 + 1 + 1 + 1, 1, none⟩ = some (.int .i64 0) ∧ w'.cell? ⟨w.heap.size + 1 + 1 + 1 + 1 + 1, 2, none⟩ = some (.int .i64 1) ∧ w'.cell? ⟨w.heap.size + 1 + 1 + 1 + 1 + 1 + 1, 0, none⟩ = some (.int .i64 0) ∧ w'.cell? ⟨w.heap.size + 1 + 1 + 1 + 1 + 1 + 1, 1, none⟩ = some (.int .i64 0) ∧ w'.cell? ⟨w.heap.size + 1 + 1 + 1 + 1 + 1 + 1, 2, none⟩ = some (.int .i64 0) ∧ w'.frozen? ⟨w.heap.size, 0, none⟩ = false ∧ w'.frozen? ⟨w.heap.size, 1, none⟩ = false ∧ w'.frozen? ⟨w.heap.size, 2, none⟩ = false ∧ w'.frozen? ⟨w.heap.size + 1, 0, none⟩ = false ∧ w'.frozen? ⟨w.heap.size + 1, 1, none⟩ = false ∧ w'.frozen? ⟨w.heap.size + 1, 2, none⟩ = false ∧ w'.frozen? ⟨w.heap.size + 1 + 1, 0, none⟩ = false ∧ w'.frozen? ⟨w.heap.size + 1 + 1, 1, none⟩ = false ∧ w'.frozen? ⟨w.heap.size + 1 + 1, 2, none⟩ = false ∧ w'.cell? ⟨w.heap.size, 0, none⟩ = some (rv w' (w.heap.size) 0) ∧ w'.cell? ⟨w.heap.size, 1, none⟩ = some (rv w' (w.heap.size) 1) ∧ w'.cell? ⟨w.heap.size, 2, none⟩ = some (rv w' (w.heap.size) 2) ∧ w'.cell? ⟨w.heap.size + 1, 0, none⟩ = some (rv w' (w.heap.size + 1) 0) ∧ w'.cell? ⟨w.heap.size + 1, 1, none⟩ = some (rv w' (w.heap.size + 1) 1) ∧ w'.cell? ⟨w.heap.size + 1, 2, none⟩ = some (rv w' (w.heap.size + 1) 2) ∧ w'.cell? ⟨w.heap.size + 1 + 1, 0, none⟩ = some (rv w' (w.heap.size + 1 + 1) 0) ∧ w'.cell? ⟨w.heap.size + 1 + 1, 1, none⟩ = some (rv w' (w.heap.size + 1 + 1) 1) ∧ w'.cell? ⟨w.heap.size + 1 + 1, 2, none⟩ = some (rv w' (w.heap.size + 1 + 1) 2)) ((refine KS.out _ ?_; (with_reducible (repeat (first | assumption | apply A3.drew | apply A3.set0 | apply A3.set1 | apply A3.set2 | (refine A3.call ?_ (by assumption))))); done)) ((go_at_call 129; refine (Tx.out _).mono ?_; rintro e w1 ⟨rfl, b1⟩))
  have A2 := A0.drew.call b1
  obtain ⟨s0, s1, s2, s3⟩ := rows3 (x0 := .int .i64 (cC 1).1) (x1 := .int .i64 (cC 1).2.1) (x2 := .int .i64 (cC 1).2.2) (y0 := .int .i64 (cR 1).1) (y1 := .int .i64 (cR 1).2.1) (y2 := .int .i64 (cR 1).2.2) (z0 := .int .i64 (cU 1).1) (z1 := .int .i64 (cU 1).2.1) (z2 := .int .i64 (cU 1).2.2) A2
  have S0 := hid s0
  have S1 := hid s1
  have S2 := hid s2
  have S3 := hid s3
  clear KS A0 A2 s0 s1 s2 s3
  go_wp2
  refine bodyPost_ret ?_ rfl ⟨rfl, ?_⟩
  · exact results_cell3 Tryz.results100 _ _ w.heap.size (w.heap.size + 1) (w.heap.size + 1 + 1) _ _ _ _ _ rfl rfl rfl S0.out S1.out S2.out Tryz.underlying123 rfl (by kernel_rfl) (by kernel_rfl) (by kernel_rfl)
  · exact S3.out.ab AW.out (Nat.le_refl _)
set_option maxHeartbeats 4000000 in
theorem rframe2 (w : World) : Calls Tryz.prog 100 #[.int .i64 2] w fun e w' => e = .returned (.tuple #[.agg #[.int .i64 (cC 2).1, .int .i64 (cC 2).2.1, .int .i64 (cC 2).2.2], .agg #[.int .i64 (cR 2).1, .int .i64 (cR 2).2.1, .int .i64 (cR 2).2.2], .agg #[.int .i64 (cU 2).1, .int .i64 (cU 2).2.1, .int .i64 (cU 2).2.2]]) ∧ Below w.heap.size w w' := by
  have Tx : Hid (∀ u, Calls Tryz.prog 129 #[.agg #[.int .i64 0, .int .i64 0, .int .i64 0], .int .i64 (-1), .agg #[.int .i64 1, .int .i64 0, .int .i64 0]] u fun e w' => e = .returned (.agg #[.int .i64 (-1), .int .i64 (0), .int .i64 (0)]) ∧ Below u.heap.size u w') := fun u => rplus_at (0, 0, 0) (-1) (1, 0, 0) u (by simp [Sm]) (by simp [Sm, sc])
  have Ty : Hid (∀ u, Calls Tryz.prog 129 #[.agg #[.int .i64 0, .int .i64 0, .int .i64 0], .int .i64 (-1), .agg #[.int .i64 0, .int .i64 1, .int .i64 0]] u fun e w' => e = .returned (.agg #[.int .i64 (0), .int .i64 (-1), .int .i64 (0)]) ∧ Below u.heap.size u w') := fun u => rplus_at (0, 0, 0) (-1) (0, 1, 0) u (by simp [Sm]) (by simp [Sm, sc])
  go_enter Tryz.func100, Tryz.ntmps100
  go_upto_region 11 with fail
  generalize hW : World.alloc _ _ = W
  have AW : Hid (Ab w W) := by
    rw [← hW]
    exact ((((((((Ab.refl w).alloc _).alloc _).alloc _).alloc _).alloc _).alloc _).alloc _)
  have r0 : W.heap[w.heap.size]? = some (.cells #[.int .i64 0, .int .i64 0, .int .i64 0] 123) := by
    rw [← hW]
    repeat (first | exact heap_at _ _ _ (by first | (simp; done) | (simp; omega)) | rw [Below.heap_alloc _ _ _ (by first | (simp; done) | (simp; omega))])
  have r1 : W.heap[w.heap.size + 1]? = some (.cells #[.int .i64 0, .int .i64 0, .int .i64 0] 123) := by
    rw [← hW]
    repeat (first | exact heap_at _ _ _ (by first | (simp; done) | (simp; omega)) | rw [Below.heap_alloc _ _ _ (by first | (simp; done) | (simp; omega))])
  have r2 : W.heap[w.heap.size + 1 + 1]? = some (.cells #[.int .i64 0, .int .i64 0, .int .i64 0] 123) := by
    rw [← hW]
    repeat (first | exact heap_at _ _ _ (by first | (simp; done) | (simp; omega)) | rw [Below.heap_alloc _ _ _ (by first | (simp; done) | (simp; omega))])
  have r3 : W.heap[w.heap.size + 1 + 1 + 1]? = some (.cells #[.int .i64 1, .int .i64 0, .int .i64 0] 123) := by
    rw [← hW]
    repeat (first | exact heap_at _ _ _ (by first | (simp; done) | (simp; omega)) | rw [Below.heap_alloc _ _ _ (by first | (simp; done) | (simp; omega))])
  have r4 : W.heap[w.heap.size + 1 + 1 + 1 + 1]? = some (.cells #[.int .i64 0, .int .i64 1, .int .i64 0] 123) := by
    rw [← hW]
    repeat (first | exact heap_at _ _ _ (by first | (simp; done) | (simp; omega)) | rw [Below.heap_alloc _ _ _ (by first | (simp; done) | (simp; omega))])
  have r5 : W.heap[w.heap.size + 1 + 1 + 1 + 1 + 1]? = some (.cells #[.int .i64 0, .int .i64 0, .int .i64 1] 123) := by
    rw [← hW]
    repeat (first | exact heap_at _ _ _ (by first | (simp; done) | (simp; omega)) | rw [Below.heap_alloc _ _ _ (by first | (simp; done) | (simp; omega))])
  have r6 : W.heap[w.heap.size + 1 + 1 + 1 + 1 + 1 + 1]? = some (.cells #[.int .i64 0, .int .i64 0, .int .i64 0] 123) := by
    rw [← hW]
    repeat (first | exact heap_at _ _ _ (by first | (simp; done) | (simp; omega)) | rw [Below.heap_alloc _ _ _ (by first | (simp; done) | (simp; omega))])
  have KS : Hid (∀ w', A3 W w.heap.size w' → A3 W w.heap.size w' ∧ w'.cell? ⟨w.heap.size + 1 + 1 + 1, 0, none⟩ = some (.int .i64 1) ∧ w'.cell? ⟨w.heap.size + 1 + 1 + 1, 1, none⟩ = some (.int .i64 0) ∧ w'.cell? ⟨w.heap.size + 1 + 1 + 1, 2, none⟩ = some (.int .i64 0) ∧ w'.cell? ⟨w.heap.size + 1 + 1 + 1 + 1, 0, none⟩ = some (.int .i64 0) ∧ w'.cell? ⟨w.heap.size + 1 + 1 + 1 + 1, 1, none⟩ = some (.int .i64 1) ∧ w'.cell? ⟨w.heap.size + 1 + 1 + 1 + 1, 2, none⟩ = some (.int .i64 0) ∧ w'.cell? ⟨w.heap.size + 1 + 1 + 1 + 1 + 1, 0, none⟩ = some (.int .i64 0) ∧ w'.cell? ⟨w.heap.size + 1 + 1 + 1 + 1 + 1, 1, none⟩ = some (.int .i64 0) ∧ w'.cell? ⟨w.heap.size + 1 + 1 + 1 + 1 + 1, 2, none⟩ = some (.int .i64 1) ∧ w'.cell? ⟨w.heap.size + 1 + 1 + 1 + 1 + 1 + 1, 0, none⟩ = some (.int .i64 0) ∧ w'.cell? ⟨w.heap.size + 1 + 1 + 1 + 1 + 1 + 1, 1, none⟩ = some (.int .i64 0) ∧ w'.cell? ⟨w.heap.size + 1 + 1 + 1 + 1 + 1 + 1, 2, none⟩ = some (.int .i64 0) ∧ w'.frozen? ⟨w.heap.size, 0, none⟩ = false ∧ w'.frozen? ⟨w.heap.size, 1, none⟩ = false ∧ w'.frozen? ⟨w.heap.size, 2, none⟩ = false ∧ w'.frozen? ⟨w.heap.size + 1, 0, none⟩ = false ∧ w'.frozen? ⟨w.heap.size + 1, 1, none⟩ = false ∧ w'.frozen? ⟨w.heap.size + 1, 2, none⟩ = false ∧ w'.frozen? ⟨w.heap.size + 1 + 1, 0, none⟩ = false ∧ w'.frozen? ⟨w.heap.size + 1 + 1, 1, none⟩ = false ∧ w'.frozen? ⟨w.heap.size + 1 + 1, 2, none⟩ = false ∧ w'.cell? ⟨w.heap.size, 0, none⟩ = some (rv w' (w.heap.size) 0) ∧ w'.cell? ⟨w.heap.size, 1, none⟩ = some (rv w' (w.heap.size) 1) ∧ w'.cell? ⟨w.heap.size, 2, none⟩ = some (rv w' (w.heap.size) 2) ∧ w'.cell? ⟨w.heap.size + 1, 0, none⟩ = some (rv w' (w.heap.size + 1) 0) ∧ w'.cell? ⟨w.heap.size + 1, 1, none⟩ = some (rv w' (w.heap.size + 1) 1) ∧ w'.cell? ⟨w.heap.size + 1, 2, none⟩ = some (rv w' (w.heap.size + 1) 2) ∧ w'.cell? ⟨w.heap.size + 1 + 1, 0, none⟩ = some (rv w' (w.heap.size + 1 + 1) 0) ∧ w'.cell? ⟨w.heap.size + 1 + 1, 1, none⟩ = some (rv w' (w.heap.size + 1 + 1) 1) ∧ w'.cell? ⟨w.heap.size + 1 + 1, 2, none⟩ = some (rv w' (w.heap.size + 1 + 1) 2)) := by
    intro w' hw
    obtain ⟨-, p0, p1, p2⟩ := rowfacts (hw.heap (by omega) r3)
    obtain ⟨-, p3, p4, p5⟩ := rowfacts (hw.heap (by omega) r4)
    obtain ⟨-, p6, p7, p8⟩ := rowfacts (hw.heap (by omega) r5)
    obtain ⟨-, p9, p10, p11⟩ := rowfacts (hw.heap (by omega) r6)
    obtain ⟨⟨f0, f1, f2⟩, c0, c1, c2⟩ := hw.facts 0 (by omega)
    obtain ⟨⟨f3, f4, f5⟩, c3, c4, c5⟩ := hw.facts 1 (by omega)
    obtain ⟨⟨f6, f7, f8⟩, c6, c7, c8⟩ := hw.facts 2 (by omega)
    exact ⟨hw, p0, p1, p2, p3, p4, p5, p6, p7, p8, p9, p10, p11, f0, f1, f2, f3, f4, f5, f6, f7, f8, c0, c1, c2, c3, c4, c5, c6, c7, c8⟩
  have A0 : A3 W w.heap.size W := (Ab.refl W).a3 (fun j hj => by
    rcases (show j = 0 ∨ j = 1 ∨ j = 2 by omega) with rfl | rfl | rfl
    · exact ⟨_, _, _, r0⟩
    · exact ⟨_, _, _, r1⟩
    · exact ⟨_, _, _, r2⟩)
  clear r0 r1 r2 r3 r4 r5 r6 hW
  go_region_held3 (fun w' => A3 W w.heap.size w' ∧ w'.cell? ⟨w.heap.size + 1 + 1 + 1, 0, none⟩ = some (.int .i64 1) ∧ w'.cell? ⟨w.heap.size + 1 + 1 + 1, 1, none⟩ = some (.int .i64 0) ∧ w'.cell? ⟨w.heap.size + 1 + 1 + 1, 2, none⟩ = some (.int .i64 0) ∧ w'.cell? ⟨w.heap.size + 1 + 1 + 1 + 1, 0, none⟩ = some (.int .i64 0) ∧ w'.cell? ⟨w.heap.size + 1 + 1 + 1 + 1, 1, none⟩ = some (.int .i64 1) ∧ w'.cell? ⟨w.heap.size + 1 + 1 + 1 + 1, 2, none⟩ = some (.int .i64 0) ∧ w'.cell? ⟨w.heap.size + 1 + 1 + 1 + 1 + 1, 0, none⟩ = some (.int .i64 0) ∧ w'.cell? ⟨w.heap.size + 1 + 1 + 1 + 1 + 1, 1, none⟩ = some (.int .i64 0) ∧ w'.cell? ⟨w.heap.size + 1 + 1 + 1 + 1 + 1, 2, none⟩ = some (.int .i64 1) ∧ w'.cell? ⟨w.heap.size + 1 + 1 + 1 + 1 + 1 + 1, 0, none⟩ = some (.int .i64 0) ∧ w'.cell? ⟨w.heap.size + 1 + 1 + 1 + 1 + 1 + 1, 1, none⟩ = some (.int .i64 0) ∧ w'.cell? ⟨w.heap.size + 1 + 1 + 1 + 1 + 1 + 1, 2, none⟩ = some (.int .i64 0) ∧ w'.frozen? ⟨w.heap.size, 0, none⟩ = false ∧ w'.frozen? ⟨w.heap.size, 1, none⟩ = false ∧ w'.frozen? ⟨w.heap.size, 2, none⟩ = false ∧ w'.frozen? ⟨w.heap.size + 1, 0, none⟩ = false ∧ w'.frozen? ⟨w.heap.size + 1, 1, none⟩ = false ∧ w'.frozen? ⟨w.heap.size + 1, 2, none⟩ = false ∧ w'.frozen? ⟨w.heap.size + 1 + 1, 0, none⟩ = false ∧ w'.frozen? ⟨w.heap.size + 1 + 1, 1, none⟩ = false ∧ w'.frozen? ⟨w.heap.size + 1 + 1, 2, none⟩ = false ∧ w'.cell? ⟨w.heap.size, 0, none⟩ = some (rv w' (w.heap.size) 0) ∧ w'.cell? ⟨w.heap.size, 1, none⟩ = some (rv w' (w.heap.size) 1) ∧ w'.cell? ⟨w.heap.size, 2, none⟩ = some (rv w' (w.heap.size) 2) ∧ w'.cell? ⟨w.heap.size + 1, 0, none⟩ = some (rv w' (w.heap.size + 1) 0) ∧ w'.cell? ⟨w.heap.size + 1, 1, none⟩ = some (rv w' (w.heap.size + 1) 1) ∧ w'.cell? ⟨w.heap.size + 1, 2, none⟩ = some (rv w' (w.heap.size + 1) 2) ∧ w'.cell? ⟨w.heap.size + 1 + 1, 0, none⟩ = some (rv w' (w.heap.size + 1 + 1) 0) ∧ w'.cell? ⟨w.heap.size + 1 + 1, 1, none⟩ = some (rv w' (w.heap.size + 1 + 1) 1) ∧ w'.cell? ⟨w.heap.size + 1 + 1, 2, none⟩ = some (rv w' (w.heap.size + 1 + 1) 2)) ((refine KS.out _ ?_; (with_reducible (repeat (first | assumption | apply A3.drew | apply A3.set0 | apply A3.set1 | apply A3.set2 | (refine A3.call ?_ (by assumption))))); done)) (first | (go_at_call 129; have hb := b1; refine (Ty.out _).mono ?_; clear hb; rintro e w2 ⟨rfl, b2⟩) | (go_at_call 129; refine (Tx.out _).mono ?_; rintro e w1 ⟨rfl, b1⟩))
  have A2 := (A0.drew.call b1).call b2
  obtain ⟨s0, s1, s2, s3⟩ := rows3 (x0 := .int .i64 (cC 2).1) (x1 := .int .i64 (cC 2).2.1) (x2 := .int .i64 (cC 2).2.2) (y0 := .int .i64 (cR 2).1) (y1 := .int .i64 (cR 2).2.1) (y2 := .int .i64 (cR 2).2.2) (z0 := .int .i64 (cU 2).1) (z1 := .int .i64 (cU 2).2.1) (z2 := .int .i64 (cU 2).2.2) A2
  have S0 := hid s0
  have S1 := hid s1
  have S2 := hid s2
  have S3 := hid s3
  clear KS A0 A2 s0 s1 s2 s3
  go_wp2
  refine bodyPost_ret ?_ rfl ⟨rfl, ?_⟩
  · exact results_cell3 Tryz.results100 _ _ w.heap.size (w.heap.size + 1) (w.heap.size + 1 + 1) _ _ _ _ _ rfl rfl rfl S0.out S1.out S2.out Tryz.underlying123 rfl (by kernel_rfl) (by kernel_rfl) (by kernel_rfl)
  · exact S3.out.ab AW.out (Nat.le_refl _)
set_option maxHeartbeats 4000000 in
theorem rframe3 (w : World) : Calls Tryz.prog 100 #[.int .i64 3] w fun e w' => e = .returned (.tuple #[.agg #[.int .i64 (cC 3).1, .int .i64 (cC 3).2.1, .int .i64 (cC 3).2.2], .agg #[.int .i64 (cR 3).1, .int .i64 (cR 3).2.1, .int .i64 (cR 3).2.2], .agg #[.int .i64 (cU 3).1, .int .i64 (cU 3).2.1, .int .i64 (cU 3).2.2]]) ∧ Below w.heap.size w w' := by
  have Ty : Hid (∀ u, Calls Tryz.prog 129 #[.agg #[.int .i64 0, .int .i64 0, .int .i64 0], .int .i64 (-1), .agg #[.int .i64 0, .int .i64 1, .int .i64 0]] u fun e w' => e = .returned (.agg #[.int .i64 (0), .int .i64 (-1), .int .i64 (0)]) ∧ Below u.heap.size u w') := fun u => rplus_at (0, 0, 0) (-1) (0, 1, 0) u (by simp [Sm]) (by simp [Sm, sc])
  go_enter Tryz.func100, Tryz.ntmps100
  go_upto_region 13 with fail
  generalize hW : World.alloc _ _ = W
  have AW : Hid (Ab w W) := by
    rw [← hW]
    exact ((((((((Ab.refl w).alloc _).alloc _).alloc _).alloc _).alloc _).alloc _).alloc _)
  have r0 : W.heap[w.heap.size]? = some (.cells #[.int .i64 0, .int .i64 0, .int .i64 0] 123) := by
    rw [← hW]
    repeat (first | exact heap_at _ _ _ (by first | (simp; done) | (simp; omega)) | rw [Below.heap_alloc _ _ _ (by first | (simp; done) | (simp; omega))])
  have r1 : W.heap[w.heap.size + 1]? = some (.cells #[.int .i64 0, .int .i64 0, .int .i64 0] 123) := by
    rw [← hW]
    repeat (first | exact heap_at _ _ _ (by first | (simp; done) | (simp; omega)) | rw [Below.heap_alloc _ _ _ (by first | (simp; done) | (simp; omega))])
  have r2 : W.heap[w.heap.size + 1 + 1]? = some (.cells #[.int .i64 0, .int .i64 0, .int .i64 0] 123) := by
    rw [← hW]
    repeat (first | exact heap_at _ _ _ (by first | (simp; done) | (simp; omega)) | rw [Below.heap_alloc _ _ _ (by first | (simp; done) | (simp; omega))])
  have r3 : W.heap[w.heap.size + 1 + 1 + 1]? = some (.cells #[.int .i64 1, .int .i64 0, .int .i64 0] 123) := by
    rw [← hW]
    repeat (first | exact heap_at _ _ _ (by first | (simp; done) | (simp; omega)) | rw [Below.heap_alloc _ _ _ (by first | (simp; done) | (simp; omega))])
  have r4 : W.heap[w.heap.size + 1 + 1 + 1 + 1]? = some (.cells #[.int .i64 0, .int .i64 1, .int .i64 0] 123) := by
    rw [← hW]
    repeat (first | exact heap_at _ _ _ (by first | (simp; done) | (simp; omega)) | rw [Below.heap_alloc _ _ _ (by first | (simp; done) | (simp; omega))])
  have r5 : W.heap[w.heap.size + 1 + 1 + 1 + 1 + 1]? = some (.cells #[.int .i64 0, .int .i64 0, .int .i64 1] 123) := by
    rw [← hW]
    repeat (first | exact heap_at _ _ _ (by first | (simp; done) | (simp; omega)) | rw [Below.heap_alloc _ _ _ (by first | (simp; done) | (simp; omega))])
  have r6 : W.heap[w.heap.size + 1 + 1 + 1 + 1 + 1 + 1]? = some (.cells #[.int .i64 0, .int .i64 0, .int .i64 0] 123) := by
    rw [← hW]
    repeat (first | exact heap_at _ _ _ (by first | (simp; done) | (simp; omega)) | rw [Below.heap_alloc _ _ _ (by first | (simp; done) | (simp; omega))])
  have KS : Hid (∀ w', A3 W w.heap.size w' → A3 W w.heap.size w' ∧ w'.cell? ⟨w.heap.size + 1 + 1 + 1, 0, none⟩ = some (.int .i64 1) ∧ w'.cell? ⟨w.heap.size + 1 + 1 + 1, 1, none⟩ = some (.int .i64 0) ∧ w'.cell? ⟨w.heap.size + 1 + 1 + 1, 2, none⟩ = some (.int .i64 0) ∧ w'.cell? ⟨w.heap.size + 1 + 1 + 1 + 1, 0, none⟩ = some (.int .i64 0) ∧ w'.cell? ⟨w.heap.size + 1 + 1 + 1 + 1, 1, none⟩ = some (.int .i64 1) ∧ w'.cell? ⟨w.heap.size + 1 + 1 + 1 + 1, 2, none⟩ = some (.int .i64 0) ∧ w'.cell? ⟨w.heap.size + 1 + 1 + 1 + 1 + 1, 0, none⟩ = some (.int .i64 0) ∧ w'.cell? ⟨w.heap.size + 1 + 1 + 1 + 1 + 1, 1, none⟩ = some (.int .i64 0) ∧ w'.cell? ⟨w.heap.size + 1 + 1 + 1 + 1 + 1, 2, none⟩ = some (.int .i64 1) ∧ w'.cell? ⟨w.heap.size + 1 + 1 + 1 + 1 + 1 + 1, 0, none⟩ = some (.int .i64 0) ∧ w'.cell? ⟨w.heap.size + 1 + 1 + 1 + 1 + 1 + 1, 1, none⟩ = some (.int .i64 0) ∧ w'.cell? ⟨w.heap.size + 1 + 1 + 1 + 1 + 1 + 1, 2, none⟩ = some (.int .i64 0) ∧ w'.frozen? ⟨w.heap.size, 0, none⟩ = false ∧ w'.frozen? ⟨w.heap.size, 1, none⟩ = false ∧ w'.frozen? ⟨w.heap.size, 2, none⟩ = false ∧ w'.frozen? ⟨w.heap.size + 1, 0, none⟩ = false ∧ w'.frozen? ⟨w.heap.size + 1, 1, none⟩ = false ∧ w'.frozen? ⟨w.heap.size + 1, 2, none⟩ = false ∧ w'.frozen? ⟨w.heap.size + 1 + 1, 0, none⟩ = false ∧ w'.frozen? ⟨w.heap.size + 1 + 1, 1, none⟩ = false ∧ w'.frozen? ⟨w.heap.size + 1 + 1, 2, none⟩ = false ∧ w'.cell? ⟨w.heap.size, 0, none⟩ = some (rv w' (w.heap.size) 0) ∧ w'.cell? ⟨w.heap.size, 1, none⟩ = some (rv w' (w.heap.size) 1) ∧ w'.cell? ⟨w.heap.size, 2, none⟩ = some (rv w' (w.heap.size) 2) ∧ w'.cell? ⟨w.heap.size + 1, 0, none⟩ = some (rv w' (w.heap.size + 1) 0) ∧ w'.cell? ⟨w.heap.size + 1, 1, none⟩ = some (rv w' (w.heap.size + 1) 1) ∧ w'.cell? ⟨w.heap.size + 1, 2, none⟩ = some (rv w' (w.heap.size + 1) 2) ∧ w'.cell? ⟨w.heap.size + 1 + 1, 0, none⟩ = some (rv w' (w.heap.size + 1 + 1) 0) ∧ w'.cell? ⟨w.heap.size + 1 + 1, 1, none⟩ = some (rv w' (w.heap.size + 1 + 1) 1) ∧ w'.cell? ⟨w.heap.size + 1 + 1, 2, none⟩ = some (rv w' (w.heap.size + 1 + 1) 2)) := by
    intro w' hw
    obtain ⟨-, p0, p1, p2⟩ := rowfacts (hw.heap (by omega) r3)
    obtain ⟨-, p3, p4, p5⟩ := rowfacts (hw.heap (by omega) r4)
    obtain ⟨-, p6, p7, p8⟩ := rowfacts (hw.heap (by omega) r5)
    obtain ⟨-, p9, p10, p11⟩ := rowfacts (hw.heap (by omega) r6)
    obtain ⟨⟨f0, f1, f2⟩, c0, c1, c2⟩ := hw.facts 0 (by omega)
    obtain ⟨⟨f3, f4, f5⟩, c3, c4, c5⟩ := hw.facts 1 (by omega)
    obtain ⟨⟨f6, f7, f8⟩, c6, c7, c8⟩ := hw.facts 2 (by omega)
    exact ⟨hw, p0, p1, p2, p3, p4, p5, p6, p7, p8, p9, p10, p11, f0, f1, f2, f3, f4, f5, f6, f7, f8, c0, c1, c2, c3, c4, c5, c6, c7, c8⟩
  have A0 : A3 W w.heap.size W := (Ab.refl W).a3 (fun j hj => by
    rcases (show j = 0 ∨ j = 1 ∨ j = 2 by omega) with rfl | rfl | rfl
    · exact ⟨_, _, _, r0⟩
    · exact ⟨_, _, _, r1⟩
    · exact ⟨_, _, _, r2⟩)
  clear r0 r1 r2 r3 r4 r5 r6 hW
  go_region_held3 (fun w' => A3 W w.heap.size w' ∧ w'.cell? ⟨w.heap.size + 1 + 1 + 1, 0, none⟩ = some (.int .i64 1) ∧ w'.cell? ⟨w.heap.size + 1 + 1 + 1, 1, none⟩ = some (.int .i64 0) ∧ w'.cell? ⟨w.heap.size + 1 + 1 + 1, 2, none⟩ = some (.int .i64 0) ∧ w'.cell? ⟨w.heap.size + 1 + 1 + 1 + 1, 0, none⟩ = some (.int .i64 0) ∧ w'.cell? ⟨w.heap.size + 1 + 1 + 1 + 1, 1, none⟩ = some (.int .i64 1) ∧ w'.cell? ⟨w.heap.size + 1 + 1 + 1 + 1, 2, none⟩ = some (.int .i64 0) ∧ w'.cell? ⟨w.heap.size + 1 + 1 + 1 + 1 + 1, 0, none⟩ = some (.int .i64 0) ∧ w'.cell? ⟨w.heap.size + 1 + 1 + 1 + 1 + 1, 1, none⟩ = some (.int .i64 0) ∧ w'.cell? ⟨w.heap.size + 1 + 1 + 1 + 1 + 1, 2, none⟩ = some (.int .i64 1) ∧ w'.cell? ⟨w.heap.size + 1 + 1 + 1 + 1 + 1 + 1, 0, none⟩ = some (.int .i64 0) ∧ w'.cell? ⟨w.heap.size + 1 + 1 + 1 + 1 + 1 + 1, 1, none⟩ = some (.int .i64 0) ∧ w'.cell? ⟨w.heap.size + 1 + 1 + 1 + 1 + 1 + 1, 2, none⟩ = some (.int .i64 0) ∧ w'.frozen? ⟨w.heap.size, 0, none⟩ = false ∧ w'.frozen? ⟨w.heap.size, 1, none⟩ = false ∧ w'.frozen? ⟨w.heap.size, 2, none⟩ = false ∧ w'.frozen? ⟨w.heap.size + 1, 0, none⟩ = false ∧ w'.frozen? ⟨w.heap.size + 1, 1, none⟩ = false ∧ w'.frozen? ⟨w.heap.size + 1, 2, none⟩ = false ∧ w'.frozen? ⟨w.heap.size + 1 + 1, 0, none⟩ = false ∧ w'.frozen? ⟨w.heap.size + 1 + 1, 1, none⟩ = false ∧ w'.frozen? ⟨w.heap.size + 1 + 1, 2, none⟩ = false ∧ w'.cell? ⟨w.heap.size, 0, none⟩ = some (rv w' (w.heap.size) 0) ∧ w'.cell? ⟨w.heap.size, 1, none⟩ = some (rv w' (w.heap.size) 1) ∧ w'.cell? ⟨w.heap.size, 2, none⟩ = some (rv w' (w.heap.size) 2) ∧ w'.cell? ⟨w.heap.size + 1, 0, none⟩ = some (rv w' (w.heap.size + 1) 0) ∧ w'.cell? ⟨w.heap.size + 1, 1, none⟩ = some (rv w' (w.heap.size + 1) 1) ∧ w'.cell? ⟨w.heap.size + 1, 2, none⟩ = some (rv w' (w.heap.size + 1) 2) ∧ w'.cell? ⟨w.heap.size + 1 + 1, 0, none⟩ = some (rv w' (w.heap.size + 1 + 1) 0) ∧ w'.cell? ⟨w.heap.size + 1 + 1, 1, none⟩ = some (rv w' (w.heap.size + 1 + 1) 1) ∧ w'.cell? ⟨w.heap.size + 1 + 1, 2, none⟩ = some (rv w' (w.heap.size + 1 + 1) 2)) ((refine KS.out _ ?_; (with_reducible (repeat (first | assumption | apply A3.drew | apply A3.set0 | apply A3.set1 | apply A3.set2 | (refine A3.call ?_ (by assumption))))); done)) ((go_at_call 129; refine (Ty.out _).mono ?_; rintro e w1 ⟨rfl, b1⟩))
  have A2 := A0.drew.call b1
  obtain ⟨s0, s1, s2, s3⟩ := rows3 (x0 := .int .i64 (cC 3).1) (x1 := .int .i64 (cC 3).2.1) (x2 := .int .i64 (cC 3).2.2) (y0 := .int .i64 (cR 3).1) (y1 := .int .i64 (cR 3).2.1) (y2 := .int .i64 (cR 3).2.2) (z0 := .int .i64 (cU 3).1) (z1 := .int .i64 (cU 3).2.1) (z2 := .int .i64 (cU 3).2.2) A2
  have S0 := hid s0
  have S1 := hid s1
  have S2 := hid s2
  have S3 := hid s3
  clear KS A0 A2 s0 s1 s2 s3
  go_wp2
  refine bodyPost_ret ?_ rfl ⟨rfl, ?_⟩
  · exact results_cell3 Tryz.results100 _ _ w.heap.size (w.heap.size + 1) (w.heap.size + 1 + 1) _ _ _ _ _ rfl rfl rfl S0.out S1.out S2.out Tryz.underlying123 rfl (by kernel_rfl) (by kernel_rfl) (by kernel_rfl)
  · exact S3.out.ab AW.out (Nat.le_refl _)
set_option maxHeartbeats 4000000 in
theorem rframe4 (w : World) : Calls Tryz.prog 100 #[.int .i64 4] w fun e w' => e = .returned (.tuple #[.agg #[.int .i64 (cC 4).1, .int .i64 (cC 4).2.1, .int .i64 (cC 4).2.2], .agg #[.int .i64 (cR 4).1, .int .i64 (cR 4).2.1, .int .i64 (cR 4).2.2], .agg #[.int .i64 (cU 4).1, .int .i64 (cU 4).2.1, .int .i64 (cU 4).2.2]]) ∧ Below w.heap.size w w' := by
  have Tx : Hid (∀ u, Calls Tryz.prog 129 #[.agg #[.int .i64 0, .int .i64 0, .int .i64 0], .int .i64 (-1), .agg #[.int .i64 1, .int .i64 0, .int .i64 0]] u fun e w' => e = .returned (.agg #[.int .i64 (-1), .int .i64 (0), .int .i64 (0)]) ∧ Below u.heap.size u w') := fun u => rplus_at (0, 0, 0) (-1) (1, 0, 0) u (by simp [Sm]) (by simp [Sm, sc])
  go_enter Tryz.func100, Tryz.ntmps100
  go_upto_region 15 with fail
  generalize hW : World.alloc _ _ = W
  have AW : Hid (Ab w W) := by
    rw [← hW]
    exact ((((((((Ab.refl w).alloc _).alloc _).alloc _).alloc _).alloc _).alloc _).alloc _)
  have r0 : W.heap[w.heap.size]? = some (.cells #[.int .i64 0, .int .i64 0, .int .i64 0] 123) := by
    rw [← hW]
    repeat (first | exact heap_at _ _ _ (by first | (simp; done) | (simp; omega)) | rw [Below.heap_alloc _ _ _ (by first | (simp; done) | (simp; omega))])
  have r1 : W.heap[w.heap.size + 1]? = some (.cells #[.int .i64 0, .int .i64 0, .int .i64 0] 123) := by
    rw [← hW]
    repeat (first | exact heap_at _ _ _ (by first | (simp; done) | (simp; omega)) | rw [Below.heap_alloc _ _ _ (by first | (simp; done) | (simp; omega))])
  have r2 : W.heap[w.heap.size + 1 + 1]? = some (.cells #[.int .i64 0, .int .i64 0, .int .i64 0] 123) := by
    rw [← hW]
    repeat (first | exact heap_at _ _ _ (by first | (simp; done) | (simp; omega)) | rw [Below.heap_alloc _ _ _ (by first | (simp; done) | (simp; omega))])
  have r3 : W.heap[w.heap.size + 1 + 1 + 1]? = some (.cells #[.int .i64 1, .int .i64 0, .int .i64 0] 123) := by
    rw [← hW]
    repeat (first | exact heap_at _ _ _ (by first | (simp; done) | (simp; omega)) | rw [Below.heap_alloc _ _ _ (by first | (simp; done) | (simp; omega))])
  have r4 : W.heap[w.heap.size + 1 + 1 + 1 + 1]? = some (.cells #[.int .i64 0, .int .i64 1, .int .i64 0] 123) := by
    rw [← hW]
    repeat (first | exact heap_at _ _ _ (by first | (simp; done) | (simp; omega)) | rw [Below.heap_alloc _ _ _ (by first | (simp; done) | (simp; omega))])
  have r5 : W.heap[w.heap.size + 1 + 1 + 1 + 1 + 1]? = some (.cells #[.int .i64 0, .int .i64 0, .int .i64 1] 123) := by
    rw [← hW]
    repeat (first | exact heap_at _ _ _ (by first | (simp; done) | (simp; omega)) | rw [Below.heap_alloc _ _ _ (by first | (simp; done) | (simp; omega))])
  have r6 : W.heap[w.heap.size + 1 + 1 + 1 + 1 + 1 + 1]? = some (.cells #[.int .i64 0, .int .i64 0, .int .i64 0] 123) := by
    rw [← hW]
    repeat (first | exact heap_at _ _ _ (by first | (simp; done) | (simp; omega)) | rw [Below.heap_alloc _ _ _ (by first | (simp; done) | (simp; omega))])
  have KS : Hid (∀ w', A3 W w.heap.size w' → A3 W w.heap.size w' ∧ w'.cell? ⟨w.heap.size + 1 + 1 + 1, 0, none⟩ = some (.int .i64 1) ∧ w'.cell? ⟨w.heap.size + 1 + 1 + 1, 1, none⟩ = some (.int .i64 0) ∧ w'.cell? ⟨w.heap.size + 1 + 1 + 1, 2, none⟩ = some (.int .i64 0) ∧ w'.cell? ⟨w.heap.size + 1 + 1 + 1 + 1, 0, none⟩ = some (.int .i64 0) ∧ w'.cell? ⟨w.heap.size + 1 + 1 + 1 + 1, 1, none⟩ = some (.int .i64 1) ∧ w'.cell? ⟨w.heap.size + 1 + 1 + 1 + 1, 2, none⟩ = some (.int .i64 0) ∧ w'.cell? ⟨w.heap.size + 1 + 1 + 1 + 1 + 1, 0, none⟩ = some (.int .i64 0) ∧ w'.cell? ⟨w.heap.size + 1 + 1 + 1 + 1 + 1, 1, none⟩ = some (.int .i64 0) ∧ w'.cell? ⟨w.heap.size + 1 + 1 + 1 + 1 + 1, 2, none⟩ = some (.int .i64 1) ∧ w'.cell? ⟨w.heap.size + 1 + 1 + 1 + 1 + 1 + 1, 0, none⟩ = some (.int .i64 0) ∧ w'.cell? ⟨w.heap.size + 1 + 1 + 1 + 1 + 1 + 1, 1, none⟩ = some (.int .i64 0) ∧ w'.cell? ⟨w.heap.size + 1 + 1 + 1 + 1 + 1 + 1, 2, none⟩ = some (.int .i64 0) ∧ w'.frozen? ⟨w.heap.size, 0, none⟩ = false ∧ w'.frozen? ⟨w.heap.size, 1, none⟩ = false ∧ w'.frozen? ⟨w.heap.size, 2, none⟩ = false ∧ w'.frozen? ⟨w.heap.size + 1, 0, none⟩ = false ∧ w'.frozen? ⟨w.heap.size + 1, 1, none⟩ = false ∧ w'.frozen? ⟨w.heap.size + 1, 2, none⟩ = false ∧ w'.frozen? ⟨w.heap.size + 1 + 1, 0, none⟩ = false ∧ w'.frozen? ⟨w.heap.size + 1 + 1, 1, none⟩ = false ∧ w'.frozen? ⟨w.heap.size + 1 + 1, 2, none⟩ = false ∧ w'.cell? ⟨w.heap.size, 0, none⟩ = some (rv w' (w.heap.size) 0) ∧ w'.cell? ⟨w.heap.size, 1, none⟩ = some (rv w' (w.heap.size) 1) ∧ w'.cell? ⟨w.heap.size, 2, none⟩ = some (rv w' (w.heap.size) 2) ∧ w'.cell? ⟨w.heap.size + 1, 0, none⟩ = some (rv w' (w.heap.size + 1) 0) ∧ w'.cell? ⟨w.heap.size + 1, 1, none⟩ = some (rv w' (w.heap.size + 1) 1) ∧ w'.cell? ⟨w.heap.size + 1, 2, none⟩ = some (rv w' (w.heap.size + 1) 2) ∧ w'.cell? ⟨w.heap.size + 1 + 1, 0, none⟩ = some (rv w' (w.heap.size + 1 + 1) 0) ∧ w'.cell? ⟨w.heap.size + 1 + 1, 1, none⟩ = some (rv w' (w.heap.size + 1 + 1) 1) ∧ w'.cell? ⟨w.heap.size + 1 + 1, 2, none⟩ = some (rv w' (w.heap.size + 1 + 1) 2)) := by
    intro w' hw
    obtain ⟨-, p0, p1, p2⟩ := rowfacts (hw.heap (by omega) r3)
    obtain ⟨-, p3, p4, p5⟩ := rowfacts (hw.heap (by omega) r4)
    obtain ⟨-, p6, p7, p8⟩ := rowfacts (hw.heap (by omega) r5)
    obtain ⟨-, p9, p10, p11⟩ := rowfacts (hw.heap (by omega) r6)
    obtain ⟨⟨f0, f1, f2⟩, c0, c1, c2⟩ := hw.facts 0 (by omega)
    obtain ⟨⟨f3, f4, f5⟩, c3, c4, c5⟩ := hw.facts 1 (by omega)
    obtain ⟨⟨f6, f7, f8⟩, c6, c7, c8⟩ := hw.facts 2 (by omega)
    exact ⟨hw, p0, p1, p2, p3, p4, p5, p6, p7, p8, p9, p10, p11, f0, f1, f2, f3, f4, f5, f6, f7, f8, c0, c1, c2, c3, c4, c5, c6, c7, c8⟩
  have A0 : A3 W w.heap.size W := (Ab.refl W).a3 (fun j hj => by
    rcases (show j = 0 ∨ j = 1 ∨ j = 2 by omega) with rfl | rfl | rfl
    · exact ⟨_, _, _, r0⟩
    · exact ⟨_, _, _, r1⟩
    · exact ⟨_, _, _, r2⟩)
  clear r0 r1 r2 r3 r4 r5 r6 hW
  go_region_held3 (fun w' => A3 W w.heap.size w' ∧ w'.cell? ⟨w.heap.size + 1 + 1 + 1, 0, none⟩ = some (.int .i64 1) ∧ w'.cell? ⟨w.heap.size + 1 + 1 + 1, 1, none⟩ = some (.int .i64 0) ∧ w'.cell? ⟨w.heap.size + 1 + 1 + 1, 2, none⟩ = some (.int .i64 0) ∧ w'.cell? ⟨w.heap.size + 1 + 1 + 1 + 1, 0, none⟩ = some (.int .i64 0) ∧ w'.cell? ⟨w.heap.size + 1 + 1 + 1 + 1, 1, none⟩ = some (.int .i64 1) ∧ w'.cell? ⟨w.heap.size + 1 + 1 + 1 + 1, 2, none⟩ = some (.int .i64 0) ∧ w'.cell? ⟨w.heap.size + 1 + 1 + 1 + 1 + 1, 0, none⟩ = some (.int .i64 0) ∧ w'.cell? ⟨w.heap.size + 1 + 1 + 1 + 1 + 1, 1, none⟩ = some (.int .i64 0) ∧ w'.cell? ⟨w.heap.size + 1 + 1 + 1 + 1 + 1, 2, none⟩ = some (.int .i64 1) ∧ w'.cell? ⟨w.heap.size + 1 + 1 + 1 + 1 + 1 + 1, 0, none⟩ = some (.int .i64 0) ∧ w'.cell? ⟨w.heap.size + 1 + 1 + 1 + 1 + 1 + 1, 1, none⟩ = some (.int .i64 0) ∧ w'.cell? ⟨w.heap.size + 1 + 1 + 1 + 1 + 1 + 1, 2, none⟩ = some (.int .i64 0) ∧ w'.frozen? ⟨w.heap.size, 0, none⟩ = false ∧ w'.frozen? ⟨w.heap.size, 1, none⟩ = false ∧ w'.frozen? ⟨w.heap.size, 2, none⟩ = false ∧ w'.frozen? ⟨w.heap.size + 1, 0, none⟩ = false ∧ w'.frozen? ⟨w.heap.size + 1, 1, none⟩ = false ∧ w'.frozen? ⟨w.heap.size + 1, 2, none⟩ = false ∧ w'.frozen? ⟨w.heap.size + 1 + 1, 0, none⟩ = false ∧ w'.frozen? ⟨w.heap.size + 1 + 1, 1, none⟩ = false ∧ w'.frozen? ⟨w.heap.size + 1 + 1, 2, none⟩ = false ∧ w'.cell? ⟨w.heap.size, 0, none⟩ = some (rv w' (w.heap.size) 0) ∧ w'.cell? ⟨w.heap.size, 1, none⟩ = some (rv w' (w.heap.size) 1) ∧ w'.cell? ⟨w.heap.size, 2, none⟩ = some (rv w' (w.heap.size) 2) ∧ w'.cell? ⟨w.heap.size + 1, 0, none⟩ = some (rv w' (w.heap.size + 1) 0) ∧ w'.cell? ⟨w.heap.size + 1, 1, none⟩ = some (rv w' (w.heap.size + 1) 1) ∧ w'.cell? ⟨w.heap.size + 1, 2, none⟩ = some (rv w' (w.heap.size + 1) 2) ∧ w'.cell? ⟨w.heap.size + 1 + 1, 0, none⟩ = some (rv w' (w.heap.size + 1 + 1) 0) ∧ w'.cell? ⟨w.heap.size + 1 + 1, 1, none⟩ = some (rv w' (w.heap.size + 1 + 1) 1) ∧ w'.cell? ⟨w.heap.size + 1 + 1, 2, none⟩ = some (rv w' (w.heap.size + 1 + 1) 2)) ((refine KS.out _ ?_; (with_reducible (repeat (first | assumption | apply A3.drew | apply A3.set0 | apply A3.set1 | apply A3.set2 | (refine A3.call ?_ (by assumption))))); done)) ((go_at_call 129; refine (Tx.out _).mono ?_; rintro e w1 ⟨rfl, b1⟩))
  have A2 := A0.drew.call b1
  obtain ⟨s0, s1, s2, s3⟩ := rows3 (x0 := .int .i64 (cC 4).1) (x1 := .int .i64 (cC 4).2.1) (x2 := .int .i64 (cC 4).2.2) (y0 := .int .i64 (cR 4).1) (y1 := .int .i64 (cR 4).2.1) (y2 := .int .i64 (cR 4).2.2) (z0 := .int .i64 (cU 4).1) (z1 := .int .i64 (cU 4).2.1) (z2 := .int .i64 (cU 4).2.2) A2
  have S0 := hid s0
  have S1 := hid s1
  have S2 := hid s2
  have S3 := hid s3
  clear KS A0 A2 s0 s1 s2 s3
  go_wp2
  refine bodyPost_ret ?_ rfl ⟨rfl, ?_⟩
  · exact results_cell3 Tryz.results100 _ _ w.heap.size (w.heap.size + 1) (w.heap.size + 1 + 1) _ _ _ _ _ rfl rfl rfl S0.out S1.out S2.out Tryz.underlying123 rfl (by kernel_rfl) (by kernel_rfl) (by kernel_rfl)
  · exact S3.out.ab AW.out (Nat.le_refl _)
set_option maxHeartbeats 4000000 in
theorem rframe5 (w : World) : Calls Tryz.prog 100 #[.int .i64 5] w fun e w' => e = .returned (.tuple #[.agg #[.int .i64 (cC 5).1, .int .i64 (cC 5).2.1, .int .i64 (cC 5).2.2], .agg #[.int .i64 (cR 5).1, .int .i64 (cR 5).2.1, .int .i64 (cR 5).2.2], .agg #[.int .i64 (cU 5).1, .int .i64 (cU 5).2.1, .int .i64 (cU 5).2.2]]) ∧ Below w.heap.size w w' := by
  have Tz : Hid (∀ u, Calls Tryz.prog 129 #[.agg #[.int .i64 0, .int .i64 0, .int .i64 0], .int .i64 (-1), .agg #[.int .i64 0, .int .i64 0, .int .i64 1]] u fun e w' => e = .returned (.agg #[.int .i64 (0), .int .i64 (0), .int .i64 (-1)]) ∧ Below u.heap.size u w') := fun u => rplus_at (0, 0, 0) (-1) (0, 0, 1) u (by simp [Sm]) (by simp [Sm, sc])
  go_enter Tryz.func100, Tryz.ntmps100
  go_upto_region 16 with fail
  generalize hW : World.alloc _ _ = W
  have AW : Hid (Ab w W) := by
    rw [← hW]
    exact ((((((((Ab.refl w).alloc _).alloc _).alloc _).alloc _).alloc _).alloc _).alloc _)
  have r0 : W.heap[w.heap.size]? = some (.cells #[.int .i64 0, .int .i64 0, .int .i64 0] 123) := by
    rw [← hW]
    repeat (first | exact heap_at _ _ _ (by first | (simp; done) | (simp; omega)) | rw [Below.heap_alloc _ _ _ (by first | (simp; done) | (simp; omega))])
  have r1 : W.heap[w.heap.size + 1]? = some (.cells #[.int .i64 0, .int .i64 0, .int .i64 0] 123) := by
    rw [← hW]
    repeat (first | exact heap_at _ _ _ (by first | (simp; done) | (simp; omega)) | rw [Below.heap_alloc _ _ _ (by first | (simp; done) | (simp; omega))])
  have r2 : W.heap[w.heap.size + 1 + 1]? = some (.cells #[.int .i64 0, .int .i64 0, .int .i64 0] 123) := by
    rw [← hW]
    repeat (first | exact heap_at _ _ _ (by first | (simp; done) | (simp; omega)) | rw [Below.heap_alloc _ _ _ (by first | (simp; done) | (simp; omega))])
  have r3 : W.heap[w.heap.size + 1 + 1 + 1]? = some (.cells #[.int .i64 1, .int .i64 0, .int .i64 0] 123) := by
    rw [← hW]
    repeat (first | exact heap_at _ _ _ (by first | (simp; done) | (simp; omega)) | rw [Below.heap_alloc _ _ _ (by first | (simp; done) | (simp; omega))])
  have r4 : W.heap[w.heap.size + 1 + 1 + 1 + 1]? = some (.cells #[.int .i64 0, .int .i64 1, .int .i64 0] 123) := by
    rw [← hW]
    repeat (first | exact heap_at _ _ _ (by first | (simp; done) | (simp; omega)) | rw [Below.heap_alloc _ _ _ (by first | (simp; done) | (simp; omega))])
  have r5 : W.heap[w.heap.size + 1 + 1 + 1 + 1 + 1]? = some (.cells #[.int .i64 0, .int .i64 0, .int .i64 1] 123) := by
    rw [← hW]
    repeat (first | exact heap_at _ _ _ (by first | (simp; done) | (simp; omega)) | rw [Below.heap_alloc _ _ _ (by first | (simp; done) | (simp; omega))])
  have r6 : W.heap[w.heap.size + 1 + 1 + 1 + 1 + 1 + 1]? = some (.cells #[.int .i64 0, .int .i64 0, .int .i64 0] 123) := by
    rw [← hW]
    repeat (first | exact heap_at _ _ _ (by first | (simp; done) | (simp; omega)) | rw [Below.heap_alloc _ _ _ (by first | (simp; done) | (simp; omega))])
  have KS : Hid (∀ w', A3 W w.heap.size w' → A3 W w.heap.size w' ∧ w'.cell? ⟨w.heap.size + 1 + 1 + 1, 0, none⟩ = some (.int .i64 1) ∧ w'.cell? ⟨w.heap.size + 1 + 1 + 1, 1, none⟩ = some (.int .i64 0) ∧ w'.cell? ⟨w.heap.size + 1 + 1 + 1, 2, none⟩ = some (.int .i64 0) ∧ w'.cell? ⟨w.heap.size + 1 + 1 + 1 + 1, 0, none⟩ = some (.int .i64 0) ∧ w'.cell? ⟨w.heap.size + 1 + 1 + 1 + 1, 1, none⟩ = some (.int .i64 1) ∧ w'.cell? ⟨w.heap.size + 1 + 1 + 1 + 1, 2, none⟩ = some (.int .i64 0) ∧ w'.cell? ⟨w.heap.size + 1 + 1 + 1 + 1 + 1, 0, none⟩ = some (.int .i64 0) ∧ w'.cell? ⟨w.heap.size + 1 + 1 + 1 + 1 + 1, 1, none⟩ = some (.int .i64 0) ∧ w'.cell? ⟨w.heap.size + 1 + 1 + 1 + 1 + 1, 2, none⟩ = some (.int .i64 1) ∧ w'.cell? ⟨w.heap.size + 1 + 1 + 1 + 1 + 1 + 1, 0, none⟩ = some (.int .i64 0) ∧ w'.cell? ⟨w.heap.size + 1 + 1 + 1 + 1 + 1 + 1, 1, none⟩ = some (.int .i64 0) ∧ w'.cell? ⟨w.heap.size + 1 + 1 + 1 + 1 + 1 + 1, 2, none⟩ = some (.int .i64 0) ∧ w'.frozen? ⟨w.heap.size, 0, none⟩ = false ∧ w'.frozen? ⟨w.heap.size, 1, none⟩ = false ∧ w'.frozen? ⟨w.heap.size, 2, none⟩ = false ∧ w'.frozen? ⟨w.heap.size + 1, 0, none⟩ = false ∧ w'.frozen? ⟨w.heap.size + 1, 1, none⟩ = false ∧ w'.frozen? ⟨w.heap.size + 1, 2, none⟩ = false ∧ w'.frozen? ⟨w.heap.size + 1 + 1, 0, none⟩ = false ∧ w'.frozen? ⟨w.heap.size + 1 + 1, 1, none⟩ = false ∧ w'.frozen? ⟨w.heap.size + 1 + 1, 2, none⟩ = false ∧ w'.cell? ⟨w.heap.size, 0, none⟩ = some (rv w' (w.heap.size) 0) ∧ w'.cell? ⟨w.heap.size, 1, none⟩ = some (rv w' (w.heap.size) 1) ∧ w'.cell? ⟨w.heap.size, 2, none⟩ = some (rv w' (w.heap.size) 2) ∧ w'.cell? ⟨w.heap.size + 1, 0, none⟩ = some (rv w' (w.heap.size + 1) 0) ∧ w'.cell? ⟨w.heap.size + 1, 1, none⟩ = some (rv w' (w.heap.size + 1) 1) ∧ w'.cell? ⟨w.heap.size + 1, 2, none⟩ = some (rv w' (w.heap.size + 1) 2) ∧ w'.cell? ⟨w.heap.size + 1 + 1, 0, none⟩ = some (rv w' (w.heap.size + 1 + 1) 0) ∧ w'.cell? ⟨w.heap.size + 1 + 1, 1, none⟩ = some (rv w' (w.heap.size + 1 + 1) 1) ∧ w'.cell? ⟨w.heap.size + 1 + 1, 2, none⟩ = some (rv w' (w.heap.size + 1 + 1) 2)) := by
    intro w' hw
    obtain ⟨-, p0, p1, p2⟩ := rowfacts (hw.heap (by omega) r3)
    obtain ⟨-, p3, p4, p5⟩ := rowfacts (hw.heap (by omega) r4)
    obtain ⟨-, p6, p7, p8⟩ := rowfacts (hw.heap (by omega) r5)
    obtain ⟨-, p9, p10, p11⟩ := rowfacts (hw.heap (by omega) r6)
    obtain ⟨⟨f0, f1, f2⟩, c0, c1, c2⟩ := hw.facts 0 (by omega)
    obtain ⟨⟨f3, f4, f5⟩, c3, c4, c5⟩ := hw.facts 1 (by omega)
    obtain ⟨⟨f6, f7, f8⟩, c6, c7, c8⟩ := hw.facts 2 (by omega)
    exact ⟨hw, p0, p1, p2, p3, p4, p5, p6, p7, p8, p9, p10, p11, f0, f1, f2, f3, f4, f5, f6, f7, f8, c0, c1, c2, c3, c4, c5, c6, c7, c8⟩
  have A0 : A3 W w.heap.size W := (Ab.refl W).a3 (fun j hj => by
    rcases (show j = 0 ∨ j = 1 ∨ j = 2 by omega) with rfl | rfl | rfl
    · exact ⟨_, _, _, r0⟩
    · exact ⟨_, _, _, r1⟩
    · exact ⟨_, _, _, r2⟩)
  clear r0 r1 r2 r3 r4 r5 r6 hW
  go_region_held3 (fun w' => A3 W w.heap.size w' ∧ w'.cell? ⟨w.heap.size + 1 + 1 + 1, 0, none⟩ = some (.int .i64 1) ∧ w'.cell? ⟨w.heap.size + 1 + 1 + 1, 1, none⟩ = some (.int .i64 0) ∧ w'.cell? ⟨w.heap.size + 1 + 1 + 1, 2, none⟩ = some (.int .i64 0) ∧ w'.cell? ⟨w.heap.size + 1 + 1 + 1 + 1, 0, none⟩ = some (.int .i64 0) ∧ w'.cell? ⟨w.heap.size + 1 + 1 + 1 + 1, 1, none⟩ = some (.int .i64 1) ∧ w'.cell? ⟨w.heap.size + 1 + 1 + 1 + 1, 2, none⟩ = some (.int .i64 0) ∧ w'.cell? ⟨w.heap.size + 1 + 1 + 1 + 1 + 1, 0, none⟩ = some (.int .i64 0) ∧ w'.cell? ⟨w.heap.size + 1 + 1 + 1 + 1 + 1, 1, none⟩ = some (.int .i64 0) ∧ w'.cell? ⟨w.heap.size + 1 + 1 + 1 + 1 + 1, 2, none⟩ = some (.int .i64 1) ∧ w'.cell? ⟨w.heap.size + 1 + 1 + 1 + 1 + 1 + 1, 0, none⟩ = some (.int .i64 0) ∧ w'.cell? ⟨w.heap.size + 1 + 1 + 1 + 1 + 1 + 1, 1, none⟩ = some (.int .i64 0) ∧ w'.cell? ⟨w.heap.size + 1 + 1 + 1 + 1 + 1 + 1, 2, none⟩ = some (.int .i64 0) ∧ w'.frozen? ⟨w.heap.size, 0, none⟩ = false ∧ w'.frozen? ⟨w.heap.size, 1, none⟩ = false ∧ w'.frozen? ⟨w.heap.size, 2, none⟩ = false ∧ w'.frozen? ⟨w.heap.size + 1, 0, none⟩ = false ∧ w'.frozen? ⟨w.heap.size + 1, 1, none⟩ = false ∧ w'.frozen? ⟨w.heap.size + 1, 2, none⟩ = false ∧ w'.frozen? ⟨w.heap.size + 1 + 1, 0, none⟩ = false ∧ w'.frozen? ⟨w.heap.size + 1 + 1, 1, none⟩ = false ∧ w'.frozen? ⟨w.heap.size + 1 + 1, 2, none⟩ = false ∧ w'.cell? ⟨w.heap.size, 0, none⟩ = some (rv w' (w.heap.size) 0) ∧ w'.cell? ⟨w.heap.size, 1, none⟩ = some (rv w' (w.heap.size) 1) ∧ w'.cell? ⟨w.heap.size, 2, none⟩ = some (rv w' (w.heap.size) 2) ∧ w'.cell? ⟨w.heap.size + 1, 0, none⟩ = some (rv w' (w.heap.size + 1) 0) ∧ w'.cell? ⟨w.heap.size + 1, 1, none⟩ = some (rv w' (w.heap.size + 1) 1) ∧ w'.cell? ⟨w.heap.size + 1, 2, none⟩ = some (rv w' (w.heap.size + 1) 2) ∧ w'.cell? ⟨w.heap.size + 1 + 1, 0, none⟩ = some (rv w' (w.heap.size + 1 + 1) 0) ∧ w'.cell? ⟨w.heap.size + 1 + 1, 1, none⟩ = some (rv w' (w.heap.size + 1 + 1) 1) ∧ w'.cell? ⟨w.heap.size + 1 + 1, 2, none⟩ = some (rv w' (w.heap.size + 1 + 1) 2)) ((refine KS.out _ ?_; (with_reducible (repeat (first | assumption | apply A3.drew | apply A3.set0 | apply A3.set1 | apply A3.set2 | (refine A3.call ?_ (by assumption))))); done)) ((go_at_call 129; refine (Tz.out _).mono ?_; rintro e w1 ⟨rfl, b1⟩))
  have A2 := A0.drew.call b1
  obtain ⟨s0, s1, s2, s3⟩ := rows3 (x0 := .int .i64 (cC 5).1) (x1 := .int .i64 (cC 5).2.1) (x2 := .int .i64 (cC 5).2.2) (y0 := .int .i64 (cR 5).1) (y1 := .int .i64 (cR 5).2.1) (y2 := .int .i64 (cR 5).2.2) (z0 := .int .i64 (cU 5).1) (z1 := .int .i64 (cU 5).2.1) (z2 := .int .i64 (cU 5).2.2) A2
  have S0 := hid s0
  have S1 := hid s1
  have S2 := hid s2
  have S3 := hid s3
  clear KS A0 A2 s0 s1 s2 s3
  go_wp2
  refine bodyPost_ret ?_ rfl ⟨rfl, ?_⟩
  · exact results_cell3 Tryz.results100 _ _ w.heap.size (w.heap.size + 1) (w.heap.size + 1 + 1) _ _ _ _ _ rfl rfl rfl S0.out S1.out S2.out Tryz.underlying123 rfl (by kernel_rfl) (by kernel_rfl) (by kernel_rfl)
  · exact S3.out.ab AW.out (Nat.le_refl _)
theorem rframe_at (f : Nat) (w : World) (hf : f < 6) : Calls Tryz.prog 100 #[.int .i64 f] w fun e w' => e = .returned (.tuple #[.agg #[.int .i64 (cC f).1, .int .i64 (cC f).2.1, .int .i64 (cC f).2.2], .agg #[.int .i64 (cR f).1, .int .i64 (cR f).2.1, .int .i64 (cR f).2.2], .agg #[.int .i64 (cU f).1, .int .i64 (cU f).2.1, .int .i64 (cU f).2.2]]) ∧ Below w.heap.size w w' := by
  rcases six hf with rfl | rfl | rfl | rfl | rfl | rfl
  · exact rframe0 w
  · exact rframe1 w
  · exact rframe2 w
  · exact rframe3 w
  · exact rframe4 w
  · exact rframe5 w
end Go.Proofs.YtdigecacmibkpaaGreatDoor
