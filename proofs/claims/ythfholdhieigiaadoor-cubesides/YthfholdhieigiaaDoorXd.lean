/-
  Where a turn takes a point, in the reference: contract.
-/
import Derived.Test.YthfholdhieigiaaDoorXc
import Derived.Test.YthfholdhieigiaaDoorKl
namespace Go.Proofs.YthfholdhieigiaaDoor
open Go.RowKit Cu
theorem pl_zero (q : P3) : pl (0, 0, 0) q = q := by simp [pl]
set_option maxHeartbeats 4000000 in
theorem turned_at (t : Nat) (p : P3) (w : World) (ht : t < 24) (hp : (-1000 ≤ p.1 ∧ p.1 ≤ 1000) ∧ (-1000 ≤ p.2.1 ∧ p.2.1 ≤ 1000) ∧ (-1000 ≤ p.2.2 ∧ p.2.2 ≤ 1000)) :
    Calls Tryd.prog 30 #[.int .i64 t, .agg #[.int .i64 p.1, .int .i64 p.2.1, .int .i64 p.2.2]] w fun e w' => e = .returned (.agg #[.int .i64 (ro t p).1, .int .i64 (ro t p).2.1, .int .i64 (ro t p).2.2]) ∧ Below w.heap.size w w' := by
  have hX := un_rX t ht
  have hY := un_rY t ht
  have hZ := un_rZ t ht
  have S1 : Sm (sc p.1 (rX t)) := sc_sm hX (by omega)
  have S2 : Sm (sc p.2.1 (rY t)) := sc_sm hY (by omega)
  have S3 : Sm (sc p.2.2 (rZ t)) := sc_sm hZ (by omega)
  have S4 : Sm (pl (sc p.1 (rX t)) (sc p.2.1 (rY t))) := by
    have a1 := (mul_un hX.1 1000 hp.1).1
    have a2 := (mul_un hX.2.1 1000 hp.1).1
    have a3 := (mul_un hX.2.2 1000 hp.1).1
    have b1 := (mul_un hY.1 1000 hp.2.1).1
    have b2 := (mul_un hY.2.1 1000 hp.2.1).1
    have b3 := (mul_un hY.2.2 1000 hp.2.1).1
    simp only [Sm, pl, sc]
    omega
  have T1 : Hid (∀ u, Calls Tryd.prog 22 #[.agg #[.int .i64 0, .int .i64 0, .int .i64 0], .int .i64 p.1, .agg #[.int .i64 (rX t).1, .int .i64 (rX t).2.1, .int .i64 (rX t).2.2]] u fun e w' => e = .returned (.agg #[.int .i64 (sc p.1 (rX t)).1, .int .i64 (sc p.1 (rX t)).2.1, .int .i64 (sc p.1 (rX t)).2.2]) ∧ Below u.heap.size u w') := fun u => by
    have := rplus_at (0, 0, 0) p.1 (rX t) u (by simp [Sm]) S1
    rw [pl_zero] at this
    exact this
  have T2 := hid (fun u => rplus_at (sc p.1 (rX t)) p.2.1 (rY t) u S1 S2)
  have T3 := hid (fun u => rplus_at (pl (sc p.1 (rX t)) (sc p.2.1 (rY t))) p.2.2 (rZ t) u S4 S3)
  have IM := hid (images_at t ((w.alloc (.cells #[.int .i64 p.1, .int .i64 p.2.1, .int .i64 p.2.2] 49)).alloc (.cells #[.int .i64 0, .int .i64 0, .int .i64 0] 49)) ht)
  have A0 : Ab w ((w.alloc (.cells #[.int .i64 p.1, .int .i64 p.2.1, .int .i64 p.2.2] 49)).alloc (.cells #[.int .i64 0, .int .i64 0, .int .i64 0] 49)) := bl2 _ _ _
  have AZ := hid A0
  clear S1 S2 S3 S4 hX hY hZ hp A0 ht
  go_enter Tryd.func30, Tryd.ntmps30
  go_wp2_with fail
  refine IM.out.mono ?_
  rintro e w1 ⟨rfl, b1⟩
  go_upto_region 2 with fail
  generalize hW : World.alloc _ _ = W
  obtain ⟨g5, hg5⟩ : ∃ g, w1.heap.size = g := ⟨_, rfl⟩
  have r5 : W.heap[g5]? = some (.cells #[.int .i64 (rX t).1, .int .i64 (rX t).2.1, .int .i64 (rX t).2.2] 49) := by
    rw [← hW, ← hg5, Below.heap_alloc _ _ _ (by simp; omega)]; exact heap_alloc2_old _ _ _
  have r6 : W.heap[g5 + 1]? = some (.cells #[.int .i64 (rY t).1, .int .i64 (rY t).2.1, .int .i64 (rY t).2.2] 49) := by
    rw [← hW, ← hg5, Below.heap_alloc _ _ _ (by simp)]; exact heap_alloc2_new _ _ _
  have r7 : W.heap[g5 + 1 + 1]? = some (.cells #[.int .i64 (rZ t).1, .int .i64 (rZ t).2.1, .int .i64 (rZ t).2.2] 49) := by rw [← hW, ← hg5]; exact heap_alloc3_new _ _ _ _
  have aw : Ab w1 W := by rw [← hW]; exact bl3 _ _ _ _
  have A1 : Ab ((w.alloc (.cells #[.int .i64 p.1, .int .i64 p.2.1, .int .i64 p.2.2] 49)).alloc (.cells #[.int .i64 0, .int .i64 0, .int .i64 0] 49)) W := Ab.trans b1 aw
  have r3 := A1.heap (heap_alloc2_old _ _ _)
  have r4 := A1.heap (heap_alloc2_new _ _ _)
  have n5 : w.heap.size + 2 ≤ g5 := by
    have := Below.size b1
    rw [hg5] at this
    simp at this
    omega
  have KS : Hid (∀ w', Abx W (w.heap.size + 1) 3 49 w' → Abx W (w.heap.size + 1) 3 49 w' ∧ w'.cell? ⟨w.heap.size, 0, none⟩ = some (.int .i64 p.1) ∧ w'.cell? ⟨w.heap.size, 1, none⟩ = some (.int .i64 p.2.1) ∧ w'.cell? ⟨w.heap.size, 2, none⟩ = some (.int .i64 p.2.2) ∧ w'.cell? ⟨g5, 0, none⟩ = some (.int .i64 (rX t).1) ∧ w'.cell? ⟨g5, 1, none⟩ = some (.int .i64 (rX t).2.1) ∧ w'.cell? ⟨g5, 2, none⟩ = some (.int .i64 (rX t).2.2) ∧ w'.cell? ⟨g5 + 1, 0, none⟩ = some (.int .i64 (rY t).1) ∧ w'.cell? ⟨g5 + 1, 1, none⟩ = some (.int .i64 (rY t).2.1) ∧ w'.cell? ⟨g5 + 1, 2, none⟩ = some (.int .i64 (rY t).2.2) ∧ w'.cell? ⟨g5 + 1 + 1, 0, none⟩ = some (.int .i64 (rZ t).1) ∧ w'.cell? ⟨g5 + 1 + 1, 1, none⟩ = some (.int .i64 (rZ t).2.1) ∧ w'.cell? ⟨g5 + 1 + 1, 2, none⟩ = some (.int .i64 (rZ t).2.2) ∧ w'.frozen? ⟨w.heap.size + 1, 0, none⟩ = false ∧ w'.frozen? ⟨w.heap.size + 1, 1, none⟩ = false ∧ w'.frozen? ⟨w.heap.size + 1, 2, none⟩ = false ∧ w'.cell? ⟨w.heap.size + 1, 0, none⟩ = some (rv w' (w.heap.size + 1) 0) ∧ w'.cell? ⟨w.heap.size + 1, 1, none⟩ = some (rv w' (w.heap.size + 1) 1) ∧ w'.cell? ⟨w.heap.size + 1, 2, none⟩ = some (rv w' (w.heap.size + 1) 2)) := by
    intro w' hw
    obtain ⟨-, p0, p1, p2⟩ := rowfacts (hw.heap (by omega) r3)
    obtain ⟨-, p3, p4, p5⟩ := rowfacts (hw.heap (by omega) r5)
    obtain ⟨-, p6, p7, p8⟩ := rowfacts (hw.heap (by omega) r6)
    obtain ⟨-, p9, p10, p11⟩ := rowfacts (hw.heap (by omega) r7)
    exact ⟨hw, p0, p1, p2, p3, p4, p5, p6, p7, p8, p9, p10, p11, hw.free 0, hw.free 1, hw.free 2, hw.some (by omega), hw.some (by omega), hw.some (by omega)⟩
  have A0 : Abx W (w.heap.size + 1) 3 49 W := (Ab.refl W).x rfl r4
  have AW := hid (AZ.out.trans A1)
  rw [hg5]
  clear r3 r4 r5 r6 r7 hW hg5 aw A1 b1 IM AZ n5
  go_region_held3 (fun w' => Abx W (w.heap.size + 1) 3 49 w' ∧ w'.cell? ⟨w.heap.size, 0, none⟩ = some (.int .i64 p.1) ∧ w'.cell? ⟨w.heap.size, 1, none⟩ = some (.int .i64 p.2.1) ∧ w'.cell? ⟨w.heap.size, 2, none⟩ = some (.int .i64 p.2.2) ∧ w'.cell? ⟨g5, 0, none⟩ = some (.int .i64 (rX t).1) ∧ w'.cell? ⟨g5, 1, none⟩ = some (.int .i64 (rX t).2.1) ∧ w'.cell? ⟨g5, 2, none⟩ = some (.int .i64 (rX t).2.2) ∧ w'.cell? ⟨g5 + 1, 0, none⟩ = some (.int .i64 (rY t).1) ∧ w'.cell? ⟨g5 + 1, 1, none⟩ = some (.int .i64 (rY t).2.1) ∧ w'.cell? ⟨g5 + 1, 2, none⟩ = some (.int .i64 (rY t).2.2) ∧ w'.cell? ⟨g5 + 1 + 1, 0, none⟩ = some (.int .i64 (rZ t).1) ∧ w'.cell? ⟨g5 + 1 + 1, 1, none⟩ = some (.int .i64 (rZ t).2.1) ∧ w'.cell? ⟨g5 + 1 + 1, 2, none⟩ = some (.int .i64 (rZ t).2.2) ∧ w'.frozen? ⟨w.heap.size + 1, 0, none⟩ = false ∧ w'.frozen? ⟨w.heap.size + 1, 1, none⟩ = false ∧ w'.frozen? ⟨w.heap.size + 1, 2, none⟩ = false ∧ w'.cell? ⟨w.heap.size + 1, 0, none⟩ = some (rv w' (w.heap.size + 1) 0) ∧ w'.cell? ⟨w.heap.size + 1, 1, none⟩ = some (rv w' (w.heap.size + 1) 1) ∧ w'.cell? ⟨w.heap.size + 1, 2, none⟩ = some (rv w' (w.heap.size + 1) 2)) ((refine KS.out _ ?_; (with_reducible (repeat (first | assumption | apply Abx.drew | apply Abx.set | (refine Abx.call ?_ (by assumption))))); done)) (first
    | (go_at_call_of 22 (rZ t); refine (T3.out _).mono ?_; rintro e w4 ⟨rfl, b4⟩)
    | (go_at_call_of 22 (rY t); refine (T2.out _).mono ?_; rintro e w3 ⟨rfl, b3⟩)
    | (go_at_call 22; refine (T1.out _).mono ?_; rintro e w2 ⟨rfl, b2⟩))
  have A2 := ((A0.drew.call b2).call b3).call b4
  clear KS A0
  go_wp2
  refine bodyPost_ret ?_ rfl ⟨rfl, ?_⟩
  · exact results_cell_row Tryd.results30 _ _ (w.heap.size + 1) _ _ (0, 0) _ rfl (set3 A2) Tryd.underlying49 rfl (by kernel_rfl)
  · exact (((A2.set 0 _).set 1 _).set 2 _).ab AW.out (by omega)
end Go.Proofs.YthfholdhieigiaaDoor
