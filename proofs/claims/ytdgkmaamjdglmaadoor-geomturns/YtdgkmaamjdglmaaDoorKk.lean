/-
  What a rotation makes of a point, and of a rotation: contracts.
-/
import Derived.Test.YtdgkmaamjdglmaaDoorKj
namespace Go.Proofs.YtdgkmaamjdglmaaDoor
open Go.RowKit Cu
/-- where a rotation takes a point -/
def app (X Y Z p : P3) : P3 := pl (pl (sc p.1 X) (sc p.2.1 Y)) (sc p.2.2 Z)
theorem ro_app (t : Nat) (p : P3) : ro t p = app (rX t) (rY t) (rZ t) p := rfl
set_option maxHeartbeats 4000000 in
theorem of_at (X Y Z p : P3) (w : World) (hX : Un X) (hY : Un Y) (hZ : Un Z) (hp : (-1000 ≤ p.1 ∧ p.1 ≤ 1000) ∧ (-1000 ≤ p.2.1 ∧ p.2.1 ≤ 1000) ∧ (-1000 ≤ p.2.2 ∧ p.2.2 ≤ 1000)) :
    Calls Tryd.prog 40 #[.agg #[.int .i64 X.1, .int .i64 X.2.1, .int .i64 X.2.2, .int .i64 Y.1, .int .i64 Y.2.1, .int .i64 Y.2.2, .int .i64 Z.1, .int .i64 Z.2.1, .int .i64 Z.2.2], .agg #[.int .i64 p.1, .int .i64 p.2.1, .int .i64 p.2.2]] w fun e w' => e = .returned (.agg #[.int .i64 (app X Y Z p).1, .int .i64 (app X Y Z p).2.1, .int .i64 (app X Y Z p).2.2]) ∧ Below w.heap.size w w' := by
  have S1 : Sm (sc p.1 X) := sc_sm hX (by omega)
  have S2 : Sm (sc p.2.1 Y) := sc_sm hY (by omega)
  have S3 : Sm (sc p.2.2 Z) := sc_sm hZ (by omega)
  have S4 : Sm (pl (sc p.1 X) (sc p.2.1 Y)) := by
    have a1 := (mul_un hX.1 1000 hp.1).1
    have a2 := (mul_un hX.2.1 1000 hp.1).1
    have a3 := (mul_un hX.2.2 1000 hp.1).1
    have b1 := (mul_un hY.1 1000 hp.2.1).1
    have b2 := (mul_un hY.2.1 1000 hp.2.1).1
    have b3 := (mul_un hY.2.2 1000 hp.2.1).1
    simp only [Sm, pl, sc]
    omega
  have T1 := hid (fun u => times_at X p.1 u S1)
  have T2 := hid (fun u => times_at Y p.2.1 u S2)
  have T3 := hid (fun u => times_at Z p.2.2 u S3)
  have Q1 := hid (fun u => plus_at (sc p.1 X) (sc p.2.1 Y) u S1 S2)
  have Q2 := hid (fun u => plus_at (pl (sc p.1 X) (sc p.2.1 Y)) (sc p.2.2 Z) u S4 S3)
  clear S1 S2 S3 S4 hX hY hZ hp
  go_enter Tryd.func40, Tryd.ntmps40
  go_upto_region 1 with fail
  generalize hW : World.alloc _ _ = W
  have AW : Hid (Ab w W) := by rw [← hW]; exact bl3 _ _ _ _
  have r2 : W.heap[w.heap.size]? = some (.cells #[.int .i64 X.1, .int .i64 X.2.1, .int .i64 X.2.2, .int .i64 Y.1, .int .i64 Y.2.1, .int .i64 Y.2.2, .int .i64 Z.1, .int .i64 Z.2.1, .int .i64 Z.2.2] 75) := by
    rw [← hW, Below.heap_alloc _ _ _ (by simp; omega)]; exact heap_alloc2_old _ _ _
  have r3 : W.heap[w.heap.size + 1]? = some (.cells #[.int .i64 p.1, .int .i64 p.2.1, .int .i64 p.2.2] 53) := by
    rw [← hW, Below.heap_alloc _ _ _ (by simp)]; exact heap_alloc2_new _ _ _
  have r4 : W.heap[w.heap.size + 1 + 1]? = some (.cells #[.int .i64 0, .int .i64 0, .int .i64 0] 53) := by rw [← hW]; exact heap_alloc3_new _ _ _ _
  have KS : Hid (∀ w', Abx W (w.heap.size + 1 + 1) 3 53 w' → Abx W (w.heap.size + 1 + 1) 3 53 w' ∧ w'.cell? ⟨w.heap.size, 0, none⟩ = some (.int .i64 X.1) ∧ w'.cell? ⟨w.heap.size, 1, none⟩ = some (.int .i64 X.2.1) ∧ w'.cell? ⟨w.heap.size, 2, none⟩ = some (.int .i64 X.2.2) ∧ w'.cell? ⟨w.heap.size, 3, none⟩ = some (.int .i64 Y.1) ∧ w'.cell? ⟨w.heap.size, 4, none⟩ = some (.int .i64 Y.2.1) ∧ w'.cell? ⟨w.heap.size, 5, none⟩ = some (.int .i64 Y.2.2) ∧ w'.cell? ⟨w.heap.size, 6, none⟩ = some (.int .i64 Z.1) ∧ w'.cell? ⟨w.heap.size, 7, none⟩ = some (.int .i64 Z.2.1) ∧ w'.cell? ⟨w.heap.size, 8, none⟩ = some (.int .i64 Z.2.2) ∧ w'.cell? ⟨w.heap.size + 1, 0, none⟩ = some (.int .i64 p.1) ∧ w'.cell? ⟨w.heap.size + 1, 1, none⟩ = some (.int .i64 p.2.1) ∧ w'.cell? ⟨w.heap.size + 1, 2, none⟩ = some (.int .i64 p.2.2) ∧ w'.frozen? ⟨w.heap.size + 1 + 1, 0, none⟩ = false ∧ w'.frozen? ⟨w.heap.size + 1 + 1, 1, none⟩ = false ∧ w'.frozen? ⟨w.heap.size + 1 + 1, 2, none⟩ = false ∧ w'.cell? ⟨w.heap.size + 1 + 1, 0, none⟩ = some (rv w' (w.heap.size + 1 + 1) 0) ∧ w'.cell? ⟨w.heap.size + 1 + 1, 1, none⟩ = some (rv w' (w.heap.size + 1 + 1) 1) ∧ w'.cell? ⟨w.heap.size + 1 + 1, 2, none⟩ = some (rv w' (w.heap.size + 1 + 1) 2)) := by
    intro w' hw
    have q2 := hw.heap (by omega) r2
    have q3 := hw.heap (by omega) r3
    exact ⟨hw, cell_of_row _ _ 0 _ _ _ q2, cell_of_row _ _ 1 _ _ _ q2, cell_of_row _ _ 2 _ _ _ q2, cell_of_row _ _ 3 _ _ _ q2, cell_of_row _ _ 4 _ _ _ q2, cell_of_row _ _ 5 _ _ _ q2, cell_of_row _ _ 6 _ _ _ q2, cell_of_row _ _ 7 _ _ _ q2, cell_of_row _ _ 8 _ _ _ q2, cell_of_row _ _ 0 _ _ _ q3, cell_of_row _ _ 1 _ _ _ q3, cell_of_row _ _ 2 _ _ _ q3, hw.free 0, hw.free 1, hw.free 2, hw.some (by omega), hw.some (by omega), hw.some (by omega)⟩
  have A0 : Abx W (w.heap.size + 1 + 1) 3 53 W := (Ab.refl W).x rfl r4
  clear r2 r3 r4 hW
  go_region_held3 (fun w' => Abx W (w.heap.size + 1 + 1) 3 53 w' ∧ w'.cell? ⟨w.heap.size, 0, none⟩ = some (.int .i64 X.1) ∧ w'.cell? ⟨w.heap.size, 1, none⟩ = some (.int .i64 X.2.1) ∧ w'.cell? ⟨w.heap.size, 2, none⟩ = some (.int .i64 X.2.2) ∧ w'.cell? ⟨w.heap.size, 3, none⟩ = some (.int .i64 Y.1) ∧ w'.cell? ⟨w.heap.size, 4, none⟩ = some (.int .i64 Y.2.1) ∧ w'.cell? ⟨w.heap.size, 5, none⟩ = some (.int .i64 Y.2.2) ∧ w'.cell? ⟨w.heap.size, 6, none⟩ = some (.int .i64 Z.1) ∧ w'.cell? ⟨w.heap.size, 7, none⟩ = some (.int .i64 Z.2.1) ∧ w'.cell? ⟨w.heap.size, 8, none⟩ = some (.int .i64 Z.2.2) ∧ w'.cell? ⟨w.heap.size + 1, 0, none⟩ = some (.int .i64 p.1) ∧ w'.cell? ⟨w.heap.size + 1, 1, none⟩ = some (.int .i64 p.2.1) ∧ w'.cell? ⟨w.heap.size + 1, 2, none⟩ = some (.int .i64 p.2.2) ∧ w'.frozen? ⟨w.heap.size + 1 + 1, 0, none⟩ = false ∧ w'.frozen? ⟨w.heap.size + 1 + 1, 1, none⟩ = false ∧ w'.frozen? ⟨w.heap.size + 1 + 1, 2, none⟩ = false ∧ w'.cell? ⟨w.heap.size + 1 + 1, 0, none⟩ = some (rv w' (w.heap.size + 1 + 1) 0) ∧ w'.cell? ⟨w.heap.size + 1 + 1, 1, none⟩ = some (rv w' (w.heap.size + 1 + 1) 1) ∧ w'.cell? ⟨w.heap.size + 1 + 1, 2, none⟩ = some (rv w' (w.heap.size + 1 + 1) 2)) ((refine KS.out _ ?_; (with_reducible (repeat (first | assumption | apply Abx.drew | apply Abx.set | (refine Abx.call ?_ (by assumption))))); done)) (first
    | (go_at_call_of 28 X; refine (T1.out _).mono ?_; rintro e w1 ⟨rfl, b1⟩)
    | (go_at_call_of 28 Y; refine (T2.out _).mono ?_; rintro e w2 ⟨rfl, b2⟩)
    | (go_at_call_of 28 Z; refine (T3.out _).mono ?_; rintro e w4 ⟨rfl, b4⟩)
    | (go_at_call_of 27 Z; refine (Q2.out _).mono ?_; rintro e w5 ⟨rfl, b5⟩)
    | (go_at_call 27; refine (Q1.out _).mono ?_; rintro e w3 ⟨rfl, b3⟩))
  have A2 := ((((A0.drew.call b1).call b2).call b3).call b4).call b5
  clear KS A0
  go_wp2
  refine bodyPost_ret ?_ rfl ⟨rfl, ?_⟩
  · exact results_cell_row Tryd.results40 _ _ (w.heap.size + 1 + 1) _ _ (0, 0) _ rfl (set3 A2) Tryd.underlying53 rfl (by kernel_rfl)
  · exact (((A2.set 0 _).set 1 _).set 2 _).ab AW.out (by omega)
theorem Un.le {p : P3} (h : Un p) : (-1000 ≤ p.1 ∧ p.1 ≤ 1000) ∧ (-1000 ≤ p.2.1 ∧ p.2.1 ≤ 1000) ∧ (-1000 ≤ p.2.2 ∧ p.2.2 ≤ 1000) := by unfold Un at h; omega
end Go.Proofs.YtdgkmaamjdglmaaDoor
