/-
  Units of vectors: walks over the program.
-/
import Derived.Test.YtdgkmaamjdglmaaDoorNc
namespace Go.Proofs.YtdgkmaamjdglmaaDoor
open Go.RowKit Tf
attribute [local go_sem] run_bits run_from raw_feq raw_fne raw_flt raw_fgt run_neg run_store_float
/-- is it a length by which a vector is divided? -/
def lvB (l : Nat) : Bool := fgt l 0 && !fgt l 9218868437227405311
def unB (l x : Nat) : Nat := if lvB l = true then dvB x l else 0
theorem unB_lt (l x : Nat) : unB l x < 18446744073709551616 := by
  unfold unB
  split
  · unfold dvB
    split
    · next r h => exact canon_lt (div_lt h)
    · decide
  · decide
theorem unB_canon (l x : Nat) : canonB (unB l x) = unB l x := by
  unfold unB
  split
  · exact dvB_canon x l
  · decide
set_option maxHeartbeats 1000000 in
theorem isInf_at (x : Nat) (w : World) :
    Calls Tryd.prog 59 #[.float .f64 x, .int .i64 1] w fun e w' => e = .returned (.bool (fgt x 9218868437227405311)) ∧ w' = w := by
  go_enter Tryd.func59, Tryd.ntmps59
  go_wp2
  go_ret
  exact ⟨rfl, rfl⟩
set_option maxHeartbeats 8000000 in
theorem unit_at (x y z : Nat) (w : World) (hx : x < 18446744073709551616) (hy : y < 18446744073709551616) (hz : z < 18446744073709551616) :
    Calls Tryd.prog 48 #[.agg #[.float .f64 x, .float .f64 y, .float .f64 z]] w fun e w' => e = .returned (.agg #[.float .f64 (unB (lnB x y z) x), .float .f64 (unB (lnB x y z) y), .float .f64 (unB (lnB x y z) z)]) ∧ Below w.heap.size w w' := by
  have LN := hid (fun w => length_at x y z w hx hy hz)
  obtain ⟨l, hl⟩ : ∃ l, lnB x y z = l := ⟨_, rfl⟩
  rw [hl]
  rw [hl] at LN
  have IF := hid (fun w => isInf_at l w)
  have A0 := hid (bl2 w (.cells #[.float .f64 x, .float .f64 y, .float .f64 z] 29) (.cells #[.float .f64 0, .float .f64 0, .float .f64 0] 29))
  have R0 := hid (And.intro (heap_alloc2_old w (.cells #[.float .f64 x, .float .f64 y, .float .f64 z] 29) (.cells #[.float .f64 0, .float .f64 0, .float .f64 0] 29)) (heap_alloc2_new w (.cells #[.float .f64 x, .float .f64 y, .float .f64 z] 29) (.cells #[.float .f64 0, .float .f64 0, .float .f64 0] 29)))
  clear hx hy hz hl
  obtain ⟨p1, hp1⟩ : ∃ p, fgt l 0 = p := ⟨_, rfl⟩
  obtain ⟨p2, hp2⟩ : ∃ p, fgt l 9218868437227405311 = p := ⟨_, rfl⟩
  rw [hp2] at IF
  cases p1 with
  | false =>
    have hu : ∀ k, unB l k = 0 := fun k => by simp [unB, lvB, hp1]
    rw [hu, hu, hu]
    clear hu
    go_enter Tryd.func48, Tryd.ntmps48
    go_wp2_with fail
    refine (LN.out _).mono ?_
    rintro e w1 ⟨rfl, b1⟩
    have r0 : w1.heap[w.heap.size + 1]? = some (.cells #[.float .f64 0, .float .f64 0, .float .f64 0] 29) := Ab.heap b1 R0.out.2
    have A1 : Hid (Ab w w1) := Ab.call A0.out b1
    obtain ⟨⟨o0, o1, o2⟩, o3, o4, o5⟩ := rowfacts r0
    have R1 := hid r0
    clear r0 b1 A0 R0
    go_wp2
    refine bodyPost_ret ?_ rfl ⟨rfl, ?_⟩
    · exact results_cell_row Tryd.results48 _ _ (w.heap.size + 1) _ _ (0, 0) _ rfl (row3 R1.out) Tryd.underlying29 rfl (by kernel_rfl)
    · exact ((Ab.setk A1.out (by omega) _).setk (by omega) _).setk (by omega) _
  | true =>
    cases p2 with
    | true =>
      have hu : ∀ k, unB l k = 0 := fun k => by simp [unB, lvB, hp2]
      rw [hu, hu, hu]
      clear hu hp2
      go_enter Tryd.func48, Tryd.ntmps48
      go_wp2_with fail
      refine (LN.out _).mono ?_
      rintro e w1 ⟨rfl, b1⟩
      have r0 : w1.heap[w.heap.size + 1]? = some (.cells #[.float .f64 0, .float .f64 0, .float .f64 0] 29) := Ab.heap b1 R0.out.2
      have A1 : Hid (Ab w w1) := Ab.call A0.out b1
      obtain ⟨⟨o0, o1, o2⟩, o3, o4, o5⟩ := rowfacts r0
      have R1 := hid r0
      clear r0 b1 A0 R0
      go_wp2_with fail
      refine (IF.out _).mono ?_
      rintro e w1 ⟨rfl, rfl⟩
      go_wp2
      refine bodyPost_ret ?_ rfl ⟨rfl, ?_⟩
      · exact results_cell_row Tryd.results48 _ _ (w.heap.size + 1) _ _ (0, 0) _ rfl (row3 R1.out) Tryd.underlying29 rfl (by kernel_rfl)
      · exact ((Ab.setk A1.out (by omega) _).setk (by omega) _).setk (by omega) _
    | false =>
      have hu : ∀ k, unB l k = dvB k l := fun k => by simp [unB, lvB, hp1, hp2]
      rw [hu, hu, hu]
      clear hu hp2
      go_enter Tryd.func48, Tryd.ntmps48
      go_wp2_with fail
      refine (LN.out _).mono ?_
      rintro e w1 ⟨rfl, b1⟩
      have r0 : w1.heap[w.heap.size + 1]? = some (.cells #[.float .f64 0, .float .f64 0, .float .f64 0] 29) := Ab.heap b1 R0.out.2
      have ra : w1.heap[w.heap.size]? = some (.cells #[.float .f64 x, .float .f64 y, .float .f64 z] 29) := Ab.heap b1 R0.out.1
      have A1 : Hid (Ab w w1) := Ab.call A0.out b1
      obtain ⟨-, a0, a1, a2⟩ := rowfacts ra
      have R1 := hid r0
      obtain ⟨r1, n1, k1, q1⟩ := div_any (P := Tryd.prog) w1 x l
      obtain ⟨r2, n2, k2, q2⟩ := div_any (P := Tryd.prog) (w1.drewN n1) y l
      obtain ⟨r3, n3, k3, q3⟩ := div_any (P := Tryd.prog) (w1.drewN (n1 + n2)) z l
      rw [World.drewN_drewN] at k2 k3
      have CN := hid (fun w => vcanon_at r1 r2 r3 _ _ _ w q1 q2 q3)
      clear r0 ra b1 A0 R0 q1 q2 q3
      go_wp2_with fail
      refine (IF.out _).mono ?_
      rintro e w1 ⟨rfl, rfl⟩
      go_wp2_with fail
      refine (CN.out _).mono ?_
      rintro e w4 ⟨rfl, b4⟩
      have A4 : Hid (Ab w w4) := Ab.call (Ab.drewN A1.out _) b4
      have r4 : w4.heap[w.heap.size + 1]? = some (.cells #[.float .f64 0, .float .f64 0, .float .f64 0] 29) := Ab.heap b4 R1.out
      obtain ⟨⟨o0, o1, o2⟩, o3, o4, o5⟩ := rowfacts r4
      have R4 := hid r4
      clear r4 b4 A1 R1 k1 k2 k3 a0 a1 a2
      go_wp2
      refine bodyPost_ret ?_ rfl ⟨rfl, ?_⟩
      · exact results_cell_row Tryd.results48 _ _ (w.heap.size + 1) _ _ (0, 0) _ rfl (row3 R4.out) Tryd.underlying29 rfl (by kernel_rfl)
      · exact ((Ab.setk A4.out (by omega) _).setk (by omega) _).setk (by omega) _
end Go.Proofs.YtdgkmaamjdglmaaDoor
