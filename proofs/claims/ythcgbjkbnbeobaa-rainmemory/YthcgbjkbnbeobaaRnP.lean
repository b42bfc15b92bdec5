/-
  Fall: walks over the program (layer 18).
-/
import Derived.Test.YthcgbjkbnbeobaaRnO
namespace Go.Proofs.Ythcgbjkbnbeobaa
open Go.RowKit Go.Deep
namespace Rn
open Sh
set_option maxRecDepth 100000 in
set_option maxHeartbeats 16000000 in
theorem fall_no1 (pw : Option Addr) (lw cw : Nat) (s : Int) (pr : Option Addr) (lr cr : Nat) (st : Int) (w : World) (h1 : decide (st < 0) = true) :
    Calls Try.prog 12 #[.slice pw lw cw, .int .i64 s, .slice pr lr cr, .int .i64 st] w fun e w' => e = .returned (.tuple #[.slice none 0 0, .int .i64 0, .int .i64 1]) ∧ Below w.heap.size w w' := by
  have A0 : Hid (Ab w (w.alloc (.cells #[.int .i64 s] 2))) := bl1 _ _
  have R0 : Hid ((w.alloc (.cells #[.int .i64 s] 2)).heap[w.heap.size]? = some (.cells #[.int .i64 s] 2)) := heap_alloc_new _ _
  go_enter Try.func12, Try.ntmps12
  go_upto_region 1 with fail
  generalize hW : World.alloc w _ = V0 at *
  obtain ⟨gs, hgs⟩ : ∃ g, w.heap.size = g := ⟨_, rfl⟩
  have HG := hid hgs
  rw [hgs] at R0 ⊢
  clear hgs hW
  have x0 := cell_of_row _ _ 0 _ _ _ R0.out
  go_wp2
  go_ret3
  exact ⟨rfl, by exact A0.out⟩
set_option maxRecDepth 100000 in
set_option maxHeartbeats 16000000 in
theorem fall_no2 (pw : Option Addr) (lw cw : Nat) (s : Int) (pr : Option Addr) (lr cr : Nat) (st : Int) (w : World) (h1 : decide (st < 0) = false) (h2 : out18 s = true) :
    Calls Try.prog 12 #[.slice pw lw cw, .int .i64 s, .slice pr lr cr, .int .i64 st] w fun e w' => e = .returned (.tuple #[.slice none 0 0, .int .i64 0, .int .i64 1]) ∧ Below w.heap.size w w' := by
  have H2 := hid h2
  clear h2
  have A0 : Hid (Ab w (w.alloc (.cells #[.int .i64 s] 2))) := bl1 _ _
  have R0 : Hid ((w.alloc (.cells #[.int .i64 s] 2)).heap[w.heap.size]? = some (.cells #[.int .i64 s] 2)) := heap_alloc_new _ _
  go_enter Try.func12, Try.ntmps12
  go_upto_region 1 with fail
  generalize hW : World.alloc w _ = V0 at *
  obtain ⟨gs, hgs⟩ : ∃ g, w.heap.size = g := ⟨_, rfl⟩
  have HG := hid hgs
  rw [hgs] at R0 ⊢
  clear hgs hW
  have x0 := cell_of_row _ _ 0 _ _ _ R0.out
  have CC := hid (out_at s V0)
  rw [H2.out] at CC
  go_wp2_with fail
  refine CC.out.mono ?_
  rintro e9 v9 ⟨rfl, hv9⟩
  have hv8 := hv9.symm
  subst hv8
  clear CC
  go_wp2
  go_ret3
  exact ⟨rfl, by exact A0.out⟩
set_option maxRecDepth 100000 in
set_option maxHeartbeats 16000000 in
theorem fall_no3 (pw : Option Addr) (lw cw : Nat) (W : Nat → Int) (s : Int) (pr : Option Addr) (lr cr : Nat) (st : Int) (w : World) (h1 : decide (st < 0) = false) (h2 : out18 s = false) (hlw : lw ≤ 17592186044416) (IW : Hid (IsI w pw lw W)) (HB : Hid (¬ ∀ i, i < lw → out18 (W i) = false)) :
    Calls Try.prog 12 #[.slice pw lw cw, .int .i64 s, .slice pr lr cr, .int .i64 st] w fun e w' => e = .returned (.tuple #[.slice none 0 0, .int .i64 0, .int .i64 1]) ∧ Below w.heap.size w w' := by
  have H2 := hid h2
  have HLW := hid hlw
  clear h2 hlw
  have A0 : Hid (Ab w (w.alloc (.cells #[.int .i64 s] 2))) := bl1 _ _
  have R0 : Hid ((w.alloc (.cells #[.int .i64 s] 2)).heap[w.heap.size]? = some (.cells #[.int .i64 s] 2)) := heap_alloc_new _ _
  go_enter Try.func12, Try.ntmps12
  go_upto_region 1 with fail
  generalize hW : World.alloc w _ = V0 at *
  obtain ⟨gs, hgs⟩ : ∃ g, w.heap.size = g := ⟨_, rfl⟩
  have HG := hid hgs
  rw [hgs] at R0 ⊢
  clear hgs hW
  have x0 := cell_of_row _ _ 0 _ _ _ R0.out
  have CO := hid (out_at s V0)
  rw [H2.out] at CO
  have CC := hid (CO.out)
  go_wp2_with fail
  refine CC.out.mono ?_
  rintro e9 v9 ⟨rfl, hv9⟩
  have hv8 := hv9.symm
  subst hv8
  clear CC
  have CC := hid (hasout_yes pw lw cw W V0 HLW.out (IW.out.below A0.out) HB.out)
  go_wp2_with fail
  refine CC.out.mono ?_
  rintro e9 v9 ⟨rfl, hv9⟩
  have hv8 := hv9.symm
  subst hv8
  clear CC
  go_wp2
  go_ret3
  exact ⟨rfl, by exact A0.out⟩
set_option maxRecDepth 100000 in
set_option maxHeartbeats 16000000 in
theorem fall_no4 (pw : Option Addr) (lw cw : Nat) (W : Nat → Int) (s : Int) (pr : Option Addr) (lr cr : Nat) (R : Nat → Int × Int × Int × Int) (st : Int) (w : World) (h1 : decide (st < 0) = false) (h2 : out18 s = false) (hlw : lw ≤ 17592186044416) (IW : Hid (IsI w pw lw W)) (IR : Hid (IsRn w pr lr R)) (HW : Hid (∀ i, i < lw → out18 (W i) = false)) (HB : Hid (1024 < lr ∨ ¬ ∀ k, k < lr → vB (lw : Nat) (R k) = true)) :
    Calls Try.prog 12 #[.slice pw lw cw, .int .i64 s, .slice pr lr cr, .int .i64 st] w fun e w' => e = .returned (.tuple #[.slice none 0 0, .int .i64 0, .int .i64 1]) ∧ Below w.heap.size w w' := by
  have H2 := hid h2
  have HLW := hid hlw
  clear h2 hlw
  have A0 : Hid (Ab w (w.alloc (.cells #[.int .i64 s] 2))) := bl1 _ _
  have R0 : Hid ((w.alloc (.cells #[.int .i64 s] 2)).heap[w.heap.size]? = some (.cells #[.int .i64 s] 2)) := heap_alloc_new _ _
  have CA : Hid (∀ v, Ab w v → Calls Try.prog 17 #[.int .i64 (lw : Nat), .slice pr lr cr] v fun e w' => e = .returned (.bool false) ∧ Below v.heap.size v w') := fun v a => by
    by_cases h : 1024 < lr
    · exact allv_long lw pr lr cr v (decide_eq_true (by omega))
    · exact allv_no lw pr lr cr R v (by omega) (IR.out.below a) (HB.out.resolve_left h)
  go_enter Try.func12, Try.ntmps12
  go_upto_region 1 with fail
  generalize hW : World.alloc w _ = V0 at *
  obtain ⟨gs, hgs⟩ : ∃ g, w.heap.size = g := ⟨_, rfl⟩
  have HG := hid hgs
  rw [hgs] at R0 ⊢
  clear hgs hW
  have x0 := cell_of_row _ _ 0 _ _ _ R0.out
  have CO := hid (out_at s V0)
  rw [H2.out] at CO
  have CC := hid (CO.out)
  go_wp2_with fail
  refine CC.out.mono ?_
  rintro e9 v9 ⟨rfl, hv9⟩
  have hv8 := hv9.symm
  subst hv8
  clear CC
  have CC := hid (hasout_no pw lw cw W V0 HLW.out (IW.out.below A0.out) HW.out)
  go_wp2_with fail
  refine CC.out.mono ?_
  rintro e9 v9 ⟨rfl, hv9⟩
  have hv8 := hv9.symm
  subst hv8
  clear CC
  have CC := hid (CA.out V0 A0.out)
  go_wp2_with fail
  refine CC.out.mono ?_
  rintro e9 V1 ⟨rfl, b1⟩
  have A1 : Hid (Ab V0 V1) := b1
  clear CC b1
  go_wp2
  go_ret3
  exact ⟨rfl, by exact A0.out.trans A1.out⟩
end Rn
end Go.Proofs.Ythcgbjkbnbeobaa
