/-
  Some of the texts of this proof, one behind the other.
-/
import Derived.Deep.QuietTactic
import Derived.Test.YtdigecacmibkpaaGreatDoorSa10
namespace Go.Proofs.YtdigecacmibkpaaGreatDoor
open Go.RowKit Tf Cu Go.Deep
attribute [local go_sem] run_bits run_from raw_feq raw_fne raw_flt raw_fgt run_neg run_store_float
namespace Ss
set_option maxRecDepth 100000 in
set_option maxHeartbeats 16000000 in
theorem rplan_side (sd : Int) (dt gr dr : Nat) (lim : Int) (rv : Bool) (pr : Option Addr) (lr cr : Nat) (w : World) (h : ¬ (1 ≤ sd ∧ sd ≤ 32)) :
    Calls Tryz.prog 11 #[.agg #[.int .i64 sd, .float .f64 dt, .float .f64 gr, .float .f64 dr, .int .i64 lim, .bool rv, .slice pr lr cr]] w fun e w' => e = .returned (.int .i64 10) ∧ Below w.heap.size w w' := by
  by_cases c : sd < 1
  · have d1 : decide (sd < 1) = true := decide_eq_true c
    clear h c
    have A0 : Hid (Ab w (w.alloc (.cells #[.int .i64 sd, .float .f64 dt, .float .f64 gr, .float .f64 dr, .int .i64 lim, .bool rv, .slice pr lr cr] 25))) := bl1 _ _
    have R0 : Hid ((w.alloc (.cells #[.int .i64 sd, .float .f64 dt, .float .f64 gr, .float .f64 dr, .int .i64 lim, .bool rv, .slice pr lr cr] 25)).heap[w.heap.size]? = some (.cells #[.int .i64 sd, .float .f64 dt, .float .f64 gr, .float .f64 dr, .int .i64 lim, .bool rv, .slice pr lr cr] 25)) := heap_alloc_new _ _
    go_enter Tryz.func11, Tryz.ntmps11
    go_upto_region 1 with fail
    generalize hW : World.alloc w _ = V0 at *
    obtain ⟨gw, hgw⟩ : ∃ g, w.heap.size = g := ⟨_, rfl⟩
    rw [hgw] at R0 ⊢
    clear hgw hW
    have x0 := cell_of_row _ _ 0 _ _ _ R0.out
    have x1 := cell_of_row _ _ 1 _ _ _ R0.out
    have x2 := cell_of_row _ _ 2 _ _ _ R0.out
    have x3 := cell_of_row _ _ 3 _ _ _ R0.out
    have x4 := cell_of_row _ _ 4 _ _ _ R0.out
    have x5 := cell_of_row _ _ 5 _ _ _ R0.out
    have x6 := cell_of_row _ _ 6 _ _ _ R0.out
    go_wp2
    go_ret
    exact ⟨rfl, A0.out⟩
  · have d1 : decide (sd < 1) = false := decide_eq_false c
    have d2 : decide (32 < sd) = true := decide_eq_true (by omega)
    clear h c
    have A0 : Hid (Ab w (w.alloc (.cells #[.int .i64 sd, .float .f64 dt, .float .f64 gr, .float .f64 dr, .int .i64 lim, .bool rv, .slice pr lr cr] 25))) := bl1 _ _
    have R0 : Hid ((w.alloc (.cells #[.int .i64 sd, .float .f64 dt, .float .f64 gr, .float .f64 dr, .int .i64 lim, .bool rv, .slice pr lr cr] 25)).heap[w.heap.size]? = some (.cells #[.int .i64 sd, .float .f64 dt, .float .f64 gr, .float .f64 dr, .int .i64 lim, .bool rv, .slice pr lr cr] 25)) := heap_alloc_new _ _
    go_enter Tryz.func11, Tryz.ntmps11
    go_upto_region 1 with fail
    generalize hW : World.alloc w _ = V0 at *
    obtain ⟨gw, hgw⟩ : ∃ g, w.heap.size = g := ⟨_, rfl⟩
    rw [hgw] at R0 ⊢
    clear hgw hW
    have x0 := cell_of_row _ _ 0 _ _ _ R0.out
    have x1 := cell_of_row _ _ 1 _ _ _ R0.out
    have x2 := cell_of_row _ _ 2 _ _ _ R0.out
    have x3 := cell_of_row _ _ 3 _ _ _ R0.out
    have x4 := cell_of_row _ _ 4 _ _ _ R0.out
    have x5 := cell_of_row _ _ 5 _ _ _ R0.out
    have x6 := cell_of_row _ _ 6 _ _ _ R0.out
    go_wp2
    go_ret
    exact ⟨rfl, A0.out⟩
set_option maxRecDepth 100000 in
set_option maxHeartbeats 16000000 in
theorem rplan_bad0 (sd : Int) (dt gr dr : Nat) (lim : Int) (rv : Bool) (pr : Option Addr) (lr cr : Nat) (w : World) (h : 1 ≤ sd ∧ sd ≤ 32) (lb : Bool) (LB : Hid (decide (0 ≤ lim ∧ lim ≤ 3) = lb)) (H1 : Hid (btw dt 0 4652218415073722368 = false)) :
    Calls Tryz.prog 11 #[.agg #[.int .i64 sd, .float .f64 dt, .float .f64 gr, .float .f64 dr, .int .i64 lim, .bool rv, .slice pr lr cr]] w fun e w' => e = .returned (.int .i64 11) ∧ Below w.heap.size w w' := by
  have d1 : decide (sd < 1) = false := decide_eq_false (by omega)
  have d2 : decide (32 < sd) = false := decide_eq_false (by omega)
  clear h
  have A0 : Hid (Ab w (w.alloc (.cells #[.int .i64 sd, .float .f64 dt, .float .f64 gr, .float .f64 dr, .int .i64 lim, .bool rv, .slice pr lr cr] 25))) := bl1 _ _
  have R0 : Hid ((w.alloc (.cells #[.int .i64 sd, .float .f64 dt, .float .f64 gr, .float .f64 dr, .int .i64 lim, .bool rv, .slice pr lr cr] 25)).heap[w.heap.size]? = some (.cells #[.int .i64 sd, .float .f64 dt, .float .f64 gr, .float .f64 dr, .int .i64 lim, .bool rv, .slice pr lr cr] 25)) := heap_alloc_new _ _
  go_enter Tryz.func11, Tryz.ntmps11
  go_upto_region 1 with fail
  generalize hW : World.alloc w _ = V0 at *
  obtain ⟨gw, hgw⟩ : ∃ g, w.heap.size = g := ⟨_, rfl⟩
  rw [hgw] at R0 ⊢
  clear hgw hW
  have x0 := cell_of_row _ _ 0 _ _ _ R0.out
  have x1 := cell_of_row _ _ 1 _ _ _ R0.out
  have x2 := cell_of_row _ _ 2 _ _ _ R0.out
  have x3 := cell_of_row _ _ 3 _ _ _ R0.out
  have x4 := cell_of_row _ _ 4 _ _ _ R0.out
  have x5 := cell_of_row _ _ 5 _ _ _ R0.out
  have x6 := cell_of_row _ _ 6 _ _ _ R0.out
  have CV := hid (rvalid_at lim V0)
  rw [LB.out] at CV
  go_wp2_with fail
  refine CV.out.mono ?_
  rintro e9 v1 ⟨rfl, b1⟩
  have A1 : Hid (Ab w v1) := A0.out.trans b1
  have R1 := hid (Ab.heap b1 R0.out)
  clear b1 CV x0 x1 x2 x3 x4 x5 x6
  have x0 := cell_of_row _ _ 0 _ _ _ R1.out
  have x1 := cell_of_row _ _ 1 _ _ _ R1.out
  have x2 := cell_of_row _ _ 2 _ _ _ R1.out
  have x3 := cell_of_row _ _ 3 _ _ _ R1.out
  have x4 := cell_of_row _ _ 4 _ _ _ R1.out
  have x5 := cell_of_row _ _ 5 _ _ _ R1.out
  have x6 := cell_of_row _ _ 6 _ _ _ R1.out
  have CC := hid (rbtw20 dt 0 4652218415073722368 v1)
  rw [H1.out] at CC
  go_wp2_with fail
  refine CC.out.mono ?_
  rintro e9 v9 ⟨rfl, hv9⟩
  have hv8 := hv9.symm
  subst hv8
  clear CC
  go_wp2
  go_ret
  exact ⟨rfl, A1.out⟩
set_option maxRecDepth 100000 in
set_option maxHeartbeats 16000000 in
theorem rplan_bad1 (sd : Int) (dt gr dr : Nat) (lim : Int) (rv : Bool) (pr : Option Addr) (lr cr : Nat) (w : World) (h : 1 ≤ sd ∧ sd ≤ 32) (lb : Bool) (LB : Hid (decide (0 ≤ lim ∧ lim ≤ 3) = lb)) (H1 : Hid (btw dt 0 4652218415073722368 = true)) (h2 : feq dt 0 = true) :
    Calls Tryz.prog 11 #[.agg #[.int .i64 sd, .float .f64 dt, .float .f64 gr, .float .f64 dr, .int .i64 lim, .bool rv, .slice pr lr cr]] w fun e w' => e = .returned (.int .i64 11) ∧ Below w.heap.size w w' := by
  have d1 : decide (sd < 1) = false := decide_eq_false (by omega)
  have d2 : decide (32 < sd) = false := decide_eq_false (by omega)
  clear h
  have A0 : Hid (Ab w (w.alloc (.cells #[.int .i64 sd, .float .f64 dt, .float .f64 gr, .float .f64 dr, .int .i64 lim, .bool rv, .slice pr lr cr] 25))) := bl1 _ _
  have R0 : Hid ((w.alloc (.cells #[.int .i64 sd, .float .f64 dt, .float .f64 gr, .float .f64 dr, .int .i64 lim, .bool rv, .slice pr lr cr] 25)).heap[w.heap.size]? = some (.cells #[.int .i64 sd, .float .f64 dt, .float .f64 gr, .float .f64 dr, .int .i64 lim, .bool rv, .slice pr lr cr] 25)) := heap_alloc_new _ _
  go_enter Tryz.func11, Tryz.ntmps11
  go_upto_region 1 with fail
  generalize hW : World.alloc w _ = V0 at *
  obtain ⟨gw, hgw⟩ : ∃ g, w.heap.size = g := ⟨_, rfl⟩
  rw [hgw] at R0 ⊢
  clear hgw hW
  have x0 := cell_of_row _ _ 0 _ _ _ R0.out
  have x1 := cell_of_row _ _ 1 _ _ _ R0.out
  have x2 := cell_of_row _ _ 2 _ _ _ R0.out
  have x3 := cell_of_row _ _ 3 _ _ _ R0.out
  have x4 := cell_of_row _ _ 4 _ _ _ R0.out
  have x5 := cell_of_row _ _ 5 _ _ _ R0.out
  have x6 := cell_of_row _ _ 6 _ _ _ R0.out
  have CV := hid (rvalid_at lim V0)
  rw [LB.out] at CV
  go_wp2_with fail
  refine CV.out.mono ?_
  rintro e9 v1 ⟨rfl, b1⟩
  have A1 : Hid (Ab w v1) := A0.out.trans b1
  have R1 := hid (Ab.heap b1 R0.out)
  clear b1 CV x0 x1 x2 x3 x4 x5 x6
  have x0 := cell_of_row _ _ 0 _ _ _ R1.out
  have x1 := cell_of_row _ _ 1 _ _ _ R1.out
  have x2 := cell_of_row _ _ 2 _ _ _ R1.out
  have x3 := cell_of_row _ _ 3 _ _ _ R1.out
  have x4 := cell_of_row _ _ 4 _ _ _ R1.out
  have x5 := cell_of_row _ _ 5 _ _ _ R1.out
  have x6 := cell_of_row _ _ 6 _ _ _ R1.out
  have CC := hid (rbtw20 dt 0 4652218415073722368 v1)
  rw [H1.out] at CC
  go_wp2_with fail
  refine CC.out.mono ?_
  rintro e9 v9 ⟨rfl, hv9⟩
  have hv8 := hv9.symm
  subst hv8
  clear CC
  go_wp2
  go_ret
  exact ⟨rfl, A1.out⟩
set_option maxRecDepth 100000 in
set_option maxHeartbeats 16000000 in
theorem rplan_bad2 (sd : Int) (dt gr dr : Nat) (lim : Int) (rv : Bool) (pr : Option Addr) (lr cr : Nat) (w : World) (h : 1 ≤ sd ∧ sd ≤ 32) (lb : Bool) (LB : Hid (decide (0 ≤ lim ∧ lim ≤ 3) = lb)) (H1 : Hid (btw dt 0 4652218415073722368 = true)) (h2 : feq dt 0 = false) (H3 : Hid (btw gr 0 4652218415073722368 = false)) :
    Calls Tryz.prog 11 #[.agg #[.int .i64 sd, .float .f64 dt, .float .f64 gr, .float .f64 dr, .int .i64 lim, .bool rv, .slice pr lr cr]] w fun e w' => e = .returned (.int .i64 11) ∧ Below w.heap.size w w' := by
  have d1 : decide (sd < 1) = false := decide_eq_false (by omega)
  have d2 : decide (32 < sd) = false := decide_eq_false (by omega)
  clear h
  have A0 : Hid (Ab w (w.alloc (.cells #[.int .i64 sd, .float .f64 dt, .float .f64 gr, .float .f64 dr, .int .i64 lim, .bool rv, .slice pr lr cr] 25))) := bl1 _ _
  have R0 : Hid ((w.alloc (.cells #[.int .i64 sd, .float .f64 dt, .float .f64 gr, .float .f64 dr, .int .i64 lim, .bool rv, .slice pr lr cr] 25)).heap[w.heap.size]? = some (.cells #[.int .i64 sd, .float .f64 dt, .float .f64 gr, .float .f64 dr, .int .i64 lim, .bool rv, .slice pr lr cr] 25)) := heap_alloc_new _ _
  go_enter Tryz.func11, Tryz.ntmps11
  go_upto_region 1 with fail
  generalize hW : World.alloc w _ = V0 at *
  obtain ⟨gw, hgw⟩ : ∃ g, w.heap.size = g := ⟨_, rfl⟩
  rw [hgw] at R0 ⊢
  clear hgw hW
  have x0 := cell_of_row _ _ 0 _ _ _ R0.out
  have x1 := cell_of_row _ _ 1 _ _ _ R0.out
  have x2 := cell_of_row _ _ 2 _ _ _ R0.out
  have x3 := cell_of_row _ _ 3 _ _ _ R0.out
  have x4 := cell_of_row _ _ 4 _ _ _ R0.out
  have x5 := cell_of_row _ _ 5 _ _ _ R0.out
  have x6 := cell_of_row _ _ 6 _ _ _ R0.out
  have CV := hid (rvalid_at lim V0)
  rw [LB.out] at CV
  go_wp2_with fail
  refine CV.out.mono ?_
  rintro e9 v1 ⟨rfl, b1⟩
  have A1 : Hid (Ab w v1) := A0.out.trans b1
  have R1 := hid (Ab.heap b1 R0.out)
  clear b1 CV x0 x1 x2 x3 x4 x5 x6
  have x0 := cell_of_row _ _ 0 _ _ _ R1.out
  have x1 := cell_of_row _ _ 1 _ _ _ R1.out
  have x2 := cell_of_row _ _ 2 _ _ _ R1.out
  have x3 := cell_of_row _ _ 3 _ _ _ R1.out
  have x4 := cell_of_row _ _ 4 _ _ _ R1.out
  have x5 := cell_of_row _ _ 5 _ _ _ R1.out
  have x6 := cell_of_row _ _ 6 _ _ _ R1.out
  have CC := hid (rbtw20 dt 0 4652218415073722368 v1)
  rw [H1.out] at CC
  go_wp2_with fail
  refine CC.out.mono ?_
  rintro e9 v9 ⟨rfl, hv9⟩
  have hv8 := hv9.symm
  subst hv8
  clear CC
  have CC := hid (rbtw20 gr 0 4652218415073722368 v1)
  rw [H3.out] at CC
  go_wp2_with fail
  refine CC.out.mono ?_
  rintro e9 v9 ⟨rfl, hv9⟩
  have hv8 := hv9.symm
  subst hv8
  clear CC
  go_wp2
  go_ret
  exact ⟨rfl, A1.out⟩
set_option maxRecDepth 100000 in
set_option maxHeartbeats 16000000 in
theorem rplan_bad3 (sd : Int) (dt gr dr : Nat) (lim : Int) (rv : Bool) (pr : Option Addr) (lr cr : Nat) (w : World) (h : 1 ≤ sd ∧ sd ≤ 32) (lb : Bool) (LB : Hid (decide (0 ≤ lim ∧ lim ≤ 3) = lb)) (H1 : Hid (btw dt 0 4652218415073722368 = true)) (h2 : feq dt 0 = false) (H3 : Hid (btw gr 0 4652218415073722368 = true)) (H4 : Hid (btw dr 0 4652218415073722368 = false)) :
    Calls Tryz.prog 11 #[.agg #[.int .i64 sd, .float .f64 dt, .float .f64 gr, .float .f64 dr, .int .i64 lim, .bool rv, .slice pr lr cr]] w fun e w' => e = .returned (.int .i64 11) ∧ Below w.heap.size w w' := by
  have d1 : decide (sd < 1) = false := decide_eq_false (by omega)
  have d2 : decide (32 < sd) = false := decide_eq_false (by omega)
  clear h
  have A0 : Hid (Ab w (w.alloc (.cells #[.int .i64 sd, .float .f64 dt, .float .f64 gr, .float .f64 dr, .int .i64 lim, .bool rv, .slice pr lr cr] 25))) := bl1 _ _
  have R0 : Hid ((w.alloc (.cells #[.int .i64 sd, .float .f64 dt, .float .f64 gr, .float .f64 dr, .int .i64 lim, .bool rv, .slice pr lr cr] 25)).heap[w.heap.size]? = some (.cells #[.int .i64 sd, .float .f64 dt, .float .f64 gr, .float .f64 dr, .int .i64 lim, .bool rv, .slice pr lr cr] 25)) := heap_alloc_new _ _
  go_enter Tryz.func11, Tryz.ntmps11
  go_upto_region 1 with fail
  generalize hW : World.alloc w _ = V0 at *
  obtain ⟨gw, hgw⟩ : ∃ g, w.heap.size = g := ⟨_, rfl⟩
  rw [hgw] at R0 ⊢
  clear hgw hW
  have x0 := cell_of_row _ _ 0 _ _ _ R0.out
  have x1 := cell_of_row _ _ 1 _ _ _ R0.out
  have x2 := cell_of_row _ _ 2 _ _ _ R0.out
  have x3 := cell_of_row _ _ 3 _ _ _ R0.out
  have x4 := cell_of_row _ _ 4 _ _ _ R0.out
  have x5 := cell_of_row _ _ 5 _ _ _ R0.out
  have x6 := cell_of_row _ _ 6 _ _ _ R0.out
  have CV := hid (rvalid_at lim V0)
  rw [LB.out] at CV
  go_wp2_with fail
  refine CV.out.mono ?_
  rintro e9 v1 ⟨rfl, b1⟩
  have A1 : Hid (Ab w v1) := A0.out.trans b1
  have R1 := hid (Ab.heap b1 R0.out)
  clear b1 CV x0 x1 x2 x3 x4 x5 x6
  have x0 := cell_of_row _ _ 0 _ _ _ R1.out
  have x1 := cell_of_row _ _ 1 _ _ _ R1.out
  have x2 := cell_of_row _ _ 2 _ _ _ R1.out
  have x3 := cell_of_row _ _ 3 _ _ _ R1.out
  have x4 := cell_of_row _ _ 4 _ _ _ R1.out
  have x5 := cell_of_row _ _ 5 _ _ _ R1.out
  have x6 := cell_of_row _ _ 6 _ _ _ R1.out
  have CC := hid (rbtw20 dt 0 4652218415073722368 v1)
  rw [H1.out] at CC
  go_wp2_with fail
  refine CC.out.mono ?_
  rintro e9 v9 ⟨rfl, hv9⟩
  have hv8 := hv9.symm
  subst hv8
  clear CC
  have CC := hid (rbtw20 gr 0 4652218415073722368 v1)
  rw [H3.out] at CC
  go_wp2_with fail
  refine CC.out.mono ?_
  rintro e9 v9 ⟨rfl, hv9⟩
  have hv8 := hv9.symm
  subst hv8
  clear CC
  have CC := hid (rbtw20 dr 0 4652218415073722368 v1)
  rw [H4.out] at CC
  go_wp2_with fail
  refine CC.out.mono ?_
  rintro e9 v9 ⟨rfl, hv9⟩
  have hv8 := hv9.symm
  subst hv8
  clear CC
  go_wp2
  go_ret
  exact ⟨rfl, A1.out⟩
set_option maxRecDepth 100000 in
set_option maxHeartbeats 16000000 in
theorem rplan_bad4 (sd : Int) (dt gr dr : Nat) (lim : Int) (rv : Bool) (pr : Option Addr) (lr cr : Nat) (w : World) (h : 1 ≤ sd ∧ sd ≤ 32) (LB : Hid (decide (0 ≤ lim ∧ lim ≤ 3) = false)) (H1 : Hid (btw dt 0 4652218415073722368 = true)) (h2 : feq dt 0 = false) (H3 : Hid (btw gr 0 4652218415073722368 = true)) (H4 : Hid (btw dr 0 4652218415073722368 = true)) :
    Calls Tryz.prog 11 #[.agg #[.int .i64 sd, .float .f64 dt, .float .f64 gr, .float .f64 dr, .int .i64 lim, .bool rv, .slice pr lr cr]] w fun e w' => e = .returned (.int .i64 11) ∧ Below w.heap.size w w' := by
  have d1 : decide (sd < 1) = false := decide_eq_false (by omega)
  have d2 : decide (32 < sd) = false := decide_eq_false (by omega)
  clear h
  have A0 : Hid (Ab w (w.alloc (.cells #[.int .i64 sd, .float .f64 dt, .float .f64 gr, .float .f64 dr, .int .i64 lim, .bool rv, .slice pr lr cr] 25))) := bl1 _ _
  have R0 : Hid ((w.alloc (.cells #[.int .i64 sd, .float .f64 dt, .float .f64 gr, .float .f64 dr, .int .i64 lim, .bool rv, .slice pr lr cr] 25)).heap[w.heap.size]? = some (.cells #[.int .i64 sd, .float .f64 dt, .float .f64 gr, .float .f64 dr, .int .i64 lim, .bool rv, .slice pr lr cr] 25)) := heap_alloc_new _ _
  go_enter Tryz.func11, Tryz.ntmps11
  go_upto_region 1 with fail
  generalize hW : World.alloc w _ = V0 at *
  obtain ⟨gw, hgw⟩ : ∃ g, w.heap.size = g := ⟨_, rfl⟩
  rw [hgw] at R0 ⊢
  clear hgw hW
  have x0 := cell_of_row _ _ 0 _ _ _ R0.out
  have x1 := cell_of_row _ _ 1 _ _ _ R0.out
  have x2 := cell_of_row _ _ 2 _ _ _ R0.out
  have x3 := cell_of_row _ _ 3 _ _ _ R0.out
  have x4 := cell_of_row _ _ 4 _ _ _ R0.out
  have x5 := cell_of_row _ _ 5 _ _ _ R0.out
  have x6 := cell_of_row _ _ 6 _ _ _ R0.out
  have CV := hid (rvalid_at lim V0)
  rw [LB.out] at CV
  go_wp2_with fail
  refine CV.out.mono ?_
  rintro e9 v1 ⟨rfl, b1⟩
  have A1 : Hid (Ab w v1) := A0.out.trans b1
  have R1 := hid (Ab.heap b1 R0.out)
  clear b1 CV x0 x1 x2 x3 x4 x5 x6
  have x0 := cell_of_row _ _ 0 _ _ _ R1.out
  have x1 := cell_of_row _ _ 1 _ _ _ R1.out
  have x2 := cell_of_row _ _ 2 _ _ _ R1.out
  have x3 := cell_of_row _ _ 3 _ _ _ R1.out
  have x4 := cell_of_row _ _ 4 _ _ _ R1.out
  have x5 := cell_of_row _ _ 5 _ _ _ R1.out
  have x6 := cell_of_row _ _ 6 _ _ _ R1.out
  have CC := hid (rbtw20 dt 0 4652218415073722368 v1)
  rw [H1.out] at CC
  go_wp2_with fail
  refine CC.out.mono ?_
  rintro e9 v9 ⟨rfl, hv9⟩
  have hv8 := hv9.symm
  subst hv8
  clear CC
  have CC := hid (rbtw20 gr 0 4652218415073722368 v1)
  rw [H3.out] at CC
  go_wp2_with fail
  refine CC.out.mono ?_
  rintro e9 v9 ⟨rfl, hv9⟩
  have hv8 := hv9.symm
  subst hv8
  clear CC
  have CC := hid (rbtw20 dr 0 4652218415073722368 v1)
  rw [H4.out] at CC
  go_wp2_with fail
  refine CC.out.mono ?_
  rintro e9 v9 ⟨rfl, hv9⟩
  have hv8 := hv9.symm
  subst hv8
  clear CC
  go_wp2
  go_ret
  exact ⟨rfl, A1.out⟩
set_option maxRecDepth 100000 in
set_option maxHeartbeats 16000000 in
theorem rplan_long (sd : Int) (dt gr dr : Nat) (lim : Int) (rv : Bool) (pr : Option Addr) (lr cr : Nat) (w : World) (h : 1 ≤ sd ∧ sd ≤ 32) (LB : Hid (decide (0 ≤ lim ∧ lim ≤ 3) = true)) (H1 : Hid (btw dt 0 4652218415073722368 = true)) (h2 : feq dt 0 = false) (H3 : Hid (btw gr 0 4652218415073722368 = true)) (H4 : Hid (btw dr 0 4652218415073722368 = true)) (hl : 1024 < lr) :
    Calls Tryz.prog 11 #[.agg #[.int .i64 sd, .float .f64 dt, .float .f64 gr, .float .f64 dr, .int .i64 lim, .bool rv, .slice pr lr cr]] w fun e w' => e = .returned (.int .i64 18) ∧ Below w.heap.size w w' := by
  have d1 : decide (sd < 1) = false := decide_eq_false (by omega)
  have d2 : decide (32 < sd) = false := decide_eq_false (by omega)
  have d3 : decide ((1024 : Int) < (lr : Int)) = true := decide_eq_true (by omega)
  clear h hl
  have A0 : Hid (Ab w (w.alloc (.cells #[.int .i64 sd, .float .f64 dt, .float .f64 gr, .float .f64 dr, .int .i64 lim, .bool rv, .slice pr lr cr] 25))) := bl1 _ _
  have R0 : Hid ((w.alloc (.cells #[.int .i64 sd, .float .f64 dt, .float .f64 gr, .float .f64 dr, .int .i64 lim, .bool rv, .slice pr lr cr] 25)).heap[w.heap.size]? = some (.cells #[.int .i64 sd, .float .f64 dt, .float .f64 gr, .float .f64 dr, .int .i64 lim, .bool rv, .slice pr lr cr] 25)) := heap_alloc_new _ _
  go_enter Tryz.func11, Tryz.ntmps11
  go_upto_region 1 with fail
  generalize hW : World.alloc w _ = V0 at *
  obtain ⟨gw, hgw⟩ : ∃ g, w.heap.size = g := ⟨_, rfl⟩
  rw [hgw] at R0 ⊢
  clear hgw hW
  have x0 := cell_of_row _ _ 0 _ _ _ R0.out
  have x1 := cell_of_row _ _ 1 _ _ _ R0.out
  have x2 := cell_of_row _ _ 2 _ _ _ R0.out
  have x3 := cell_of_row _ _ 3 _ _ _ R0.out
  have x4 := cell_of_row _ _ 4 _ _ _ R0.out
  have x5 := cell_of_row _ _ 5 _ _ _ R0.out
  have x6 := cell_of_row _ _ 6 _ _ _ R0.out
  have CV := hid (rvalid_at lim V0)
  rw [LB.out] at CV
  go_wp2_with fail
  refine CV.out.mono ?_
  rintro e9 v1 ⟨rfl, b1⟩
  have A1 : Hid (Ab w v1) := A0.out.trans b1
  have R1 := hid (Ab.heap b1 R0.out)
  clear b1 CV x0 x1 x2 x3 x4 x5 x6
  have x0 := cell_of_row _ _ 0 _ _ _ R1.out
  have x1 := cell_of_row _ _ 1 _ _ _ R1.out
  have x2 := cell_of_row _ _ 2 _ _ _ R1.out
  have x3 := cell_of_row _ _ 3 _ _ _ R1.out
  have x4 := cell_of_row _ _ 4 _ _ _ R1.out
  have x5 := cell_of_row _ _ 5 _ _ _ R1.out
  have x6 := cell_of_row _ _ 6 _ _ _ R1.out
  have CC := hid (rbtw20 dt 0 4652218415073722368 v1)
  rw [H1.out] at CC
  go_wp2_with fail
  refine CC.out.mono ?_
  rintro e9 v9 ⟨rfl, hv9⟩
  have hv8 := hv9.symm
  subst hv8
  clear CC
  have CC := hid (rbtw20 gr 0 4652218415073722368 v1)
  rw [H3.out] at CC
  go_wp2_with fail
  refine CC.out.mono ?_
  rintro e9 v9 ⟨rfl, hv9⟩
  have hv8 := hv9.symm
  subst hv8
  clear CC
  have CC := hid (rbtw20 dr 0 4652218415073722368 v1)
  rw [H4.out] at CC
  go_wp2_with fail
  refine CC.out.mono ?_
  rintro e9 v9 ⟨rfl, hv9⟩
  have hv8 := hv9.symm
  subst hv8
  clear CC
  go_wp2
  go_ret
  exact ⟨rfl, A1.out⟩
set_option maxRecDepth 100000 in
set_option maxHeartbeats 32000000 in
theorem rplan_go (n N : Nat) (dt gr dr : Nat) (lim : Int) (rv : Bool) (pr : Option Addr) (lr cr : Nat) (R : Nat → Int × Int × Int × Int) (w : World) (h : 1 ≤ n ∧ n ≤ 32) (hN : 6 * (n : Int) * (n : Int) = (N : Nat)) (LB : Hid (decide (0 ≤ lim ∧ lim ≤ 3) = true)) (H1 : Hid (btw dt 0 4652218415073722368 = true)) (h2 : feq dt 0 = false) (H3 : Hid (btw gr 0 4652218415073722368 = true)) (H4 : Hid (btw dr 0 4652218415073722368 = true)) (hl : lr ≤ 1024) (IR : Hid (Rn.IsRn w pr lr R)) (an : Int) (AY : Hid ((∀ k, k < lr → rB (N : Nat) (R k) = true) → an = 0)) (AN : Hid ((¬ ∀ k, k < lr → rB (N : Nat) (R k) = true) → an = 18)) :
    Calls Tryz.prog 11 #[.agg #[.int .i64 (n : Nat), .float .f64 dt, .float .f64 gr, .float .f64 dr, .int .i64 lim, .bool rv, .slice pr lr cr]] w fun e w' => e = .returned (.int .i64 an) ∧ Below w.heap.size w w' := by
  have d1 : decide ((n : Int) < 1) = false := decide_eq_false (by omega)
  have d2 : decide (32 < (n : Int)) = false := decide_eq_false (by omega)
  have d3 : decide ((1024 : Int) < (lr : Int)) = false := decide_eq_false (by omega)
  have nI : (n : Int) ≤ 32 := by omega
  have NB : (N : Int) ≤ 6144 := by
    have h1 : n * n ≤ 32 * 32 := Nat.mul_le_mul h.2 h.2
    have h2 : ((n * n : Nat) : Int) ≤ ((32 * 32 : Nat) : Int) := by exact_mod_cast h1
    rw [Int.natCast_mul] at h2
    rw [← hN, Int.mul_assoc]
    omega
  have m1 : -9223372036854775808 ≤ 6 * (n : Int) * (n : Int) := by rw [hN]; omega
  have m2 : 6 * (n : Int) * (n : Int) ≤ 9223372036854775807 := by rw [hN]; omega
  have HL := hid hl
  clear h hl
  have A0 : Hid (Ab w (w.alloc (.cells #[.int .i64 (n : Nat), .float .f64 dt, .float .f64 gr, .float .f64 dr, .int .i64 lim, .bool rv, .slice pr lr cr] 25))) := bl1 _ _
  have R0 : Hid ((w.alloc (.cells #[.int .i64 (n : Nat), .float .f64 dt, .float .f64 gr, .float .f64 dr, .int .i64 lim, .bool rv, .slice pr lr cr] 25)).heap[w.heap.size]? = some (.cells #[.int .i64 (n : Nat), .float .f64 dt, .float .f64 gr, .float .f64 dr, .int .i64 lim, .bool rv, .slice pr lr cr] 25)) := heap_alloc_new _ _
  go_enter Tryz.func11, Tryz.ntmps11
  go_upto_region 1 with fail
  generalize hW : World.alloc w _ = V0 at *
  obtain ⟨gw, hgw⟩ : ∃ g, w.heap.size = g := ⟨_, rfl⟩
  rw [hgw] at R0 ⊢
  clear hgw hW
  have x0 := cell_of_row _ _ 0 _ _ _ R0.out
  have x1 := cell_of_row _ _ 1 _ _ _ R0.out
  have x2 := cell_of_row _ _ 2 _ _ _ R0.out
  have x3 := cell_of_row _ _ 3 _ _ _ R0.out
  have x4 := cell_of_row _ _ 4 _ _ _ R0.out
  have x5 := cell_of_row _ _ 5 _ _ _ R0.out
  have x6 := cell_of_row _ _ 6 _ _ _ R0.out
  have CV := hid (rvalid_at lim V0)
  rw [LB.out] at CV
  go_wp2_with fail
  refine CV.out.mono ?_
  rintro e9 v1 ⟨rfl, b1⟩
  have A1 : Hid (Ab w v1) := A0.out.trans b1
  have R1 := hid (Ab.heap b1 R0.out)
  clear b1 CV x0 x1 x2 x3 x4 x5 x6
  have x0 := cell_of_row _ _ 0 _ _ _ R1.out
  have x1 := cell_of_row _ _ 1 _ _ _ R1.out
  have x2 := cell_of_row _ _ 2 _ _ _ R1.out
  have x3 := cell_of_row _ _ 3 _ _ _ R1.out
  have x4 := cell_of_row _ _ 4 _ _ _ R1.out
  have x5 := cell_of_row _ _ 5 _ _ _ R1.out
  have x6 := cell_of_row _ _ 6 _ _ _ R1.out
  have CC := hid (rbtw20 dt 0 4652218415073722368 v1)
  rw [H1.out] at CC
  go_wp2_with fail
  refine CC.out.mono ?_
  rintro e9 v9 ⟨rfl, hv9⟩
  have hv8 := hv9.symm
  subst hv8
  clear CC
  have CC := hid (rbtw20 gr 0 4652218415073722368 v1)
  rw [H3.out] at CC
  go_wp2_with fail
  refine CC.out.mono ?_
  rintro e9 v9 ⟨rfl, hv9⟩
  have hv8 := hv9.symm
  subst hv8
  clear CC
  have CC := hid (rbtw20 dr 0 4652218415073722368 v1)
  rw [H4.out] at CC
  go_wp2_with fail
  refine CC.out.mono ?_
  rintro e9 v9 ⟨rfl, hv9⟩
  have hv8 := hv9.symm
  subst hv8
  clear CC
  go_wp2
  go_loopw [4] (fun iv wr => ∃ k : Nat, k ≤ lr ∧ iv = .int .i64 (k : Nat) ∧ Ab v1 wr ∧ ∀ i, i < k → rB (N : Nat) (R i) = true) (fun iv _ => lr - (intOf iv).toNat)
  case atStart => exact ⟨0, by omega, rfl, Ab.refl v1, fun i hi => absurd hi (Nat.not_lt_zero i)⟩
  case round =>
    obtain ⟨k, hk, rfl, ar, g1⟩ := hrel
    have AR := hid ar
    have G1 := hid g1
    clear ar g1 x0 x1 x2 x3 x4 x5 x6
    have RR := hid (Ab.heap AR.out R1.out)
    have x0 := cell_of_row _ _ 0 _ _ _ RR.out
    have x1 := cell_of_row _ _ 1 _ _ _ RR.out
    have x2 := cell_of_row _ _ 2 _ _ _ RR.out
    have x3 := cell_of_row _ _ 3 _ _ _ RR.out
    have x4 := cell_of_row _ _ 4 _ _ _ RR.out
    have x5 := cell_of_row _ _ 5 _ _ _ RR.out
    have x6 := cell_of_row _ _ 6 _ _ _ RR.out
    by_cases hkn : k < lr
    · have HK := hid hkn
      have kI : (k : Int) < lr := by omega
      have kB : (k : Int) ≤ 1024 := by have := HL.out; omega
      obtain ⟨rb, ro, rfl⟩ := IR.out.some0 (show 0 < lr by omega)
      obtain ⟨r1, r2, r3, r4, hr⟩ : ∃ a b c' d, R k = (a, b, c', d) := ⟨_, _, _, _, rfl⟩
      have YC : Hid (∀ v, Ab wr v → v.cell? ⟨rb, ro + k * 4, none⟩ = some (.int .i64 r1) ∧ v.cell? ⟨rb, ro + k * 4 + 1, none⟩ = some (.int .i64 r2) ∧ v.cell? ⟨rb, ro + k * 4 + 2, none⟩ = some (.int .i64 r3) ∧ v.cell? ⟨rb, ro + k * 4 + 3, none⟩ = some (.int .i64 r4)) := fun v a => by
        have at0 := ((IR.out.below (A1.out.trans (AR.out.trans a))).at0 hkn)
        rw [hr] at at0
        exact at0.2.2
      have CV : Hid (∀ v, Calls Tryz.prog 34 #[.int .i64 (N : Nat), .agg #[.int .i64 r1, .int .i64 r2, .int .i64 r3, .int .i64 r4]] v fun e w' => e = .returned (.bool (rB (N : Nat) (R k))) ∧ Below v.heap.size v w') := fun v => by rw [hr]; exact Rn.rvalid18 (N : Nat) r1 r2 r3 r4 v
      clear hkn hk hr
      cases vb : rB (N : Nat) (R k) with
      | false =>
        rw [vb] at CV
        have E : Hid (an = 18) := AN.out (fun q => by have := q k HK.out; rw [vb] at this; cases this)
        go_upto_region 11 with fail
        obtain ⟨UU, E, hF1, hF2⟩ := cls wr
        have HU := hid hF2
        have HU1 := hid hF1
        have e0 : ∀ u, (E u).cell? ⟨gw, 0, none⟩ = some (.int .i64 (n : Nat)) := fun u => cell_of_row _ _ 0 _ _ _ ((hF1 u).heap RR.out)
        have e6 : ∀ u, (E u).cell? ⟨gw, 6, none⟩ = some (.slice (some ⟨rb, ro, none⟩) lr cr) := fun u => cell_of_row _ _ 6 _ _ _ ((hF1 u).heap RR.out)
        have y0 : ∀ u, (E u).cell? ⟨rb, ro + k * 4, none⟩ = some (.int .i64 r1) := fun u => (YC.out _ (hF1 u)).1
        have y1 : ∀ u, (E u).cell? ⟨rb, ro + k * 4 + 1, none⟩ = some (.int .i64 r2) := fun u => (YC.out _ (hF1 u)).2.1
        have y2 : ∀ u, (E u).cell? ⟨rb, ro + k * 4 + 2, none⟩ = some (.int .i64 r3) := fun u => (YC.out _ (hF1 u)).2.2.1
        have y3 : ∀ u, (E u).cell? ⟨rb, ro + k * 4 + 3, none⟩ = some (.int .i64 r4) := fun u => (YC.out _ (hF1 u)).2.2.2
        have DD0 := HU.out _ (Ab.refl wr).drew
        clear hF1 hF2
        refine region_cls E (by kernel_rfl) (by kernel_rfl) DD0 ?_
        repeat (go_big_quiet_step (first | (go_at_call 34; exact calls_cls HU HU1 (CV.out _)) | (with_reducible rfl)))
        refine wpQuiet_nil ?_
        intro v2 hwz
        obtain ⟨u0, hu⟩ := hwz
        have A2 : Hid (Ab wr v2) := by rw [hu]; exact HU1.out u0
        clear hu u0
        clear HU HU1 DD0 e0 e6 y0 y1 y2 y3
        clear E UU
        go_wp2
        go_ret
        exact ⟨by rw [E.out]; rfl, A1.out.trans (AR.out.trans A2.out)⟩
      | true =>
        rw [vb] at CV
        have VB := hid vb
        clear vb
        go_upto_region 11 with fail
        obtain ⟨UU, E, hF1, hF2⟩ := cls wr
        have HU := hid hF2
        have HU1 := hid hF1
        have e0 : ∀ u, (E u).cell? ⟨gw, 0, none⟩ = some (.int .i64 (n : Nat)) := fun u => cell_of_row _ _ 0 _ _ _ ((hF1 u).heap RR.out)
        have e6 : ∀ u, (E u).cell? ⟨gw, 6, none⟩ = some (.slice (some ⟨rb, ro, none⟩) lr cr) := fun u => cell_of_row _ _ 6 _ _ _ ((hF1 u).heap RR.out)
        have y0 : ∀ u, (E u).cell? ⟨rb, ro + k * 4, none⟩ = some (.int .i64 r1) := fun u => (YC.out _ (hF1 u)).1
        have y1 : ∀ u, (E u).cell? ⟨rb, ro + k * 4 + 1, none⟩ = some (.int .i64 r2) := fun u => (YC.out _ (hF1 u)).2.1
        have y2 : ∀ u, (E u).cell? ⟨rb, ro + k * 4 + 2, none⟩ = some (.int .i64 r3) := fun u => (YC.out _ (hF1 u)).2.2.1
        have y3 : ∀ u, (E u).cell? ⟨rb, ro + k * 4 + 3, none⟩ = some (.int .i64 r4) := fun u => (YC.out _ (hF1 u)).2.2.2
        have DD0 := HU.out _ (Ab.refl wr).drew
        clear hF1 hF2
        refine region_cls E (by kernel_rfl) (by kernel_rfl) DD0 ?_
        repeat (go_big_quiet_step (first | (go_at_call 34; exact calls_cls HU HU1 (CV.out _)) | (with_reducible rfl)))
        refine wpQuiet_nil ?_
        intro v2 hwz
        obtain ⟨u0, hu⟩ := hwz
        have A2 : Hid (Ab wr v2) := by rw [hu]; exact HU1.out u0
        clear hu u0
        clear HU HU1 DD0 e0 e6 y0 y1 y2 y3
        clear E UU
        go_wp2
        refine ⟨⟨k + 1, by have := HK.out; omega, by simp, AR.out.trans A2.out, fun i hi => ?_⟩, by have := HK.out; simp [intOf]; omega⟩
        by_cases l : i < k
        · exact G1.out i l
        · obtain rfl : i = k := by omega
          exact VB.out
    · have e6 : lr = k := by omega
      subst e6
      have E : Hid (an = 0) := AY.out G1.out
      go_wp2
      go_ret
      exact ⟨by rw [E.out]; rfl, A1.out.trans AR.out⟩
/-- WHAT THE REFERENCE'S Plan ANSWERS -/
theorem rplan_at (sd : Int) (dt gr dr : Nat) (lim : Int) (rv : Bool) (pr : Option Addr) (lr cr : Nat) (R : Nat → Int × Int × Int × Int) (w : World) (ir : Rn.IsRn w pr lr R) :
    Calls Tryz.prog 11 #[.agg #[.int .i64 sd, .float .f64 dt, .float .f64 gr, .float .f64 dr, .int .i64 lim, .bool rv, .slice pr lr cr]] w fun e w' => e = .returned (.int .i64 (plE sd dt gr dr lim lr R)) ∧ Below w.heap.size w w' := by
  unfold plE
  by_cases h : 1 ≤ sd ∧ sd ≤ 32
  · rw [if_neg (fun q => q h)]
    cases b1 : btw dt 0 4652218415073722368 with
    | false =>
      rw [if_pos (fun q => by cases q.1)]
      exact rplan_bad0 sd dt gr dr lim rv pr lr cr w h _ rfl b1
    | true =>
      cases z : feq dt 0 with
      | true =>
        rw [if_pos (fun q => by cases q.2.1)]
        exact rplan_bad1 sd dt gr dr lim rv pr lr cr w h _ rfl b1 z
      | false =>
        cases b2 : btw gr 0 4652218415073722368 with
        | false =>
          rw [if_pos (fun q => by cases q.2.2.1)]
          exact rplan_bad2 sd dt gr dr lim rv pr lr cr w h _ rfl b1 z b2
        | true =>
          cases b3 : btw dr 0 4652218415073722368 with
          | false =>
            rw [if_pos (fun q => by cases q.2.2.2.1)]
            exact rplan_bad3 sd dt gr dr lim rv pr lr cr w h _ rfl b1 z b2 b3
          | true =>
            by_cases l : 0 ≤ lim ∧ lim ≤ 3
            · rw [if_neg (fun q => q ⟨rfl, rfl, rfl, rfl, l⟩)]
              by_cases hl : lr ≤ 1024
              · obtain ⟨n, rfl⟩ : ∃ n : Nat, sd = (n : Nat) := ⟨sd.toNat, by omega⟩
                rw [Int.toNat_natCast]
                have g := rplan_go n (6 * n * n) dt gr dr lim rv pr lr cr R w (by omega) (by rw [Int.natCast_mul, Int.natCast_mul]; rfl) (decide_eq_true l) b1 z b2 b3 hl ir
                by_cases a : ∀ k, k < lr → rB ((6 * n * n : Nat) : Int) (R k) = true
                · rw [if_neg (fun q => q ⟨hl, a⟩)]
                  exact g 0 (fun _ => rfl) (fun q => absurd a q)
                · rw [if_pos (fun q => a q.2)]
                  exact g 18 (fun q => absurd q a) (fun _ => rfl)
              · rw [if_pos (fun q => hl q.1)]
                exact rplan_long sd dt gr dr lim rv pr lr cr w h (decide_eq_true l) b1 z b2 b3 (by omega)
            · rw [if_pos (fun q => l q.2.2.2.2)]
              exact rplan_bad4 sd dt gr dr lim rv pr lr cr w h (decide_eq_false l) b1 z b2 b3
  · rw [if_pos h]
    exact rplan_side sd dt gr dr lim rv pr lr cr w h
end Ss
end Go.Proofs.YtdigecacmibkpaaGreatDoor

namespace Go.Proofs.YtdigecacmibkpaaGreatDoor
open Go.RowKit Tf Cu Go.Deep
namespace Rv
/-- how high a bed is -/
def kb (x : Nat) : Nat := placeB (canonB x)
/-- how high a cell is -/
def kB (B : Nat → Nat) (c : Nat) : Nat := kb (B c)
/-- a list of cells of the call's own -/
def OwnN (B : Nat) (v : Value) (l : List Nat) (w : World) : Prop := w.ownsRow B 3 1 v l.length (l.map fun c => Value.int .i64 (c : Nat))
end Rv
end Go.Proofs.YtdigecacmibkpaaGreatDoor

namespace Go.Proofs.YtdigecacmibkpaaGreatDoor
open Go.RowKit Tf Cu Go.Deep
attribute [local go_sem] run_bits run_from raw_feq raw_fne raw_flt raw_fgt run_neg run_store_float
namespace Rv
theorem OwnN.in {B : Nat} {v : Value} {l : List Nat} {w : World} (h : OwnN B v l w) (hl : ∀ x ∈ l, x ≤ 9223372036854775807) : ∃ a0 cap, v = .slice a0 l.length cap ∧ Sh.IsI w a0 l.length (fun j => ((l.getD j 0 : Nat) : Int)) := by
  rcases h.2 with ⟨rfl, h0⟩ | ⟨g, cap, cur, rfl, hb, hg, h1, h2, h3, h4⟩
  · exact ⟨none, 0, by rw [h0], fun k hk => by omega⟩
  · refine ⟨some ⟨g, 0, none⟩, cap, rfl, fun k hk => ?_⟩
    have hx : l.getD k 0 = l[k] := by simp [List.getD, hk]
    have := hl _ (List.getElem_mem hk)
    refine ⟨by dsimp only; rw [hx]; omega, g, 0, rfl, lt_of_block hg, ?_⟩
    have e := h.cells (g := g) rfl k (.int .i64 ((l.getD k 0 : Nat) : Int)) (by simp [hk])
    rw [Sh.add_off] at e
    exact e
end Rv
end Go.Proofs.YtdigecacmibkpaaGreatDoor

namespace Go.Proofs.YtdigecacmibkpaaGreatDoor
open Go.RowKit Tf Cu Go.Deep
namespace Rv
/-- all blocks of V that are not of P are in w as they were -/
def AbQ (V : World) (P : Nat → Prop) (w : World) : Prop := w.os = V.os ∧ w.tape = V.tape ∧ w.output = V.output ∧ V.heap.size ≤ w.heap.size ∧ ∀ k, k < V.heap.size → ¬ P k → w.heap[k]? = V.heap[k]?
theorem AbQ.refl (V : World) (P : Nat → Prop) : AbQ V P V := ⟨rfl, rfl, rfl, Nat.le_refl _, fun _ _ _ => rfl⟩
theorem AbQ.to {V w w' : World} {P : Nat → Prop} (h : AbQ V P w) (a : Ab w w') : AbQ V P w' := by
  obtain ⟨h1, h2, h3, h4, h5⟩ := h
  exact ⟨a.os.trans h1, a.tape.trans h2, a.output.trans h3, Nat.le_trans h4 a.size, fun k hk hp => (a.block k (by omega)).trans (h5 k hk hp)⟩
theorem AbQ.set {V w : World} {P : Nat → Prop} (h : AbQ V P w) {g k : Nat} (hp : P g ∨ V.heap.size ≤ g) (v : Value) : AbQ V P (w.setCell ⟨g, k, none⟩ v) := by
  obtain ⟨h1, h2, h3, h4, h5⟩ := h
  refine ⟨h1, h2, h3, by simpa [World.setCell] using h4, fun i hi hn => (Below.heap_setCell _ _ _ _ (fun e => ?_)).trans (h5 i hi hn)⟩
  have e2 : i = g := e
  rcases hp with h | h
  · exact hn (by rw [e2]; exact h)
  · omega
theorem AbQ.grown {V wr w' : World} {P : Nat → Prop} {row : Option Nat} (h : AbQ V P wr) (hg : wr.grownBy w' row) (hr : ∀ b, row = some b → P b ∨ V.heap.size ≤ b) : AbQ V P w' := by
  obtain ⟨h1, h2, h3, h4, h5⟩ := h
  refine ⟨hg.os.trans h1, hg.tape.trans h2, hg.output.trans h3, by have := hg.size; omega, fun k hk hn => ?_⟩
  refine (hg.block k (by omega) (fun e => ?_)).trans (h5 k hk hn)
  rcases hr k e.symm with h6 | h6
  · exact hn h6
  · omega
theorem AbQ.ab {w0 V w : World} {P : Nat → Prop} (h : AbQ V P w) (a : Ab w0 V) (hp : ∀ k, k < w0.heap.size → ¬ P k) : Ab w0 w := by
  obtain ⟨h1, h2, h3, h4, h5⟩ := h
  exact ⟨h1.trans a.os, h2.trans a.tape, h3.trans a.output, Nat.le_trans (Below.size a) h4, fun k hk => (h5 k (Nat.lt_of_lt_of_le hk (Below.size a)) (hp k hk)).trans (a.block k hk)⟩
theorem AbQ.isI {V w : World} {P : Nat → Prop} {p : Option Addr} {n : Nat} {f : Nat → Int} (a : AbQ V P w) (h : Sh.IsI V p n f) (hp : ∀ b o, p = some ⟨b, o, none⟩ → ¬ P b) : Sh.IsI w p n f := fun k hk => by
  obtain ⟨h1, b, o, h2, h3, h4⟩ := h k hk
  exact ⟨h1, b, o, h2, Nat.lt_of_lt_of_le h3 a.2.2.2.1, (World.cell?_of_block (a.2.2.2.2 b h3 (hp b o h2))).trans h4⟩
theorem AbQ.isFl {V w : World} {P : Nat → Prop} {p : Option Addr} {n : Nat} {f : Nat → Nat} (a : AbQ V P w) (h : IsFl V p n f) (hp : ∀ b o, p = some ⟨b, o, none⟩ → ¬ P b) : IsFl w p n f := fun k hk => by
  obtain ⟨h1, b, o, h2, h3, h4⟩ := h k hk
  exact ⟨h1, b, o, h2, Nat.lt_of_lt_of_le h3 a.2.2.2.1, (World.cell?_of_block (a.2.2.2.2 b h3 (hp b o h2))).trans h4⟩
/-- a list of the call's own, of whatever kind of whole numbers -/
def OT (t : TypeId) (B : Nat) (v : Value) (l : List Int) (w : World) : Prop := w.ownsRow B t 1 v l.length (l.map (Value.int .i64))
theorem OT.mono {t : TypeId} {B C : Nat} {v : Value} {l : List Int} {w : World} (h : OT t B v l w) (hc : C ≤ B) : OT t C v l w := by
  rcases h.2 with ⟨q, e⟩ | ⟨g, cap, cur, q, hb, rest⟩
  · exact ⟨h.1, .inl ⟨q, e⟩⟩
  · exact ⟨h.1, .inr ⟨g, cap, cur, q, Nat.le_trans hc hb, rest⟩⟩
theorem OT.blk {t : TypeId} {B : Nat} {v : Value} {l : List Int} {w : World} (h : OT t B v l w) {k : Nat} (hk : v.ownBlock = some k) : B ≤ k ∧ k < w.heap.size := World.ownsRow.lt h k hk
theorem OT.at {t : TypeId} {B : Nat} {v : Value} {l : List Int} {w : World} (h : OT t B v l w) {c : Nat} (hc : c < l.length) :
    ∃ g cap, v = .slice (some ⟨g, 0, none⟩) l.length cap ∧ w.cell? ⟨g, c, none⟩ = some (.int .i64 (l.getD c 0)) ∧ w.frozen? ⟨g, c, none⟩ = false ∧ ∀ x, OT t B v (l.set c x) (w.setCell ⟨g, c, none⟩ (.int .i64 x)) := by
  rcases h.2 with ⟨q, e⟩ | ⟨g, cap, cur, q, hb, hg, h1, h2, h3, h4⟩
  · omega
  · have e2 := World.ownsRow.cells (g := g) h (by rw [q]; rfl) c (.int .i64 (l.getD c 0)) (by simp [hc, List.getD])
    rw [Sh.add_off, Nat.zero_add] at e2
    refine ⟨g, cap, q, e2, by simp [World.frozen?, hg], fun x => ⟨by simp, .inr ⟨g, cap, cur.setIfInBounds c (.int .i64 x), by rw [List.length_set]; exact q, hb, one_set hg, by rw [List.length_set]; exact h1, h2, by simpa using h3, ?_⟩⟩⟩
    rw [List.length_set, Array.toList_setIfInBounds, List.take_set, h4, List.map_set]
theorem OT.blkeq {t : TypeId} {B : Nat} {v : Value} {l : List Int} {w w' : World} (h : OT t B v l w) (e : ∀ k, v.ownBlock = some k → w'.heap[k]? = w.heap[k]?) : OT t B v l w' := by
  rcases h.2 with ⟨q, e2⟩ | ⟨g, cap, cur, q, hb, hg, rest⟩
  · exact ⟨h.1, .inl ⟨q, e2⟩⟩
  · exact ⟨h.1, .inr ⟨g, cap, cur, q, hb, (e g (by rw [q]; rfl)).trans hg, rest⟩⟩
theorem OT.other {t : TypeId} {B : Nat} {v : Value} {l : List Int} {w : World} (h : OT t B v l w) {g c : Nat} (u : Value) (hg : v.ownBlock ≠ some g) : OT t B v l (w.setCell ⟨g, c, none⟩ u) := h.blkeq (fun k hk => Below.heap_setCell _ _ _ _ (fun e => hg (by have e2 : k = g := e; rw [← e2]; exact hk)))
theorem OT.grown {t : TypeId} {B : Nat} {v : Value} {l : List Int} {w w' : World} {row : Option Nat} (h : OT t B v l w) (x : w.grownBy w' row) (hg : ∀ k, v.ownBlock = some k → row ≠ some k) : OT t B v l w' := h.blkeq (fun k hk => x.block k (h.blk hk).2 (fun e => hg k hk e.symm))
theorem OT.to {t : TypeId} {B : Nat} {v : Value} {l : List Int} {w w' : World} (h : OT t B v l w) (a : Ab w w') : OT t B v l w' := h.blkeq (fun k hk => a.block k (h.blk hk).2)
theorem OT.isI {t : TypeId} {B : Nat} {v : Value} {l : List Int} {w : World} (h : OT t B v l w) (hl : ∀ x ∈ l, -9223372036854775808 ≤ x ∧ x ≤ 9223372036854775807) : ∃ p cap, v = .slice p l.length cap ∧ Sh.IsI w p l.length (fun j => l.getD j 0) := by
  rcases h.2 with ⟨q, e2⟩ | ⟨g, cap, cur, q, hb, hg, rest⟩
  · exact ⟨none, 0, by rw [q, e2], fun k hk => by omega⟩
  · refine ⟨_, cap, q, fun k hk => ⟨?_, g, 0, rfl, lt_of_block hg, ?_⟩⟩
    · have e : l.getD k 0 = l[k] := by simp [List.getD, hk]
      dsimp only
      rw [e]
      exact hl _ (List.getElem_mem hk)
    · have e := World.ownsRow.cells (g := g) h (by rw [q]; rfl) k (.int .i64 (l.getD k 0)) (by simp [hk, List.getD])
      rw [Sh.add_off] at e
      exact e
theorem OT.new {t : TypeId} (w : World) (B : Nat) (hB : B ≤ w.heap.size) : OT t B (.slice (some ⟨w.heap.size, 0, none⟩) 0 0) [] (w.alloc (.cells #[] t)) :=
  ⟨by simp, .inr ⟨w.heap.size, 0, #[], rfl, hB, heap_alloc_new _ _, Nat.le_refl _, by unfold maxLen; omega, by simp, by simp⟩⟩
theorem lt_of_get {w : World} {b : Nat} {o : Obj} (h : w.heap[b]? = some o) : b < w.heap.size := by
  rcases Nat.lt_or_ge b w.heap.size with h1 | h1
  · exact h1
  · rw [Array.getElem?_eq_none h1] at h; cases h
theorem AbQ.heap {V w : World} {P : Nat → Prop} (a : AbQ V P w) {b : Nat} {o : Obj} (h : V.heap[b]? = some o) (hp : ¬ P b) : w.heap[b]? = some o := (a.2.2.2.2 b (lt_of_get h) hp).trans h
end Rv
end Go.Proofs.YtdigecacmibkpaaGreatDoor

namespace Go.Proofs.YtdigecacmibkpaaGreatDoor
open Go.RowKit Tf Cu Go.Deep
attribute [local go_sem] run_bits run_from raw_feq raw_fne raw_flt raw_fgt run_neg run_store_float
namespace Ss
open Rv (lt_of_get)
set_option maxRecDepth 100000 in
set_option maxHeartbeats 16000000 in
theorem nothing_at (w : World) : Calls Tryz.prog 28 #[] w fun e w' => ∃ b1 b2 b3 b4, e = .returned (.agg #[.slice (some ⟨b1, 0, none⟩) 6 6, .slice (some ⟨b2, 0, none⟩) 6 6, .slice (some ⟨b3, 0, none⟩) 6 6, .slice (some ⟨b4, 0, none⟩) 12 12, .int .i64 0, .int .i64 0]) ∧ Below w.heap.size w w' ∧ w'.rowIs b1 22 6 (fun _ => .float .f64 0) ∧ w'.rowIs b2 2 6 (fun _ => .int .i64 0) ∧ w'.rowIs b3 2 6 (fun _ => .int .i64 0) ∧ w'.rowIs b4 22 12 (fun _ => .float .f64 0) ∧ (w.heap.size ≤ b1 ∧ w.heap.size ≤ b2 ∧ w.heap.size ≤ b3 ∧ w.heap.size ≤ b4 ∧ b1 ≠ b2 ∧ b1 ≠ b3 ∧ b1 ≠ b4 ∧ b2 ≠ b3 ∧ b2 ≠ b4 ∧ b3 ≠ b4) := by
  have M1 : ∀ v : World, (Instr.makeSlice 30 (.int .i64 6) (.int .i64 6)).run Tryz.prog v = .ok (.slice (some ⟨v.heap.size, 0, none⟩) 6 6) (v.alloc (Obj.cells (madeCells #[.float .f64 0] 6) 22)) := fun v => by
    exact run_make_row' (P := Tryz.prog) 30 22 (.float .f64 0) 8 Tryz.underlying30 infoF64 rfl .i64 .i64 6 (by omega) (by omega) v
  have M2 : ∀ v : World, (Instr.makeSlice 31 (.int .i64 6) (.int .i64 6)).run Tryz.prog v = .ok (.slice (some ⟨v.heap.size, 0, none⟩) 6 6) (v.alloc (Obj.cells (madeCells #[.int .i64 0] 6) 2)) := fun v => by
    exact run_make_row' (P := Tryz.prog) 31 2 (.int .i64 0) 8 Tryz.underlying31 info64 rfl .i64 .i64 6 (by omega) (by omega) v
  have M3 : ∀ v : World, (Instr.makeSlice 30 (.int .i64 12) (.int .i64 12)).run Tryz.prog v = .ok (.slice (some ⟨v.heap.size, 0, none⟩) 12 12) (v.alloc (Obj.cells (madeCells #[.float .f64 0] 12) 22)) := fun v => by
    exact run_make_row' (P := Tryz.prog) 30 22 (.float .f64 0) 8 Tryz.underlying30 infoF64 rfl .i64 .i64 12 (by omega) (by omega) v
  have A0 : Hid (Ab w (w.alloc (.cells #[.slice none 0 0, .slice none 0 0, .slice none 0 0, .slice none 0 0, .int .i64 0, .int .i64 0] 33))) := bl1 _ _
  have R0 : Hid ((w.alloc (.cells #[.slice none 0 0, .slice none 0 0, .slice none 0 0, .slice none 0 0, .int .i64 0, .int .i64 0] 33)).heap[w.heap.size]? = some (.cells #[.slice none 0 0, .slice none 0 0, .slice none 0 0, .slice none 0 0, .int .i64 0, .int .i64 0] 33)) := heap_alloc_new _ _
  go_enter Tryz.func28, Tryz.ntmps28
  go_upto_region 1 with fail
  generalize hW : World.alloc w _ = W at *
  obtain ⟨g4, hg4⟩ : ∃ x, w.heap.size = x := ⟨_, rfl⟩
  have HG := hid hg4
  rw [hg4] at R0 ⊢
  clear hW hg4
  obtain ⟨UU, E, hF1, hF2⟩ := cls W.drew
  have HU := hid hF2
  clear hF1 hF2
  refine region_free 5 (fun k => if k = 0 then some ((Obj.cells (madeCells #[.float .f64 0] 6) 22), fun b => .slice (some ⟨b, 0, none⟩) 6 6) else if k = 1 then some ((Obj.cells (madeCells #[.int .i64 0] 6) 2), fun b => .slice (some ⟨b, 0, none⟩) 6 6) else if k = 2 then some ((Obj.cells (madeCells #[.int .i64 0] 6) 2), fun b => .slice (some ⟨b, 0, none⟩) 6 6) else if k = 3 then some ((Obj.cells (madeCells #[.float .f64 0] 12) 22), fun b => .slice (some ⟨b, 0, none⟩) 12 12) else none) (by kernel_rfl) (by kernel_rfl) (by kernel_rfl) ?_
  simp only [List.take_succ_cons, List.take_zero]
  refine wpFree_lay (ob := (Obj.cells (madeCells #[.float .f64 0] 6) 22)) (mk := fun b => .slice (some ⟨b, 0, none⟩) 6 6) (by rfl) (by kernel_rfl) ?_ ?_
  · refine lay_make (vx := .int .i64 6) (vy := .int .i64 6) (ob := (Obj.cells (madeCells #[.float .f64 0] 6) 22)) (mk := fun b => .slice (some ⟨b, 0, none⟩) 6 6) rfl ?_ ?_ ?_
    · rfl
    · rfl
    · exact M1
  intro b1 fb1
  simp only [Act.put, List.setIfInBounds_toArray, List.set_cons_succ, List.set_cons_zero]
  refine wpFree_lay (ob := (Obj.cells (madeCells #[.int .i64 0] 6) 2)) (mk := fun b => .slice (some ⟨b, 0, none⟩) 6 6) (by rfl) (by kernel_rfl) ?_ ?_
  · refine lay_make (vx := .int .i64 6) (vy := .int .i64 6) (ob := (Obj.cells (madeCells #[.int .i64 0] 6) 2)) (mk := fun b => .slice (some ⟨b, 0, none⟩) 6 6) rfl ?_ ?_ ?_
    · rfl
    · rfl
    · exact M2
  intro b2 fb2
  simp only [Act.put, List.setIfInBounds_toArray, List.set_cons_succ, List.set_cons_zero]
  refine wpFree_lay (ob := (Obj.cells (madeCells #[.int .i64 0] 6) 2)) (mk := fun b => .slice (some ⟨b, 0, none⟩) 6 6) (by rfl) (by kernel_rfl) ?_ ?_
  · refine lay_make (vx := .int .i64 6) (vy := .int .i64 6) (ob := (Obj.cells (madeCells #[.int .i64 0] 6) 2)) (mk := fun b => .slice (some ⟨b, 0, none⟩) 6 6) rfl ?_ ?_ ?_
    · rfl
    · rfl
    · exact M2
  intro b3 fb3
  simp only [Act.put, List.setIfInBounds_toArray, List.set_cons_succ, List.set_cons_zero]
  refine wpFree_lay (ob := (Obj.cells (madeCells #[.float .f64 0] 12) 22)) (mk := fun b => .slice (some ⟨b, 0, none⟩) 12 12) (by rfl) (by kernel_rfl) ?_ ?_
  · refine lay_make (vx := .int .i64 12) (vy := .int .i64 12) (ob := (Obj.cells (madeCells #[.float .f64 0] 12) 22)) (mk := fun b => .slice (some ⟨b, 0, none⟩) 12 12) rfl ?_ ?_ ?_
    · rfl
    · rfl
    · exact M3
  intro b4 fb4
  simp only [Act.put, List.setIfInBounds_toArray, List.set_cons_succ, List.set_cons_zero]
  refine wpFree_one HU (by rfl) (by rfl) ?_
  go_big_quiet_step (with_reducible rfl)
  refine wpQuiet_nil ?_
  refine wpFree_nil ?_
  intro wz hz
  have h1 := hz.at (i := 0) (b := b1) (ob := (Obj.cells (madeCells #[.float .f64 0] 6) 22)) (by rfl) (by rfl)
  have h2 := hz.at (i := 1) (b := b2) (ob := (Obj.cells (madeCells #[.int .i64 0] 6) 2)) (by rfl) (by rfl)
  have h3 := hz.at (i := 2) (b := b3) (ob := (Obj.cells (madeCells #[.int .i64 0] 6) 2)) (by rfl) (by rfl)
  have h4 := hz.at (i := 3) (b := b4) (ob := (Obj.cells (madeCells #[.float .f64 0] 12) 22)) (by rfl) (by rfl)
  have n12 : b1 ≠ b2 := fb2.2 0 b1 (by rfl)
  have n13 : b1 ≠ b3 := fb3.2 0 b1 (by rfl)
  have n14 : b1 ≠ b4 := fb4.2 0 b1 (by rfl)
  have n23 : b2 ≠ b3 := fb3.2 1 b2 (by rfl)
  have n24 : b2 ≠ b4 := fb4.2 1 b2 (by rfl)
  have n34 : b3 ≠ b4 := fb4.2 2 b3 (by rfl)
  have AZ : Ab W wz := (Ab.refl W).drew.trans hz.1
  have WS : W.heap.size ≤ b1 ∧ W.heap.size ≤ b2 ∧ W.heap.size ≤ b3 ∧ W.heap.size ≤ b4 := ⟨h1.2, h2.2, h3.2, h4.2⟩
  have GL : g4 < W.heap.size := lt_of_get R0.out
  have RZ := hid (AZ.heap R0.out)
  have HH := hid (And.intro h1.1 (And.intro h2.1 (And.intro h3.1 h4.1)))
  have NN := hid (And.intro n12 (And.intro n13 (And.intro n14 (And.intro n23 (And.intro n24 n34)))))
  have LL := hid (And.intro WS GL)
  have HAZ := hid (A0.out.trans AZ)
  clear hz fb1 fb2 fb3 fb4 h1 h2 h3 h4 n12 n13 n14 n23 n24 n34 AZ HU WS GL
  clear E UU
  have t0 := cell_of_row _ _ 0 _ _ _ RZ.out
  have t1 := cell_of_row _ _ 1 _ _ _ RZ.out
  have t2 := cell_of_row _ _ 2 _ _ _ RZ.out
  have t3 := cell_of_row _ _ 3 _ _ _ RZ.out
  have t4 := cell_of_row _ _ 4 _ _ _ RZ.out
  have t5 := cell_of_row _ _ 5 _ _ _ RZ.out
  have f0 := free_row RZ.out 0
  have f1 := free_row RZ.out 1
  have f2 := free_row RZ.out 2
  have f3 := free_row RZ.out 3
  have f4 := free_row RZ.out 4
  have f5 := free_row RZ.out 5
  simp only [List.drop_succ_cons, List.drop_zero]
  go_wp2_with fail
  have RY := hid (row6 (x := .slice (some ⟨b1, 0, none⟩) 6 6) (y := .slice (some ⟨b2, 0, none⟩) 6 6) (z := .slice (some ⟨b3, 0, none⟩) 6 6) (p := .slice (some ⟨b4, 0, none⟩) 12 12) (q := .int .i64 0) (r := .int .i64 0) RZ.out)
  refine bodyPost_ret (v := .agg #[.slice (some ⟨b1, 0, none⟩) 6 6, .slice (some ⟨b2, 0, none⟩) 6 6, .slice (some ⟨b3, 0, none⟩) 6 6, .slice (some ⟨b4, 0, none⟩) 12 12, .int .i64 0, .int .i64 0]) ?_ rfl ?_
  · exact results_cell_row Tryz.results28 _ _ g4 _ _ (0, 0) _ rfl RY.out Tryz.underlying33 rfl (by kernel_rfl)
  obtain ⟨k1, k2, k3, k4⟩ := HH.out
  obtain ⟨n12, n13, n14, n23, n24, n34⟩ := NN.out
  obtain ⟨⟨s1, s2, s3, s4⟩, gl⟩ := LL.out
  have g := HG.out
  have st : ∀ (b : Nat) (o : Obj), b ≠ g4 → wz.heap[b]? = some o → ∀ x0 x1 x2 x3 x4 x5, ((((((wz.setCell ⟨g4, 0, none⟩ x0).setCell ⟨g4, 1, none⟩ x1).setCell ⟨g4, 2, none⟩ x2).setCell ⟨g4, 3, none⟩ x3).setCell ⟨g4, 4, none⟩ x4).setCell ⟨g4, 5, none⟩ x5).heap[b]? = some o := fun b o hb h x0 x1 x2 x3 x4 x5 => by
    rw [heap_set_ne hb, heap_set_ne hb, heap_set_ne hb, heap_set_ne hb, heap_set_ne hb, heap_set_ne hb]
    exact h
  refine ⟨b1, b2, b3, b4, rfl, ?_, made_row (st b1 _ (by omega) k1 _ _ _ _ _ _), made_row (st b2 _ (by omega) k2 _ _ _ _ _ _), made_row (st b3 _ (by omega) k3 _ _ _ _ _ _), made_row (st b4 _ (by omega) k4 _ _ _ _ _ _), by omega, by omega, by omega, by omega, n12, n13, n14, n23, n24, n34⟩
  exact (((((HAZ.out.setk (Nat.le_of_eq g) _).setk (Nat.le_of_eq g) _).setk (Nat.le_of_eq g) _).setk (Nat.le_of_eq g) _).setk (Nat.le_of_eq g) _).setk (Nat.le_of_eq g) _
end Ss
end Go.Proofs.YtdigecacmibkpaaGreatDoor
