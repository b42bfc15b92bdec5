/-
  Some of the texts of this proof, one behind the other.
-/
import Derived.Test.YtdigecacmibkpaaGreatDoorSq22
set_option maxRecDepth 100000
set_option maxHeartbeats 400000000
namespace Go.Proofs.YtdigecacmibkpaaGreatDoor
open Go.RowKit Tf Cu Go.Deep
attribute [local go_sem] run_bits run_from raw_feq raw_fne raw_flt raw_fgt run_neg run_store_float
namespace Ss
theorem misfit_0 (N : Nat) (pb : Option Addr) (lb cb : Nat) (pw : Option Addr) (lw cw : Nat) (pt : Option Addr) (lt ct : Nat) (ps : Option Addr) (ls cs : Nat) (sky st : Int) (w : World) (_hN : (N : Int) <= 6144) (h0 : ((lb : Int) != (N : Int)) = true) :
    Calls Tryz.prog 35 #[.int .i64 (N : Nat), .agg #[.slice pb lb cb, .slice pw lw cw, .slice pt lt ct, .slice ps ls cs, .int .i64 sky, .int .i64 st]] w fun e w' => e = .returned (.int .i64 0) /\ Below w.heap.size w w' := by
  have A0 : Hid (Ab w (w.alloc (.cells #[.slice pb lb cb, .slice pw lw cw, .slice pt lt ct, .slice ps ls cs, .int .i64 sky, .int .i64 st] 33))) := bl1 _ _
  have R0 : Hid ((w.alloc (.cells #[.slice pb lb cb, .slice pw lw cw, .slice pt lt ct, .slice ps ls cs, .int .i64 sky, .int .i64 st] 33)).heap[w.heap.size]? = some (.cells #[.slice pb lb cb, .slice pw lw cw, .slice pt lt ct, .slice ps ls cs, .int .i64 sky, .int .i64 st] 33)) := heap_alloc_new _ _
  go_enter Tryz.func35, Tryz.ntmps35
  go_upto_region 1 with fail
  generalize hW : World.alloc w _ = V0 at *
  obtain ⟨gw, hgw⟩ : ∃ g, w.heap.size = g := ⟨_, rfl⟩
  rw [hgw] at R0 ⊢
  clear hgw hW
  have x0 := cell_of_row _ _ 0 _ _ _ R0.out
  have x1 := cell_of_row _ _ 1 _ _ _ R0.out
  have x2 := cell_of_row _ _ 2 _ _ _ R0.out
  have x3 := cell_of_row _ _ 3 _ _ _ R0.out
  have x4 := cell_of_row _ _ 4 _ _ _ R0.out
  have x5 := cell_of_row _ _ 5 _ _ _ R0.out
  go_wp2
  go_ret
  exact ⟨rfl, A0.out⟩
theorem misfit_1 (N : Nat) (pb : Option Addr) (lb cb : Nat) (pw : Option Addr) (lw cw : Nat) (pt : Option Addr) (lt ct : Nat) (ps : Option Addr) (ls cs : Nat) (sky st : Int) (w : World) (_hN : (N : Int) <= 6144) (h0 : ((lb : Int) != (N : Int)) = false) (h1 : ((lw : Int) != (N : Int)) = true) :
    Calls Tryz.prog 35 #[.int .i64 (N : Nat), .agg #[.slice pb lb cb, .slice pw lw cw, .slice pt lt ct, .slice ps ls cs, .int .i64 sky, .int .i64 st]] w fun e w' => e = .returned (.int .i64 1) /\ Below w.heap.size w w' := by
  have A0 : Hid (Ab w (w.alloc (.cells #[.slice pb lb cb, .slice pw lw cw, .slice pt lt ct, .slice ps ls cs, .int .i64 sky, .int .i64 st] 33))) := bl1 _ _
  have R0 : Hid ((w.alloc (.cells #[.slice pb lb cb, .slice pw lw cw, .slice pt lt ct, .slice ps ls cs, .int .i64 sky, .int .i64 st] 33)).heap[w.heap.size]? = some (.cells #[.slice pb lb cb, .slice pw lw cw, .slice pt lt ct, .slice ps ls cs, .int .i64 sky, .int .i64 st] 33)) := heap_alloc_new _ _
  go_enter Tryz.func35, Tryz.ntmps35
  go_upto_region 1 with fail
  generalize hW : World.alloc w _ = V0 at *
  obtain ⟨gw, hgw⟩ : ∃ g, w.heap.size = g := ⟨_, rfl⟩
  rw [hgw] at R0 ⊢
  clear hgw hW
  have x0 := cell_of_row _ _ 0 _ _ _ R0.out
  have x1 := cell_of_row _ _ 1 _ _ _ R0.out
  have x2 := cell_of_row _ _ 2 _ _ _ R0.out
  have x3 := cell_of_row _ _ 3 _ _ _ R0.out
  have x4 := cell_of_row _ _ 4 _ _ _ R0.out
  have x5 := cell_of_row _ _ 5 _ _ _ R0.out
  go_wp2
  go_ret
  exact ⟨rfl, A0.out⟩
theorem misfit_2 (N : Nat) (pb : Option Addr) (lb cb : Nat) (pw : Option Addr) (lw cw : Nat) (pt : Option Addr) (lt ct : Nat) (ps : Option Addr) (ls cs : Nat) (sky st : Int) (w : World) (_hN : (N : Int) <= 6144) (h0 : ((lb : Int) != (N : Int)) = false) (h1 : ((lw : Int) != (N : Int)) = false) (h2 : ((lt : Int) != (N : Int)) = true) :
    Calls Tryz.prog 35 #[.int .i64 (N : Nat), .agg #[.slice pb lb cb, .slice pw lw cw, .slice pt lt ct, .slice ps ls cs, .int .i64 sky, .int .i64 st]] w fun e w' => e = .returned (.int .i64 2) /\ Below w.heap.size w w' := by
  have A0 : Hid (Ab w (w.alloc (.cells #[.slice pb lb cb, .slice pw lw cw, .slice pt lt ct, .slice ps ls cs, .int .i64 sky, .int .i64 st] 33))) := bl1 _ _
  have R0 : Hid ((w.alloc (.cells #[.slice pb lb cb, .slice pw lw cw, .slice pt lt ct, .slice ps ls cs, .int .i64 sky, .int .i64 st] 33)).heap[w.heap.size]? = some (.cells #[.slice pb lb cb, .slice pw lw cw, .slice pt lt ct, .slice ps ls cs, .int .i64 sky, .int .i64 st] 33)) := heap_alloc_new _ _
  go_enter Tryz.func35, Tryz.ntmps35
  go_upto_region 1 with fail
  generalize hW : World.alloc w _ = V0 at *
  obtain ⟨gw, hgw⟩ : ∃ g, w.heap.size = g := ⟨_, rfl⟩
  rw [hgw] at R0 ⊢
  clear hgw hW
  have x0 := cell_of_row _ _ 0 _ _ _ R0.out
  have x1 := cell_of_row _ _ 1 _ _ _ R0.out
  have x2 := cell_of_row _ _ 2 _ _ _ R0.out
  have x3 := cell_of_row _ _ 3 _ _ _ R0.out
  have x4 := cell_of_row _ _ 4 _ _ _ R0.out
  have x5 := cell_of_row _ _ 5 _ _ _ R0.out
  go_wp2
  go_ret
  exact ⟨rfl, A0.out⟩
theorem misfit_3 (N : Nat) (pb : Option Addr) (lb cb : Nat) (pw : Option Addr) (lw cw : Nat) (pt : Option Addr) (lt ct : Nat) (ps : Option Addr) (ls cs : Nat) (sky st : Int) (w : World) (hN : (N : Int) <= 6144) (h0 : ((lb : Int) != (N : Int)) = false) (h1 : ((lw : Int) != (N : Int)) = false) (h2 : ((lt : Int) != (N : Int)) = false) (h3 : ((ls : Int) != 2 * (N : Int)) = true) :
    Calls Tryz.prog 35 #[.int .i64 (N : Nat), .agg #[.slice pb lb cb, .slice pw lw cw, .slice pt lt ct, .slice ps ls cs, .int .i64 sky, .int .i64 st]] w fun e w' => e = .returned (.int .i64 3) /\ Below w.heap.size w w' := by
  have A0 : Hid (Ab w (w.alloc (.cells #[.slice pb lb cb, .slice pw lw cw, .slice pt lt ct, .slice ps ls cs, .int .i64 sky, .int .i64 st] 33))) := bl1 _ _
  have R0 : Hid ((w.alloc (.cells #[.slice pb lb cb, .slice pw lw cw, .slice pt lt ct, .slice ps ls cs, .int .i64 sky, .int .i64 st] 33)).heap[w.heap.size]? = some (.cells #[.slice pb lb cb, .slice pw lw cw, .slice pt lt ct, .slice ps ls cs, .int .i64 sky, .int .i64 st] 33)) := heap_alloc_new _ _
  go_enter Tryz.func35, Tryz.ntmps35
  go_upto_region 1 with fail
  generalize hW : World.alloc w _ = V0 at *
  obtain ⟨gw, hgw⟩ : ∃ g, w.heap.size = g := ⟨_, rfl⟩
  rw [hgw] at R0 ⊢
  clear hgw hW
  have x0 := cell_of_row _ _ 0 _ _ _ R0.out
  have x1 := cell_of_row _ _ 1 _ _ _ R0.out
  have x2 := cell_of_row _ _ 2 _ _ _ R0.out
  have x3 := cell_of_row _ _ 3 _ _ _ R0.out
  have x4 := cell_of_row _ _ 4 _ _ _ R0.out
  have x5 := cell_of_row _ _ 5 _ _ _ R0.out
  go_wp2
  go_ret
  exact ⟨rfl, A0.out⟩
theorem misfit_4 (N : Nat) (pb : Option Addr) (lb cb : Nat) (pw : Option Addr) (lw cw : Nat) (pt : Option Addr) (lt ct : Nat) (ps : Option Addr) (ls cs : Nat) (sky st : Int) (w : World) (hN : (N : Int) <= 6144) (h0 : ((lb : Int) != (N : Int)) = false) (h1 : ((lw : Int) != (N : Int)) = false) (h2 : ((lt : Int) != (N : Int)) = false) (h3 : ((ls : Int) != 2 * (N : Int)) = false) :
    Calls Tryz.prog 35 #[.int .i64 (N : Nat), .agg #[.slice pb lb cb, .slice pw lw cw, .slice pt lt ct, .slice ps ls cs, .int .i64 sky, .int .i64 st]] w fun e w' => e = .returned (.int .i64 (-1)) /\ Below w.heap.size w w' := by
  have A0 : Hid (Ab w (w.alloc (.cells #[.slice pb lb cb, .slice pw lw cw, .slice pt lt ct, .slice ps ls cs, .int .i64 sky, .int .i64 st] 33))) := bl1 _ _
  have R0 : Hid ((w.alloc (.cells #[.slice pb lb cb, .slice pw lw cw, .slice pt lt ct, .slice ps ls cs, .int .i64 sky, .int .i64 st] 33)).heap[w.heap.size]? = some (.cells #[.slice pb lb cb, .slice pw lw cw, .slice pt lt ct, .slice ps ls cs, .int .i64 sky, .int .i64 st] 33)) := heap_alloc_new _ _
  go_enter Tryz.func35, Tryz.ntmps35
  go_upto_region 1 with fail
  generalize hW : World.alloc w _ = V0 at *
  obtain ⟨gw, hgw⟩ : ∃ g, w.heap.size = g := ⟨_, rfl⟩
  rw [hgw] at R0 ⊢
  clear hgw hW
  have x0 := cell_of_row _ _ 0 _ _ _ R0.out
  have x1 := cell_of_row _ _ 1 _ _ _ R0.out
  have x2 := cell_of_row _ _ 2 _ _ _ R0.out
  have x3 := cell_of_row _ _ 3 _ _ _ R0.out
  have x4 := cell_of_row _ _ 4 _ _ _ R0.out
  have x5 := cell_of_row _ _ 5 _ _ _ R0.out
  go_wp2
  go_ret
  exact ⟨rfl, A0.out⟩
def nuB (dt gr dr : Nat) (lim : Int) : Bool := fgt dt 0 && (flt dt 4652218415073722368 || feq dt 4652218415073722368) && btw gr 0 4652218415073722368 && btw dr 0 4652218415073722368 && decide (0 <= lim /\ lim <= 3)
theorem nuB_iff {dt gr dr : Nat} {lim : Int} (hd : dt < 18446744073709551616) : nuB dt gr dr lim = true ↔ (btw dt 0 4652218415073722368 = true /\ feq dt 0 = false /\ btw gr 0 4652218415073722368 = true /\ btw dr 0 4652218415073722368 = true /\ (0 <= lim /\ lim <= 3)) := by
  have k1 : fgt dt 0 = true -> feq dt 0 = false /\ dt ≠ 9223372036854775808 := fun h => by
    refine ⟨?_, fun e => ?_⟩
    · rw [fgt_rk dt 0 hd (by omega)] at h
      rw [feq_rk dt 0 hd (by omega)]
      simp only [Bool.and_eq_true, decide_eq_true_eq] at h
      have : decide (rk dt = rk 0) = false := decide_eq_false (by omega)
      rw [this]
      simp
    · rw [e] at h
      exact absurd h (by decide +kernel)
  have e : btw dt 0 4652218415073722368 = ((fgt dt 0 || feq dt 0) && (flt dt 4652218415073722368 || feq dt 4652218415073722368) && decide (dt ≠ 9223372036854775808)) := rfl
  unfold nuB
  rw [e]
  generalize (flt dt 4652218415073722368 || feq dt 4652218415073722368) = d2
  constructor
  · intro h
    simp only [Bool.and_eq_true, decide_eq_true_eq] at h
    obtain ⟨⟨⟨⟨h1, h2⟩, h3⟩, h4⟩, h5⟩ := h
    obtain ⟨q1, q2⟩ := k1 h1
    refine ⟨?_, q1, h3, h4, h5⟩
    rw [h1, h2, decide_eq_true q2]
    rfl
  · rintro ⟨h1, h2, h3, h4, h5⟩
    rw [h2, Bool.or_false] at h1
    simp only [Bool.and_eq_true, decide_eq_true_eq] at h1
    rw [h1.1.1, h1.1.2, h3, h4, decide_eq_true h5]
    rfl
theorem nums_0 (sd : Int) (dt gr dr : Nat) (lim : Int) (rv : Bool) (pr : Option Addr) (lr cr : Nat) (w : World) (h0 : fgt dt 0 = false) :
    Calls Tryz.prog 30 #[.agg #[.int .i64 sd, .float .f64 dt, .float .f64 gr, .float .f64 dr, .int .i64 lim, .bool rv, .slice pr lr cr]] w fun e w' => e = .returned (.bool false) /\ Below w.heap.size w w' := by
  have A0 : Hid (Ab w (w.alloc (.cells #[.int .i64 sd, .float .f64 dt, .float .f64 gr, .float .f64 dr, .int .i64 lim, .bool rv, .slice pr lr cr] 25))) := bl1 _ _
  have R0 : Hid ((w.alloc (.cells #[.int .i64 sd, .float .f64 dt, .float .f64 gr, .float .f64 dr, .int .i64 lim, .bool rv, .slice pr lr cr] 25)).heap[w.heap.size]? = some (.cells #[.int .i64 sd, .float .f64 dt, .float .f64 gr, .float .f64 dr, .int .i64 lim, .bool rv, .slice pr lr cr] 25)) := heap_alloc_new _ _
  go_enter Tryz.func30, Tryz.ntmps30
  go_upto_region 1 with fail
  generalize hW : World.alloc w _ = V0 at *
  obtain ⟨gw, hgw⟩ : ∃ g, w.heap.size = g := ⟨_, rfl⟩
  rw [hgw] at R0 ⊢
  clear hgw hW
  have x0 := cell_of_row _ _ 0 _ _ _ R0.out
  have x1 := cell_of_row _ _ 1 _ _ _ R0.out
  have x2 := cell_of_row _ _ 2 _ _ _ R0.out
  have x3 := cell_of_row _ _ 3 _ _ _ R0.out
  have x4 := cell_of_row _ _ 4 _ _ _ R0.out
  have x5 := cell_of_row _ _ 5 _ _ _ R0.out
  have x6 := cell_of_row _ _ 6 _ _ _ R0.out
  go_wp2
  go_ret
  exact ⟨rfl, A0.out⟩
theorem nums_1 (sd : Int) (dt gr dr : Nat) (lim : Int) (rv : Bool) (pr : Option Addr) (lr cr : Nat) (w : World) (h0 : fgt dt 0 = true) (h1 : (flt dt 4652218415073722368 || feq dt 4652218415073722368) = false) :
    Calls Tryz.prog 30 #[.agg #[.int .i64 sd, .float .f64 dt, .float .f64 gr, .float .f64 dr, .int .i64 lim, .bool rv, .slice pr lr cr]] w fun e w' => e = .returned (.bool false) /\ Below w.heap.size w w' := by
  have A0 : Hid (Ab w (w.alloc (.cells #[.int .i64 sd, .float .f64 dt, .float .f64 gr, .float .f64 dr, .int .i64 lim, .bool rv, .slice pr lr cr] 25))) := bl1 _ _
  have R0 : Hid ((w.alloc (.cells #[.int .i64 sd, .float .f64 dt, .float .f64 gr, .float .f64 dr, .int .i64 lim, .bool rv, .slice pr lr cr] 25)).heap[w.heap.size]? = some (.cells #[.int .i64 sd, .float .f64 dt, .float .f64 gr, .float .f64 dr, .int .i64 lim, .bool rv, .slice pr lr cr] 25)) := heap_alloc_new _ _
  go_enter Tryz.func30, Tryz.ntmps30
  go_upto_region 1 with fail
  generalize hW : World.alloc w _ = V0 at *
  obtain ⟨gw, hgw⟩ : ∃ g, w.heap.size = g := ⟨_, rfl⟩
  rw [hgw] at R0 ⊢
  clear hgw hW
  have x0 := cell_of_row _ _ 0 _ _ _ R0.out
  have x1 := cell_of_row _ _ 1 _ _ _ R0.out
  have x2 := cell_of_row _ _ 2 _ _ _ R0.out
  have x3 := cell_of_row _ _ 3 _ _ _ R0.out
  have x4 := cell_of_row _ _ 4 _ _ _ R0.out
  have x5 := cell_of_row _ _ 5 _ _ _ R0.out
  have x6 := cell_of_row _ _ 6 _ _ _ R0.out
  go_wp2
  go_ret
  exact ⟨rfl, A0.out⟩
theorem nums_2 (sd : Int) (dt gr dr : Nat) (lim : Int) (rv : Bool) (pr : Option Addr) (lr cr : Nat) (w : World) (hg : gr < 18446744073709551616) (h0 : fgt dt 0 = true) (h1 : (flt dt 4652218415073722368 || feq dt 4652218415073722368) = true) (H2 : Hid (btw gr 0 4652218415073722368 = false)) :
    Calls Tryz.prog 30 #[.agg #[.int .i64 sd, .float .f64 dt, .float .f64 gr, .float .f64 dr, .int .i64 lim, .bool rv, .slice pr lr cr]] w fun e w' => e = .returned (.bool false) /\ Below w.heap.size w w' := by
  have C2 : Hid (∀ v, _) := fun v => kept_at gr 0 4652218415073722368 _ v hg (by omega) H2.out
  clear hg
  have A0 : Hid (Ab w (w.alloc (.cells #[.int .i64 sd, .float .f64 dt, .float .f64 gr, .float .f64 dr, .int .i64 lim, .bool rv, .slice pr lr cr] 25))) := bl1 _ _
  have R0 : Hid ((w.alloc (.cells #[.int .i64 sd, .float .f64 dt, .float .f64 gr, .float .f64 dr, .int .i64 lim, .bool rv, .slice pr lr cr] 25)).heap[w.heap.size]? = some (.cells #[.int .i64 sd, .float .f64 dt, .float .f64 gr, .float .f64 dr, .int .i64 lim, .bool rv, .slice pr lr cr] 25)) := heap_alloc_new _ _
  go_enter Tryz.func30, Tryz.ntmps30
  go_upto_region 1 with fail
  generalize hW : World.alloc w _ = V0 at *
  obtain ⟨gw, hgw⟩ : ∃ g, w.heap.size = g := ⟨_, rfl⟩
  rw [hgw] at R0 ⊢
  clear hgw hW
  have x0 := cell_of_row _ _ 0 _ _ _ R0.out
  have x1 := cell_of_row _ _ 1 _ _ _ R0.out
  have x2 := cell_of_row _ _ 2 _ _ _ R0.out
  have x3 := cell_of_row _ _ 3 _ _ _ R0.out
  have x4 := cell_of_row _ _ 4 _ _ _ R0.out
  have x5 := cell_of_row _ _ 5 _ _ _ R0.out
  have x6 := cell_of_row _ _ 6 _ _ _ R0.out
  go_wp2_with fail
  refine (C2.out V0).mono ?_
  rintro e9 v9 ⟨rfl, hv9⟩
  have hv8 := hv9.symm
  subst hv8
  go_wp2
  go_ret
  exact ⟨rfl, A0.out⟩
theorem nums_3 (sd : Int) (dt gr dr : Nat) (lim : Int) (rv : Bool) (pr : Option Addr) (lr cr : Nat) (w : World) (hg : gr < 18446744073709551616) (hd : dr < 18446744073709551616) (h0 : fgt dt 0 = true) (h1 : (flt dt 4652218415073722368 || feq dt 4652218415073722368) = true) (H2 : Hid (btw gr 0 4652218415073722368 = true)) (H3 : Hid (btw dr 0 4652218415073722368 = false)) :
    Calls Tryz.prog 30 #[.agg #[.int .i64 sd, .float .f64 dt, .float .f64 gr, .float .f64 dr, .int .i64 lim, .bool rv, .slice pr lr cr]] w fun e w' => e = .returned (.bool false) /\ Below w.heap.size w w' := by
  have C2 : Hid (∀ v, _) := fun v => kept_at gr 0 4652218415073722368 _ v hg (by omega) H2.out
  clear hg
  have C3 : Hid (∀ v, _) := fun v => kept_at dr 0 4652218415073722368 _ v hd (by omega) H3.out
  clear hd
  have A0 : Hid (Ab w (w.alloc (.cells #[.int .i64 sd, .float .f64 dt, .float .f64 gr, .float .f64 dr, .int .i64 lim, .bool rv, .slice pr lr cr] 25))) := bl1 _ _
  have R0 : Hid ((w.alloc (.cells #[.int .i64 sd, .float .f64 dt, .float .f64 gr, .float .f64 dr, .int .i64 lim, .bool rv, .slice pr lr cr] 25)).heap[w.heap.size]? = some (.cells #[.int .i64 sd, .float .f64 dt, .float .f64 gr, .float .f64 dr, .int .i64 lim, .bool rv, .slice pr lr cr] 25)) := heap_alloc_new _ _
  go_enter Tryz.func30, Tryz.ntmps30
  go_upto_region 1 with fail
  generalize hW : World.alloc w _ = V0 at *
  obtain ⟨gw, hgw⟩ : ∃ g, w.heap.size = g := ⟨_, rfl⟩
  rw [hgw] at R0 ⊢
  clear hgw hW
  have x0 := cell_of_row _ _ 0 _ _ _ R0.out
  have x1 := cell_of_row _ _ 1 _ _ _ R0.out
  have x2 := cell_of_row _ _ 2 _ _ _ R0.out
  have x3 := cell_of_row _ _ 3 _ _ _ R0.out
  have x4 := cell_of_row _ _ 4 _ _ _ R0.out
  have x5 := cell_of_row _ _ 5 _ _ _ R0.out
  have x6 := cell_of_row _ _ 6 _ _ _ R0.out
  go_wp2_with fail
  refine (C2.out V0).mono ?_
  rintro e9 v9 ⟨rfl, hv9⟩
  have hv8 := hv9.symm
  subst hv8
  go_wp2_with fail
  refine (C3.out V0).mono ?_
  rintro e9 v9 ⟨rfl, hv9⟩
  have hv8 := hv9.symm
  subst hv8
  go_wp2
  go_ret
  exact ⟨rfl, A0.out⟩
theorem nums_4 (sd : Int) (dt gr dr : Nat) (lim : Int) (rv : Bool) (pr : Option Addr) (lr cr : Nat) (w : World) (hg : gr < 18446744073709551616) (hd : dr < 18446744073709551616) (h0 : fgt dt 0 = true) (h1 : (flt dt 4652218415073722368 || feq dt 4652218415073722368) = true) (H2 : Hid (btw gr 0 4652218415073722368 = true)) (H3 : Hid (btw dr 0 4652218415073722368 = true)) :
    Calls Tryz.prog 30 #[.agg #[.int .i64 sd, .float .f64 dt, .float .f64 gr, .float .f64 dr, .int .i64 lim, .bool rv, .slice pr lr cr]] w fun e w' => e = .returned (.bool (decide (0 <= lim /\ lim <= 3))) /\ Below w.heap.size w w' := by
  have C2 : Hid (∀ v, _) := fun v => kept_at gr 0 4652218415073722368 _ v hg (by omega) H2.out
  clear hg
  have C3 : Hid (∀ v, _) := fun v => kept_at dr 0 4652218415073722368 _ v hd (by omega) H3.out
  clear hd
  obtain ⟨lb, LB⟩ : ∃ b, decide (0 <= lim /\ lim <= 3) = b := ⟨_, rfl⟩
  have C4 : Hid (∀ v, _) := fun v => valid_at lim v
  rw [LB] at C4 ⊢
  clear LB
  have A0 : Hid (Ab w (w.alloc (.cells #[.int .i64 sd, .float .f64 dt, .float .f64 gr, .float .f64 dr, .int .i64 lim, .bool rv, .slice pr lr cr] 25))) := bl1 _ _
  have R0 : Hid ((w.alloc (.cells #[.int .i64 sd, .float .f64 dt, .float .f64 gr, .float .f64 dr, .int .i64 lim, .bool rv, .slice pr lr cr] 25)).heap[w.heap.size]? = some (.cells #[.int .i64 sd, .float .f64 dt, .float .f64 gr, .float .f64 dr, .int .i64 lim, .bool rv, .slice pr lr cr] 25)) := heap_alloc_new _ _
  go_enter Tryz.func30, Tryz.ntmps30
  go_upto_region 1 with fail
  generalize hW : World.alloc w _ = V0 at *
  obtain ⟨gw, hgw⟩ : ∃ g, w.heap.size = g := ⟨_, rfl⟩
  rw [hgw] at R0 ⊢
  clear hgw hW
  have x0 := cell_of_row _ _ 0 _ _ _ R0.out
  have x1 := cell_of_row _ _ 1 _ _ _ R0.out
  have x2 := cell_of_row _ _ 2 _ _ _ R0.out
  have x3 := cell_of_row _ _ 3 _ _ _ R0.out
  have x4 := cell_of_row _ _ 4 _ _ _ R0.out
  have x5 := cell_of_row _ _ 5 _ _ _ R0.out
  have x6 := cell_of_row _ _ 6 _ _ _ R0.out
  go_wp2_with fail
  refine (C2.out V0).mono ?_
  rintro e9 v9 ⟨rfl, hv9⟩
  have hv8 := hv9.symm
  subst hv8
  go_wp2_with fail
  refine (C3.out V0).mono ?_
  rintro e9 v9 ⟨rfl, hv9⟩
  have hv8 := hv9.symm
  subst hv8
  go_wp2_with fail
  refine (C4.out V0).mono ?_
  rintro e9 v1 ⟨rfl, b1⟩
  have A1 : Hid (Ab w v1) := A0.out.trans b1
  clear b1
  go_wp2
  go_ret
  exact ⟨rfl, A1.out⟩
theorem nums_at (sd : Int) (dt gr dr : Nat) (lim : Int) (rv : Bool) (pr : Option Addr) (lr cr : Nat) (r : Bool) (w : World) (hg : gr < 18446744073709551616) (hd : dr < 18446744073709551616) (hr : nuB dt gr dr lim = r) :
    Calls Tryz.prog 30 #[.agg #[.int .i64 sd, .float .f64 dt, .float .f64 gr, .float .f64 dr, .int .i64 lim, .bool rv, .slice pr lr cr]] w fun e w' => e = .returned (.bool r) /\ Below w.heap.size w w' := by
  unfold nuB at hr
  cases h0 : fgt dt 0 with
  | false =>
    rw [h0] at hr
    rw [<- hr]
    exact nums_0 sd dt gr dr lim rv pr lr cr w h0
  | true =>
    cases h1 : (flt dt 4652218415073722368 || feq dt 4652218415073722368) with
    | false =>
      rw [h0, h1] at hr
      rw [<- hr]
      exact nums_1 sd dt gr dr lim rv pr lr cr w h0 h1
    | true =>
      cases h2 : btw gr 0 4652218415073722368 with
      | false =>
        rw [h0, h1, h2] at hr
        rw [<- hr]
        exact nums_2 sd dt gr dr lim rv pr lr cr w hg h0 h1 h2
      | true =>
        cases h3 : btw dr 0 4652218415073722368 with
        | false =>
          rw [h0, h1, h2, h3] at hr
          rw [<- hr]
          exact nums_3 sd dt gr dr lim rv pr lr cr w hg hd h0 h1 h2 h3
        | true =>
          rw [h0, h1, h2, h3] at hr
          rw [<- hr]
          exact nums_4 sd dt gr dr lim rv pr lr cr w hg hd h0 h1 h2 h3
theorem rains_long (N : Int) (pr : Option Addr) (lr cr : Nat) (w : World) (h : decide ((1024 : Int) < (lr : Int)) = true) :
    Calls Tryz.prog 31 #[.int .i64 N, .slice pr lr cr] w fun e w' => e = .returned (.bool false) /\ Below w.heap.size w w' := by
  go_enter Tryz.func31, Tryz.ntmps31
  go_wp2
  go_ret
  exact ⟨rfl, Below.refl _ _⟩
theorem rains_go (N : Nat) (pr : Option Addr) (lr cr : Nat) (R : Nat -> Int × Int × Int × Int) (w : World) (hl : lr <= 1024) (IR : Hid (Rn.IsRn w pr lr R)) (an : Bool) (AY : Hid ((∀ k, k < lr -> rB (N : Nat) (R k) = true) -> an = true)) (AN : Hid ((¬ ∀ k, k < lr -> rB (N : Nat) (R k) = true) -> an = false)) :
    Calls Tryz.prog 31 #[.int .i64 (N : Nat), .slice pr lr cr] w fun e w' => e = .returned (.bool an) /\ Below w.heap.size w w' := by
  have d3 : decide ((1024 : Int) < (lr : Int)) = false := decide_eq_false (by omega)
  have HL := hid hl
  clear hl
  go_enter Tryz.func31, Tryz.ntmps31
  go_wp2
  go_loopw [12] (fun iv wr => ∃ k : Nat, k <= lr /\ iv = .int .i64 (k : Nat) /\ Ab w wr /\ ∀ i, i < k -> rB (N : Nat) (R i) = true) (fun iv _ => lr - (intOf iv).toNat)
  case atStart => exact ⟨0, by omega, rfl, Ab.refl w, fun i hi => absurd hi (Nat.not_lt_zero i)⟩
  case round =>
    obtain ⟨k, hk, rfl, ar, g1⟩ := hrel
    have AR := hid ar
    have G1 := hid g1
    clear ar g1
    by_cases hkn : k < lr
    · have HK := hid hkn
      have kI : (k : Int) < lr := by omega
      have kB : (k : Int) <= 1024 := by have := HL.out; omega
      obtain ⟨rb, ro, rfl⟩ := IR.out.some0 (show 0 < lr by omega)
      obtain ⟨r1, r2, r3, r4, hr⟩ : ∃ a b c' d, R k = (a, b, c', d) := ⟨_, _, _, _, rfl⟩
      have at0 := ((IR.out.below AR.out).at0 hkn)
      rw [hr] at at0
      have y0 := at0.2.2.1
      have y1 := at0.2.2.2.1
      have y2 := at0.2.2.2.2.1
      have y3 := at0.2.2.2.2.2
      have CV : Hid (∀ v, Calls Tryz.prog 77 #[.int .i64 (N : Nat), .agg #[.int .i64 r1, .int .i64 r2, .int .i64 r3, .int .i64 r4]] v fun e w' => e = .returned (.bool (rB (N : Nat) (R k))) /\ Below v.heap.size v w') := fun v => by rw [hr]; exact Rn.valid18 (N : Nat) r1 r2 r3 r4 v
      clear at0 hkn hk hr
      obtain ⟨gz, hgz⟩ : ∃ g, wr.heap.size = g := ⟨_, rfl⟩
      go_upto_region 6 with fail
      have AL : Hid (Ab wr (wr.alloc (.cells #[.int .i64 r1, .int .i64 r2, .int .i64 r3, .int .i64 r4] 60))) := bl1 _ _
      have RZ : Hid ((wr.alloc (.cells #[.int .i64 r1, .int .i64 r2, .int .i64 r3, .int .i64 r4] 60)).heap[gz]? = some (.cells #[.int .i64 r1, .int .i64 r2, .int .i64 r3, .int .i64 r4] 60)) := by rw [<- hgz]; exact heap_alloc_new _ _
      generalize hW : World.alloc wr _ = V4 at *
      clear hW hgz y0 y1 y2 y3
      have x0 := cell_of_row _ _ 0 _ _ _ RZ.out
      have x1 := cell_of_row _ _ 1 _ _ _ RZ.out
      have x2 := cell_of_row _ _ 2 _ _ _ RZ.out
      have x3 := cell_of_row _ _ 3 _ _ _ RZ.out
      cases vb : rB (N : Nat) (R k) with
      | false =>
        rw [vb] at CV
        have E : Hid (an = false) := AN.out (fun q => by have := q k HK.out; rw [vb] at this; cases this)
        go_wp2_with fail
        refine (CV.out V4).mono ?_
        rintro e9 v5 ⟨rfl, b5⟩
        have A5 : Hid (Ab wr v5) := AL.out.trans b5
        clear b5
        go_wp2
        go_ret
        exact ⟨by rw [E.out]; rfl, AR.out.trans A5.out⟩
      | true =>
        rw [vb] at CV
        have VB := hid vb
        clear vb
        go_wp2_with fail
        refine (CV.out V4).mono ?_
        rintro e9 v5 ⟨rfl, b5⟩
        have A5 : Hid (Ab wr v5) := AL.out.trans b5
        clear b5
        go_wp2
        refine ⟨⟨k + 1, by have := HK.out; omega, by simp, AR.out.trans A5.out, fun i hi => ?_⟩, by have := HK.out; simp [intOf]; omega⟩
        by_cases l : i < k
        · exact G1.out i l
        · obtain rfl : i = k := by omega
          exact VB.out
    · have e6 : lr = k := by omega
      subst e6
      have E : Hid (an = true) := AY.out G1.out
      go_wp2
      go_ret
      exact ⟨by rw [E.out]; rfl, AR.out⟩
end Ss
end Go.Proofs.YtdigecacmibkpaaGreatDoor
