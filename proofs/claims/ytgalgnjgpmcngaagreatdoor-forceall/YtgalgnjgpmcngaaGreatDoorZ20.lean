/-
  Some of the texts of this proof, one behind the other.
-/
import Derived.Deep.QuietTactic
import Derived.Test.YtgalgnjgpmcngaaGreatDoorZ19
namespace Go.Proofs.YtgalgnjgpmcngaaGreatDoor
open Go.RowKit Tf Cu Go.Deep
attribute [local go_sem] run_bits run_from raw_feq raw_fne raw_flt raw_fgt run_neg run_store_float
namespace Fc
/-- whether a cell is dry and stands too high -/
def shB (w1 : Int) (b1 l2 : Nat) : Bool := !decide (0 < w1) && (flt l2 b1 || feq l2 b1)
set_option maxRecDepth 100000 in
set_option maxHeartbeats 8000000 in
theorem wet_at (b : Nat) (wt ar : Int) (w : World) : Calls Tryz.prog 48 #[.agg #[.float .f64 b, .int .i64 wt, .int .i64 ar]] w fun e w' => e = .returned (.bool (decide (0 < wt))) ∧ Below w.heap.size w w' := by
  have A0 : Hid (Ab w (w.alloc (.cells #[.float .f64 b, .int .i64 wt, .int .i64 ar] 52))) := bl1 _ _
  go_enter Tryz.func48, Tryz.ntmps48
  go_wp2
  go_ret
  exact ⟨rfl, A0.out⟩
set_option maxRecDepth 100000 in
set_option maxHeartbeats 8000000 in
theorem clevel_at (b : Nat) (wt ar : Int) (w : World) (hb : b < 18446744073709551616) (h1 : wt ≤ 9223372036854775807) (h2 : ar ≤ 9223372036854775807) : Calls Tryz.prog 52 #[.agg #[.float .f64 b, .int .i64 wt, .int .i64 ar]] w fun e w' => e = .returned (.float .f64 (lvl b wt ar)) ∧ Below w.heap.size w w' := by
  have L := hid (fun v => level_at b wt ar v hb h1 h2)
  have A0 : Hid (Ab w (w.alloc (.cells #[.float .f64 b, .int .i64 wt, .int .i64 ar] 52))) := bl1 _ _
  clear hb h1 h2
  generalize lvl b wt ar = y at *
  go_enter Tryz.func52, Tryz.ntmps52
  go_wp2_with fail
  refine (L.out _).mono ?_
  rintro e w' ⟨rfl, k, rfl⟩
  go_wp2
  go_ret
  exact ⟨rfl, Ab.drewN A0.out k⟩
set_option maxRecDepth 100000 in
set_option maxHeartbeats 8000000 in
theorem cdepth_at (b : Nat) (wt ar : Int) (w : World) (h1 : wt ≤ 9223372036854775807) (h2 : ar ≤ 9223372036854775807) : Calls Tryz.prog 53 #[.agg #[.float .f64 b, .int .i64 wt, .int .i64 ar]] w fun e w' => e = .returned (.float .f64 (dpB wt ar)) ∧ Below w.heap.size w w' := by
  have L := hid (fun v => depth_at wt ar v h1 h2)
  have A0 : Hid (Ab w (w.alloc (.cells #[.float .f64 b, .int .i64 wt, .int .i64 ar] 52))) := bl1 _ _
  clear h1 h2
  generalize dpB wt ar = y at *
  go_enter Tryz.func53, Tryz.ntmps53
  go_wp2_with fail
  refine (L.out _).mono ?_
  rintro e w' ⟨rfl, k, rfl⟩
  go_wp2
  go_ret
  exact ⟨rfl, Ab.drewN A0.out k⟩
set_option maxRecDepth 100000 in
set_option maxHeartbeats 8000000 in
theorem shut_go (b1 b2 : Nat) (w1 a1 w2 a2 : Int) (l : Nat) (d q : Bool) (w : World) (hq : (d = true ∧ q = false) ∨ (d = false ∧ (flt l b1 || feq l b1) = q))
    (WT : Hid (∀ v, Calls Tryz.prog 48 #[.agg #[.float .f64 b1, .int .i64 w1, .int .i64 a1]] v fun e w' => e = .returned (.bool d) ∧ Below v.heap.size v w'))
    (LV : Hid (∀ v, Calls Tryz.prog 52 #[.agg #[.float .f64 b2, .int .i64 w2, .int .i64 a2]] v fun e w' => e = .returned (.float .f64 l) ∧ Below v.heap.size v w')) :
    Calls Tryz.prog 49 #[.agg #[.float .f64 b1, .int .i64 w1, .int .i64 a1], .agg #[.float .f64 b2, .int .i64 w2, .int .i64 a2]] w fun e w' => e = .returned (.bool q) ∧ Below w.heap.size w w' := by
  have W_W0 : Hid (Ab w ((w.alloc (.cells #[.float .f64 b1, .int .i64 w1, .int .i64 a1] 52)).alloc (.cells #[.float .f64 b2, .int .i64 w2, .int .i64 a2] 52))) := bl2 _ _ _
  have R1 : Hid (((w.alloc (.cells #[.float .f64 b1, .int .i64 w1, .int .i64 a1] 52)).alloc (.cells #[.float .f64 b2, .int .i64 w2, .int .i64 a2] 52)).heap[w.heap.size]? = some (.cells #[.float .f64 b1, .int .i64 w1, .int .i64 a1] 52)) := heap_alloc2_old _ _ _
  have R2 : Hid (((w.alloc (.cells #[.float .f64 b1, .int .i64 w1, .int .i64 a1] 52)).alloc (.cells #[.float .f64 b2, .int .i64 w2, .int .i64 a2] 52)).heap[w.heap.size + 1]? = some (.cells #[.float .f64 b2, .int .i64 w2, .int .i64 a2] 52)) := heap_alloc2_new _ _ _
  go_enter Tryz.func49, Tryz.ntmps49
  go_upto_region 1 with fail
  generalize hW : World.alloc (World.alloc w _) _ = W0 at *
  obtain ⟨g1, hg1⟩ : ∃ g, w.heap.size = g := ⟨_, rfl⟩
  obtain ⟨g2, hg2⟩ : ∃ g, w.heap.size + 1 = g := ⟨_, rfl⟩
  rw [hg2] at R2 ⊢
  rw [hg1] at R1 ⊢
  clear hg1 hg2 hW
  rcases hq with ⟨rfl, rfl⟩ | ⟨rfl, hq⟩
  · obtain ⟨UU, E, hF1, hF2⟩ := cls W0
    have HU := hid hF2
    have HU1 := hid hF1
    have HX : Hid (∀ u, Ab w (E u)) := fun u => W_W0.out.trans (hF1 u)
    have x0 : ∀ u, (E u).cell? ⟨g1, 0, none⟩ = some (.float .f64 b1) := fun u => cell_of_row _ _ 0 _ _ _ ((hF1 u).heap R1.out)
    have x1 : ∀ u, (E u).cell? ⟨g1, 1, none⟩ = some (.int .i64 w1) := fun u => cell_of_row _ _ 1 _ _ _ ((hF1 u).heap R1.out)
    have x2 : ∀ u, (E u).cell? ⟨g1, 2, none⟩ = some (.int .i64 a1) := fun u => cell_of_row _ _ 2 _ _ _ ((hF1 u).heap R1.out)
    have y0 : ∀ u, (E u).cell? ⟨g2, 0, none⟩ = some (.float .f64 b2) := fun u => cell_of_row _ _ 0 _ _ _ ((hF1 u).heap R2.out)
    have y1 : ∀ u, (E u).cell? ⟨g2, 1, none⟩ = some (.int .i64 w2) := fun u => cell_of_row _ _ 1 _ _ _ ((hF1 u).heap R2.out)
    have y2 : ∀ u, (E u).cell? ⟨g2, 2, none⟩ = some (.int .i64 a2) := fun u => cell_of_row _ _ 2 _ _ _ ((hF1 u).heap R2.out)
    have DD0 := HU.out _ (Ab.refl W0).drew
    clear hF1 hF2
    refine region_cls E (by kernel_rfl) (by kernel_rfl) DD0 ?_
    repeat (go_big_quiet_step (first
      | (with_reducible rfl)
      | (go_at_call 48; exact calls_cls HU HU1 (WT.out _))
      | (go_at_call 52; exact calls_cls HU HU1 (LV.out _))))
    refine wpQuiet_nil ?_
    intro z hwz
    obtain ⟨u0, hu⟩ := hwz
    have AZ : Hid (Ab W0 z) := by rw [hu]; exact HU1.out u0
    clear hu u0
    clear HU HU1 DD0 HX x0 x1 x2 y0 y1 y2
    clear E UU
    have W_z : Hid (Ab w z) := W_W0.out.trans AZ.out
    go_wp2
    go_ret
    exact ⟨rfl, W_z.out⟩
  · obtain ⟨UU, E, hF1, hF2⟩ := cls W0
    have HU := hid hF2
    have HU1 := hid hF1
    have HX : Hid (∀ u, Ab w (E u)) := fun u => W_W0.out.trans (hF1 u)
    have x0 : ∀ u, (E u).cell? ⟨g1, 0, none⟩ = some (.float .f64 b1) := fun u => cell_of_row _ _ 0 _ _ _ ((hF1 u).heap R1.out)
    have x1 : ∀ u, (E u).cell? ⟨g1, 1, none⟩ = some (.int .i64 w1) := fun u => cell_of_row _ _ 1 _ _ _ ((hF1 u).heap R1.out)
    have x2 : ∀ u, (E u).cell? ⟨g1, 2, none⟩ = some (.int .i64 a1) := fun u => cell_of_row _ _ 2 _ _ _ ((hF1 u).heap R1.out)
    have y0 : ∀ u, (E u).cell? ⟨g2, 0, none⟩ = some (.float .f64 b2) := fun u => cell_of_row _ _ 0 _ _ _ ((hF1 u).heap R2.out)
    have y1 : ∀ u, (E u).cell? ⟨g2, 1, none⟩ = some (.int .i64 w2) := fun u => cell_of_row _ _ 1 _ _ _ ((hF1 u).heap R2.out)
    have y2 : ∀ u, (E u).cell? ⟨g2, 2, none⟩ = some (.int .i64 a2) := fun u => cell_of_row _ _ 2 _ _ _ ((hF1 u).heap R2.out)
    have DD0 := HU.out _ (Ab.refl W0).drew
    clear hF1 hF2
    refine region_cls E (by kernel_rfl) (by kernel_rfl) DD0 ?_
    repeat (go_big_quiet_step (first
      | (with_reducible rfl)
      | (go_at_call 48; exact calls_cls HU HU1 (WT.out _))
      | (go_at_call 52; exact calls_cls HU HU1 (LV.out _))))
    refine wpQuiet_nil ?_
    intro z hwz
    obtain ⟨u0, hu⟩ := hwz
    have AZ : Hid (Ab W0 z) := by rw [hu]; exact HU1.out u0
    clear hu u0
    clear HU HU1 DD0 HX x0 x1 x2 y0 y1 y2
    clear E UU
    have W_z : Hid (Ab w z) := W_W0.out.trans AZ.out
    go_wp2
    go_ret
    exact ⟨rfl, W_z.out⟩
theorem shut_at (b1 b2 : Nat) (w1 a1 w2 a2 : Int) (w : World) (h1 : b2 < 18446744073709551616) (h2 : w2 ≤ 9223372036854775807) (h3 : a2 ≤ 9223372036854775807) : Calls Tryz.prog 49 #[.agg #[.float .f64 b1, .int .i64 w1, .int .i64 a1], .agg #[.float .f64 b2, .int .i64 w2, .int .i64 a2]] w fun e w' => e = .returned (.bool (shB w1 b1 (lvl b2 w2 a2))) ∧ Below w.heap.size w w' := by
  refine shut_go b1 b2 w1 a1 w2 a2 (lvl b2 w2 a2) (decide (0 < w1)) _ w ?_ (fun v => wet_at b1 w1 a1 v) (fun v => clevel_at b2 w2 a2 v h1 h2 h3)
  unfold shB
  cases decide (0 < w1)
  · right; exact ⟨rfl, by simp⟩
  · left; exact ⟨rfl, by simp⟩
set_option maxRecDepth 100000 in
set_option maxHeartbeats 8000000 in
theorem eopen_go (bl br gap vu : Nat) (wl al wr ar : Int) (dl dr s1 s2 q : Bool) (w : World) (hq : (dl = false ∧ dr = false ∧ q = false) ∨ (dl = false ∧ dr = true ∧ s1 = true ∧ q = false) ∨ (dl = false ∧ dr = true ∧ s1 = false ∧ q = !s2) ∨ (dl = true ∧ s1 = true ∧ q = false) ∨ (dl = true ∧ s1 = false ∧ q = !s2))
    (WL : Hid (∀ v, Calls Tryz.prog 48 #[.agg #[.float .f64 bl, .int .i64 wl, .int .i64 al]] v fun e w' => e = .returned (.bool dl) ∧ Below v.heap.size v w'))
    (WR : Hid (∀ v, Calls Tryz.prog 48 #[.agg #[.float .f64 br, .int .i64 wr, .int .i64 ar]] v fun e w' => e = .returned (.bool dr) ∧ Below v.heap.size v w'))
    (SL : Hid (∀ v, Calls Tryz.prog 49 #[.agg #[.float .f64 bl, .int .i64 wl, .int .i64 al], .agg #[.float .f64 br, .int .i64 wr, .int .i64 ar]] v fun e w' => e = .returned (.bool s1) ∧ Below v.heap.size v w'))
    (SR : Hid (∀ v, Calls Tryz.prog 49 #[.agg #[.float .f64 br, .int .i64 wr, .int .i64 ar], .agg #[.float .f64 bl, .int .i64 wl, .int .i64 al]] v fun e w' => e = .returned (.bool s2) ∧ Below v.heap.size v w')) :
    Calls Tryz.prog 19 #[.agg #[.float .f64 bl, .int .i64 wl, .int .i64 al, .float .f64 br, .int .i64 wr, .int .i64 ar, .float .f64 gap, .float .f64 vu]] w fun e w' => e = .returned (.bool q) ∧ Below w.heap.size w w' := by
  have W_W0 : Hid (Ab w (w.alloc (.cells #[.float .f64 bl, .int .i64 wl, .int .i64 al, .float .f64 br, .int .i64 wr, .int .i64 ar, .float .f64 gap, .float .f64 vu] 54))) := bl1 _ _
  have R0 : Hid ((w.alloc (.cells #[.float .f64 bl, .int .i64 wl, .int .i64 al, .float .f64 br, .int .i64 wr, .int .i64 ar, .float .f64 gap, .float .f64 vu] 54)).heap[w.heap.size]? = some (.cells #[.float .f64 bl, .int .i64 wl, .int .i64 al, .float .f64 br, .int .i64 wr, .int .i64 ar, .float .f64 gap, .float .f64 vu] 54)) := heap_alloc_new _ _
  go_enter Tryz.func19, Tryz.ntmps19
  go_upto_region 1 with fail
  generalize hW : World.alloc w _ = W0 at *
  obtain ⟨g1, hg1⟩ : ∃ g, w.heap.size = g := ⟨_, rfl⟩
  rw [hg1] at R0 ⊢
  clear hg1 hW
  have R_W0 := R0
  clear R0
  rcases hq with ⟨rfl, rfl, rfl⟩ | ⟨rfl, rfl, rfl, rfl⟩ | ⟨rfl, rfl, rfl, rfl⟩ | ⟨rfl, rfl, rfl⟩ | ⟨rfl, rfl, rfl⟩
  · have c0 := cell_of_row _ _ 0 _ _ _ R_W0.out
    have c1 := cell_of_row _ _ 1 _ _ _ R_W0.out
    have c2 := cell_of_row _ _ 2 _ _ _ R_W0.out
    have c3 := cell_of_row _ _ 3 _ _ _ R_W0.out
    have c4 := cell_of_row _ _ 4 _ _ _ R_W0.out
    have c5 := cell_of_row _ _ 5 _ _ _ R_W0.out
    go_wp2_with fail
    refine (WL.out _).mono ?_
    rintro e9 v0 ⟨rfl, k1⟩
    have W_v0 : Hid (Ab w v0) := W_W0.out.call k1
    have R_v0 := hid (Ab.heap k1 R_W0.out)
    clear k1 c0 c1 c2 c3 c4 c5 W_W0 R_W0
    have c0 := cell_of_row _ _ 0 _ _ _ R_v0.out
    have c1 := cell_of_row _ _ 1 _ _ _ R_v0.out
    have c2 := cell_of_row _ _ 2 _ _ _ R_v0.out
    have c3 := cell_of_row _ _ 3 _ _ _ R_v0.out
    have c4 := cell_of_row _ _ 4 _ _ _ R_v0.out
    have c5 := cell_of_row _ _ 5 _ _ _ R_v0.out
    go_wp2_with fail
    refine (WR.out _).mono ?_
    rintro e9 v1 ⟨rfl, k1⟩
    have W_v1 : Hid (Ab w v1) := W_v0.out.call k1
    have R_v1 := hid (Ab.heap k1 R_v0.out)
    clear k1 c0 c1 c2 c3 c4 c5 W_v0 R_v0
    go_wp2
    go_ret
    exact ⟨rfl, W_v1.out⟩
  · have c0 := cell_of_row _ _ 0 _ _ _ R_W0.out
    have c1 := cell_of_row _ _ 1 _ _ _ R_W0.out
    have c2 := cell_of_row _ _ 2 _ _ _ R_W0.out
    have c3 := cell_of_row _ _ 3 _ _ _ R_W0.out
    have c4 := cell_of_row _ _ 4 _ _ _ R_W0.out
    have c5 := cell_of_row _ _ 5 _ _ _ R_W0.out
    go_wp2_with fail
    refine (WL.out _).mono ?_
    rintro e9 v0 ⟨rfl, k1⟩
    have W_v0 : Hid (Ab w v0) := W_W0.out.call k1
    have R_v0 := hid (Ab.heap k1 R_W0.out)
    clear k1 c0 c1 c2 c3 c4 c5 W_W0 R_W0
    have c0 := cell_of_row _ _ 0 _ _ _ R_v0.out
    have c1 := cell_of_row _ _ 1 _ _ _ R_v0.out
    have c2 := cell_of_row _ _ 2 _ _ _ R_v0.out
    have c3 := cell_of_row _ _ 3 _ _ _ R_v0.out
    have c4 := cell_of_row _ _ 4 _ _ _ R_v0.out
    have c5 := cell_of_row _ _ 5 _ _ _ R_v0.out
    go_wp2_with fail
    refine (WR.out _).mono ?_
    rintro e9 v1 ⟨rfl, k1⟩
    have W_v1 : Hid (Ab w v1) := W_v0.out.call k1
    have R_v1 := hid (Ab.heap k1 R_v0.out)
    clear k1 c0 c1 c2 c3 c4 c5 W_v0 R_v0
    have c0 := cell_of_row _ _ 0 _ _ _ R_v1.out
    have c1 := cell_of_row _ _ 1 _ _ _ R_v1.out
    have c2 := cell_of_row _ _ 2 _ _ _ R_v1.out
    have c3 := cell_of_row _ _ 3 _ _ _ R_v1.out
    have c4 := cell_of_row _ _ 4 _ _ _ R_v1.out
    have c5 := cell_of_row _ _ 5 _ _ _ R_v1.out
    go_wp2_with fail
    refine (SL.out _).mono ?_
    rintro e9 v2 ⟨rfl, k1⟩
    have W_v2 : Hid (Ab w v2) := W_v1.out.call k1
    have R_v2 := hid (Ab.heap k1 R_v1.out)
    clear k1 c0 c1 c2 c3 c4 c5 W_v1 R_v1
    go_wp2
    go_ret
    exact ⟨rfl, W_v2.out⟩
  · have c0 := cell_of_row _ _ 0 _ _ _ R_W0.out
    have c1 := cell_of_row _ _ 1 _ _ _ R_W0.out
    have c2 := cell_of_row _ _ 2 _ _ _ R_W0.out
    have c3 := cell_of_row _ _ 3 _ _ _ R_W0.out
    have c4 := cell_of_row _ _ 4 _ _ _ R_W0.out
    have c5 := cell_of_row _ _ 5 _ _ _ R_W0.out
    go_wp2_with fail
    refine (WL.out _).mono ?_
    rintro e9 v0 ⟨rfl, k1⟩
    have W_v0 : Hid (Ab w v0) := W_W0.out.call k1
    have R_v0 := hid (Ab.heap k1 R_W0.out)
    clear k1 c0 c1 c2 c3 c4 c5 W_W0 R_W0
    have c0 := cell_of_row _ _ 0 _ _ _ R_v0.out
    have c1 := cell_of_row _ _ 1 _ _ _ R_v0.out
    have c2 := cell_of_row _ _ 2 _ _ _ R_v0.out
    have c3 := cell_of_row _ _ 3 _ _ _ R_v0.out
    have c4 := cell_of_row _ _ 4 _ _ _ R_v0.out
    have c5 := cell_of_row _ _ 5 _ _ _ R_v0.out
    go_wp2_with fail
    refine (WR.out _).mono ?_
    rintro e9 v1 ⟨rfl, k1⟩
    have W_v1 : Hid (Ab w v1) := W_v0.out.call k1
    have R_v1 := hid (Ab.heap k1 R_v0.out)
    clear k1 c0 c1 c2 c3 c4 c5 W_v0 R_v0
    have c0 := cell_of_row _ _ 0 _ _ _ R_v1.out
    have c1 := cell_of_row _ _ 1 _ _ _ R_v1.out
    have c2 := cell_of_row _ _ 2 _ _ _ R_v1.out
    have c3 := cell_of_row _ _ 3 _ _ _ R_v1.out
    have c4 := cell_of_row _ _ 4 _ _ _ R_v1.out
    have c5 := cell_of_row _ _ 5 _ _ _ R_v1.out
    go_wp2_with fail
    refine (SL.out _).mono ?_
    rintro e9 v2 ⟨rfl, k1⟩
    have W_v2 : Hid (Ab w v2) := W_v1.out.call k1
    have R_v2 := hid (Ab.heap k1 R_v1.out)
    clear k1 c0 c1 c2 c3 c4 c5 W_v1 R_v1
    have c0 := cell_of_row _ _ 0 _ _ _ R_v2.out
    have c1 := cell_of_row _ _ 1 _ _ _ R_v2.out
    have c2 := cell_of_row _ _ 2 _ _ _ R_v2.out
    have c3 := cell_of_row _ _ 3 _ _ _ R_v2.out
    have c4 := cell_of_row _ _ 4 _ _ _ R_v2.out
    have c5 := cell_of_row _ _ 5 _ _ _ R_v2.out
    go_wp2_with fail
    refine (SR.out _).mono ?_
    rintro e9 v3 ⟨rfl, k1⟩
    have W_v3 : Hid (Ab w v3) := W_v2.out.call k1
    have R_v3 := hid (Ab.heap k1 R_v2.out)
    clear k1 c0 c1 c2 c3 c4 c5 W_v2 R_v2
    go_wp2
    go_ret
    exact ⟨rfl, W_v3.out⟩
  · have c0 := cell_of_row _ _ 0 _ _ _ R_W0.out
    have c1 := cell_of_row _ _ 1 _ _ _ R_W0.out
    have c2 := cell_of_row _ _ 2 _ _ _ R_W0.out
    have c3 := cell_of_row _ _ 3 _ _ _ R_W0.out
    have c4 := cell_of_row _ _ 4 _ _ _ R_W0.out
    have c5 := cell_of_row _ _ 5 _ _ _ R_W0.out
    go_wp2_with fail
    refine (WL.out _).mono ?_
    rintro e9 v0 ⟨rfl, k1⟩
    have W_v0 : Hid (Ab w v0) := W_W0.out.call k1
    have R_v0 := hid (Ab.heap k1 R_W0.out)
    clear k1 c0 c1 c2 c3 c4 c5 W_W0 R_W0
    have c0 := cell_of_row _ _ 0 _ _ _ R_v0.out
    have c1 := cell_of_row _ _ 1 _ _ _ R_v0.out
    have c2 := cell_of_row _ _ 2 _ _ _ R_v0.out
    have c3 := cell_of_row _ _ 3 _ _ _ R_v0.out
    have c4 := cell_of_row _ _ 4 _ _ _ R_v0.out
    have c5 := cell_of_row _ _ 5 _ _ _ R_v0.out
    go_wp2_with fail
    refine (SL.out _).mono ?_
    rintro e9 v1 ⟨rfl, k1⟩
    have W_v1 : Hid (Ab w v1) := W_v0.out.call k1
    have R_v1 := hid (Ab.heap k1 R_v0.out)
    clear k1 c0 c1 c2 c3 c4 c5 W_v0 R_v0
    go_wp2
    go_ret
    exact ⟨rfl, W_v1.out⟩
  · have c0 := cell_of_row _ _ 0 _ _ _ R_W0.out
    have c1 := cell_of_row _ _ 1 _ _ _ R_W0.out
    have c2 := cell_of_row _ _ 2 _ _ _ R_W0.out
    have c3 := cell_of_row _ _ 3 _ _ _ R_W0.out
    have c4 := cell_of_row _ _ 4 _ _ _ R_W0.out
    have c5 := cell_of_row _ _ 5 _ _ _ R_W0.out
    go_wp2_with fail
    refine (WL.out _).mono ?_
    rintro e9 v0 ⟨rfl, k1⟩
    have W_v0 : Hid (Ab w v0) := W_W0.out.call k1
    have R_v0 := hid (Ab.heap k1 R_W0.out)
    clear k1 c0 c1 c2 c3 c4 c5 W_W0 R_W0
    have c0 := cell_of_row _ _ 0 _ _ _ R_v0.out
    have c1 := cell_of_row _ _ 1 _ _ _ R_v0.out
    have c2 := cell_of_row _ _ 2 _ _ _ R_v0.out
    have c3 := cell_of_row _ _ 3 _ _ _ R_v0.out
    have c4 := cell_of_row _ _ 4 _ _ _ R_v0.out
    have c5 := cell_of_row _ _ 5 _ _ _ R_v0.out
    go_wp2_with fail
    refine (SL.out _).mono ?_
    rintro e9 v1 ⟨rfl, k1⟩
    have W_v1 : Hid (Ab w v1) := W_v0.out.call k1
    have R_v1 := hid (Ab.heap k1 R_v0.out)
    clear k1 c0 c1 c2 c3 c4 c5 W_v0 R_v0
    have c0 := cell_of_row _ _ 0 _ _ _ R_v1.out
    have c1 := cell_of_row _ _ 1 _ _ _ R_v1.out
    have c2 := cell_of_row _ _ 2 _ _ _ R_v1.out
    have c3 := cell_of_row _ _ 3 _ _ _ R_v1.out
    have c4 := cell_of_row _ _ 4 _ _ _ R_v1.out
    have c5 := cell_of_row _ _ 5 _ _ _ R_v1.out
    go_wp2_with fail
    refine (SR.out _).mono ?_
    rintro e9 v2 ⟨rfl, k1⟩
    have W_v2 : Hid (Ab w v2) := W_v1.out.call k1
    have R_v2 := hid (Ab.heap k1 R_v1.out)
    clear k1 c0 c1 c2 c3 c4 c5 W_v1 R_v1
    go_wp2
    go_ret
    exact ⟨rfl, W_v2.out⟩
theorem eopen_at (bl br gap vu : Nat) (wl al wr ar : Int) (w : World) (h1 : bl < 18446744073709551616) (h2 : br < 18446744073709551616) (h3 : wl ≤ 9223372036854775807) (h4 : wr ≤ 9223372036854775807) (h5 : al ≤ 9223372036854775807) (h6 : ar ≤ 9223372036854775807) :
    Calls Tryz.prog 19 #[.agg #[.float .f64 bl, .int .i64 wl, .int .i64 al, .float .f64 br, .int .i64 wr, .int .i64 ar, .float .f64 gap, .float .f64 vu]] w fun e w' => e = .returned (.bool (opB wl wr (lvl bl wl al) (lvl br wr ar) bl br)) ∧ Below w.heap.size w w' := by
  refine eopen_go bl br gap vu wl al wr ar (decide (0 < wl)) (decide (0 < wr)) (shB wl bl (lvl br wr ar)) (shB wr br (lvl bl wl al)) _ w ?_ (fun v => wet_at bl wl al v) (fun v => wet_at br wr ar v) (fun v => shut_at bl br wl al wr ar v h2 h4 h6) (fun v => shut_at br bl wr ar wl al v h1 h3 h5)
  unfold opB shB
  generalize (flt (lvl br wr ar) bl || feq (lvl br wr ar) bl) = p
  generalize (flt (lvl bl wl al) br || feq (lvl bl wl al) br) = q
  cases decide (0 < wl) <;> cases decide (0 < wr) <;> cases p <;> cases q <;> decide
end Fc
end Go.Proofs.YtgalgnjgpmcngaaGreatDoor

namespace Go.Proofs.YtgalgnjgpmcngaaGreatDoor
open Go.RowKit Tf Cu Go.Deep Rl
attribute [local go_sem] run_bits run_from raw_feq raw_fne raw_flt raw_fgt run_neg run_store_float
namespace Fc
set_option maxRecDepth 100000 in
set_option maxHeartbeats 8000000 in
theorem kept_at (x : Nat) (w : World) (hx : x < 18446744073709551616) : Calls Tryz.prog 50 #[.float .f64 x] w fun e w' => e = .returned (.float .f64 (cuB x)) ∧ w' = w := by
  have CL := hid (class_any x w hx)
  have CN := hid (canon_any x w hx)
  cases c1 : fgt x 4652218415073722368
  · cases c2 : flt x 13875590451928498176
    · cases c3 : isN x
      · have e : cuB x = canonB x := by unfold cuB; rw [if_neg (by rw [c1]; decide), if_neg (by rw [c2]; decide), if_neg (by rw [c3]; decide)]
        rw [e]
        have e4 : (classB x == 4) = false := by
          have h := isN_false.1 c3
          unfold classB
          split
          · rfl
          · split
            · rfl
            · split
              · rfl
              · rw [if_pos (by omega)]; rfl
        clear e c3 hx
        generalize canonB x = y at *
        generalize classB x = c at *
        go_enter Tryz.func50, Tryz.ntmps50
        go_wp2_with fail
        refine (CL.out).mono ?_
        rintro e w' ⟨rfl, rfl⟩
        go_wp2_with fail
        refine (CN.out).mono ?_
        rintro e w' ⟨rfl, rfl⟩
        go_wp2
        go_ret
        exact ⟨rfl, rfl⟩
      · have e : cuB x = 0 := by unfold cuB; rw [if_neg (by rw [c1]; decide), if_neg (by rw [c2]; decide), if_pos c3]
        rw [e]
        have e4 : (classB x == 4) = true := by
          have h := isN_true.1 c3
          unfold classB
          rw [if_neg (by omega), if_neg (by omega), if_neg (by omega), if_neg (by omega)]
          rfl
        clear e c3 hx
        generalize classB x = c at *
        go_enter Tryz.func50, Tryz.ntmps50
        go_wp2_with fail
        refine (CL.out).mono ?_
        rintro e w' ⟨rfl, rfl⟩
        go_wp2
        go_ret
        exact ⟨rfl, rfl⟩
    · have e : cuB x = 13875590451928498176 := by unfold cuB; rw [if_neg (by rw [c1]; decide), if_pos c2]
      rw [e]
      clear e hx
      go_enter Tryz.func50, Tryz.ntmps50
      go_wp2
      go_ret
      exact ⟨rfl, rfl⟩
  · have e : cuB x = 4652218415073722368 := by unfold cuB; rw [if_pos c1]
    rw [e]
    clear e hx
    go_enter Tryz.func50, Tryz.ntmps50
    go_wp2
    go_ret
    exact ⟨rfl, rfl⟩
set_option maxRecDepth 100000 in
set_option maxHeartbeats 8000000 in
theorem edepth_at (bl br gap vu : Nat) (wl al wr ar : Int) (dl dv : Nat) (w : World) (h3 : dl < 18446744073709551616) (h4 : dv < 18446744073709551616)
    (DL : Hid (∀ v, Calls Tryz.prog 53 #[.agg #[.float .f64 bl, .int .i64 wl, .int .i64 al]] v fun e w' => e = .returned (.float .f64 dl) ∧ Below v.heap.size v w'))
    (DR : Hid (∀ v, Calls Tryz.prog 53 #[.agg #[.float .f64 br, .int .i64 wr, .int .i64 ar]] v fun e w' => e = .returned (.float .f64 dv) ∧ Below v.heap.size v w')) :
    Calls Tryz.prog 23 #[.agg #[.float .f64 bl, .int .i64 wl, .int .i64 al, .float .f64 br, .int .i64 wr, .int .i64 ar, .float .f64 gap, .float .f64 vu]] w fun e w' => (∃ r, e = .returned (.float .f64 r) ∧ r < 18446744073709551616 ∧ fgt r 0 = fgt (hB dl dv) 0 ∧ (fgt r 0 = true → r = hB dl dv)) ∧ Below w.heap.size w w' := by
  have W_W0 : Hid (Ab w (w.alloc (.cells #[.float .f64 bl, .int .i64 wl, .int .i64 al, .float .f64 br, .int .i64 wr, .int .i64 ar, .float .f64 gap, .float .f64 vu] 54))) := bl1 _ _
  have R0 : Hid ((w.alloc (.cells #[.float .f64 bl, .int .i64 wl, .int .i64 al, .float .f64 br, .int .i64 wr, .int .i64 ar, .float .f64 gap, .float .f64 vu] 54)).heap[w.heap.size]? = some (.cells #[.float .f64 bl, .int .i64 wl, .int .i64 al, .float .f64 br, .int .i64 wr, .int .i64 ar, .float .f64 gap, .float .f64 vu] 54)) := heap_alloc_new _ _
  go_enter Tryz.func23, Tryz.ntmps23
  go_upto_region 1 with fail
  generalize hW : World.alloc w _ = W0 at *
  obtain ⟨g1, hg1⟩ : ∃ g, w.heap.size = g := ⟨_, rfl⟩
  rw [hg1] at R0 ⊢
  clear hg1 hW
  obtain ⟨UU, E, hF1, hF2⟩ := cls W0
  have HU := hid hF2
  have HU1 := hid hF1
  have HX : Hid (∀ u, Ab w (E u)) := fun u => W_W0.out.trans (hF1 u)
  have x0 : ∀ u, (E u).cell? ⟨g1, 0, none⟩ = some (.float .f64 bl) := fun u => cell_of_row _ _ 0 _ _ _ ((hF1 u).heap R0.out)
  have x1 : ∀ u, (E u).cell? ⟨g1, 1, none⟩ = some (.int .i64 wl) := fun u => cell_of_row _ _ 1 _ _ _ ((hF1 u).heap R0.out)
  have x2 : ∀ u, (E u).cell? ⟨g1, 2, none⟩ = some (.int .i64 al) := fun u => cell_of_row _ _ 2 _ _ _ ((hF1 u).heap R0.out)
  have x3 : ∀ u, (E u).cell? ⟨g1, 3, none⟩ = some (.float .f64 br) := fun u => cell_of_row _ _ 3 _ _ _ ((hF1 u).heap R0.out)
  have x4 : ∀ u, (E u).cell? ⟨g1, 4, none⟩ = some (.int .i64 wr) := fun u => cell_of_row _ _ 4 _ _ _ ((hF1 u).heap R0.out)
  have x5 : ∀ u, (E u).cell? ⟨g1, 5, none⟩ = some (.int .i64 ar) := fun u => cell_of_row _ _ 5 _ _ _ ((hF1 u).heap R0.out)
  have x6 : ∀ u, (E u).cell? ⟨g1, 6, none⟩ = some (.float .f64 gap) := fun u => cell_of_row _ _ 6 _ _ _ ((hF1 u).heap R0.out)
  have x7 : ∀ u, (E u).cell? ⟨g1, 7, none⟩ = some (.float .f64 vu) := fun u => cell_of_row _ _ 7 _ _ _ ((hF1 u).heap R0.out)
  have DD0 := HU.out _ (Ab.refl W0).drew
  clear hF1 hF2
  refine region_tail 6 E (by kernel_rfl) (by kernel_rfl) (by kernel_rfl) DD0 ?_
  simp only [List.take_succ_cons, List.take_zero, List.drop_succ_cons, List.drop_zero]
  repeat (go_big_quiet_step (first
    | (with_reducible rfl)
    | (go_at_call_of 53 bl; exact calls_cls HU HU1 (DL.out _))
    | (go_at_call_of 53 br; exact calls_cls HU HU1 (DR.out _))))
  refine wpQuiet_nil ?_
  intro z hwz
  obtain ⟨u0, hu⟩ := hwz
  have AZ : Hid (Ab W0 z) := by rw [hu]; exact HU1.out u0
  clear hu u0
  clear HU HU1 DD0 HX x0 x1 x2 x3 x4 x5 x6 x7
  clear E UU
  have W_z : Hid (Ab w z) := W_W0.out.trans AZ.out
  obtain ⟨rs, n1, hr1, i1, _⟩ := add_o (P := Tryz.prog) z dl dv h3 h4
  obtain ⟨rh, n2, hr2, i2⟩ := mul_o (P := Tryz.prog) (z.drewN n1) 4602678819172646912 rs (by decide) i1.1
  have HH := hid (h_o h3 h4 i1 i2)
  have HL := hid i2.1
  clear i1 i2 h3 h4
  go_wp2
  go_ret
  exact ⟨⟨rh, rfl, HL.out, HH.out.1, HH.out.2⟩, Ab.drewN W_z.out _⟩
set_option maxRecDepth 100000 in
set_option maxHeartbeats 8000000 in
theorem pulled_at (bl br gap vu : Nat) (wl al wr ar : Int) (sd : Int) (dt gr dr : Nat) (lim : Int) (rv : Bool) (pr : Option Addr) (lr cr : Nat) (ll lv : Nat) (w : World) (ht : dt < 18446744073709551616) (hG : gr < 18446744073709551616) (hu : vu < 18446744073709551616) (h1 : ll < 18446744073709551616) (h2 : lv < 18446744073709551616) (hg : gap < 18446744073709551616)
    (LL : Hid (∀ v, Calls Tryz.prog 52 #[.agg #[.float .f64 bl, .int .i64 wl, .int .i64 al]] v fun e w' => e = .returned (.float .f64 ll) ∧ Below v.heap.size v w'))
    (LR : Hid (∀ v, Calls Tryz.prog 52 #[.agg #[.float .f64 br, .int .i64 wr, .int .i64 ar]] v fun e w' => e = .returned (.float .f64 lv) ∧ Below v.heap.size v w')) :
    Calls Tryz.prog 22 #[.agg #[.float .f64 bl, .int .i64 wl, .int .i64 al, .float .f64 br, .int .i64 wr, .int .i64 ar, .float .f64 gap, .float .f64 vu], .agg #[.int .i64 sd, .float .f64 dt, .float .f64 gr, .float .f64 dr, .int .i64 lim, .bool rv, .slice pr lr cr]] w fun e w' => (∃ r, e = .returned (.float .f64 r) ∧ IsC r (u1B gr dt vu ll lv gap)) ∧ Below w.heap.size w w' := by
  have W_W0 : Hid (Ab w ((w.alloc (.cells #[.float .f64 bl, .int .i64 wl, .int .i64 al, .float .f64 br, .int .i64 wr, .int .i64 ar, .float .f64 gap, .float .f64 vu] 54)).alloc (.cells #[.int .i64 sd, .float .f64 dt, .float .f64 gr, .float .f64 dr, .int .i64 lim, .bool rv, .slice pr lr cr] 25))) := bl2 _ _ _
  have RE : Hid (((w.alloc (.cells #[.float .f64 bl, .int .i64 wl, .int .i64 al, .float .f64 br, .int .i64 wr, .int .i64 ar, .float .f64 gap, .float .f64 vu] 54)).alloc (.cells #[.int .i64 sd, .float .f64 dt, .float .f64 gr, .float .f64 dr, .int .i64 lim, .bool rv, .slice pr lr cr] 25)).heap[w.heap.size]? = some (.cells #[.float .f64 bl, .int .i64 wl, .int .i64 al, .float .f64 br, .int .i64 wr, .int .i64 ar, .float .f64 gap, .float .f64 vu] 54)) := heap_alloc2_old _ _ _
  have RP : Hid (((w.alloc (.cells #[.float .f64 bl, .int .i64 wl, .int .i64 al, .float .f64 br, .int .i64 wr, .int .i64 ar, .float .f64 gap, .float .f64 vu] 54)).alloc (.cells #[.int .i64 sd, .float .f64 dt, .float .f64 gr, .float .f64 dr, .int .i64 lim, .bool rv, .slice pr lr cr] 25)).heap[w.heap.size + 1]? = some (.cells #[.int .i64 sd, .float .f64 dt, .float .f64 gr, .float .f64 dr, .int .i64 lim, .bool rv, .slice pr lr cr] 25)) := heap_alloc2_new _ _ _
  go_enter Tryz.func22, Tryz.ntmps22
  go_upto_region 1 with fail
  generalize hW : World.alloc (World.alloc w _) _ = W0 at *
  obtain ⟨ge, hge⟩ : ∃ g, w.heap.size = g := ⟨_, rfl⟩
  obtain ⟨gp, hgp⟩ : ∃ g, w.heap.size + 1 = g := ⟨_, rfl⟩
  rw [hgp] at RP ⊢
  rw [hge] at RE ⊢
  clear hge hgp hW
  have HB := hid (And.intro ht (And.intro hG (And.intro hu (And.intro h1 (And.intro h2 hg)))))
  clear ht hG hu h1 h2 hg
  refine Rl.region_rel (fun i v => match i with
      | 0 => v = .pointer (some ⟨gp, 2, none⟩)
      | 1 => v = .float .f64 gr
      | 2 => v = .pointer (some ⟨gp, 1, none⟩)
      | 3 => v = .float .f64 dt
      | 4 => ∃ r, v = .float .f64 r ∧ IsQ r (mlB gr dt)
      | 5 => v = .pointer (some ⟨ge, 3, none⟩)
      | 6 => v = .agg #[.float .f64 br, .int .i64 wr, .int .i64 ar]
      | 7 => v = .float .f64 lv
      | 8 => v = .pointer (some ⟨ge, 0, none⟩)
      | 9 => v = .agg #[.float .f64 bl, .int .i64 wl, .int .i64 al]
      | 10 => v = .float .f64 ll
      | 11 => ∃ r, v = .float .f64 r ∧ IsC r (sbB lv ll)
      | 12 => ∃ r, v = .float .f64 r ∧ r < 18446744073709551616 ∧ dvB r gap = puB gr dt ll lv gap
      | 13 => v = .pointer (some ⟨ge, 6, none⟩)
      | 14 => v = .float .f64 gap
      | 15 => ∃ r, v = .float .f64 r ∧ IsC r (puB gr dt ll lv gap)
      | _ => ∃ r, v = .float .f64 r ∧ IsC r (puB gr dt ll lv gap)) (fun w9 => Ab W0 w9) (by kernel_rfl) (by kernel_rfl) (by kernel_rfl) (Ab.refl W0).drew ?_ ?_
  · refine Rl.rel_cons 1 (fun v => v = .pointer (some ⟨gp, 2, none⟩)) rfl rfl ?_ ?_
    · intro x v hC hR
      clear hR
      intro K hK
      simp only [putAll, Act.put, List.setIfInBounds_toArray, List.set_cons_zero, List.set_cons_succ, Nat.reduceAdd, Nat.zero_add] at hK ⊢
      go_simp
      exact hK.out _ _ rfl hC
    refine Rl.rel_cons 2 (fun v => v = .float .f64 gr) rfl rfl ?_ ?_
    · intro x v hC hR
      have h0 : x 0 = .pointer (some ⟨gp, 2, none⟩) := hR 0 (by kernel_rfl)
      have y0 := cell_of_row _ _ 2 _ _ _ (hC.heap RP.out)
      clear hR
      intro K hK
      simp only [putAll, Act.put, List.setIfInBounds_toArray, List.set_cons_zero, List.set_cons_succ, Nat.reduceAdd, Nat.zero_add] at hK ⊢
      simp only [h0] at hK ⊢
      go_simp
      exact hK.out _ _ rfl hC
    refine Rl.rel_cons 3 (fun v => v = .pointer (some ⟨gp, 1, none⟩)) rfl rfl ?_ ?_
    · intro x v hC hR
      clear hR
      intro K hK
      simp only [putAll, Act.put, List.setIfInBounds_toArray, List.set_cons_zero, List.set_cons_succ, Nat.reduceAdd, Nat.zero_add] at hK ⊢
      go_simp
      exact hK.out _ _ rfl hC
    refine Rl.rel_cons 4 (fun v => v = .float .f64 dt) rfl rfl ?_ ?_
    · intro x v hC hR
      have h0 : x 2 = .pointer (some ⟨gp, 1, none⟩) := hR 2 (by kernel_rfl)
      have y0 := cell_of_row _ _ 1 _ _ _ (hC.heap RP.out)
      clear hR
      intro K hK
      simp only [putAll, Act.put, List.setIfInBounds_toArray, List.set_cons_zero, List.set_cons_succ, Nat.reduceAdd, Nat.zero_add] at hK ⊢
      simp only [h0] at hK ⊢
      go_simp
      exact hK.out _ _ rfl hC
    refine Rl.rel_cons 5 (fun v => ∃ r, v = .float .f64 r ∧ IsQ r (mlB gr dt)) rfl rfl ?_ ?_
    · intro x v hC hR
      have h0 : x 1 = .float .f64 gr := hR 1 (by kernel_rfl)
      have h1 : x 3 = .float .f64 dt := hR 3 (by kernel_rfl)
      obtain ⟨r, k, hr, hi⟩ := mul_o (P := Tryz.prog) v gr dt HB.out.2.1 HB.out.1
      have HI := hid hi
      clear hi
      clear hR
      intro K hK
      simp only [putAll, Act.put, List.setIfInBounds_toArray, List.set_cons_zero, List.set_cons_succ, Nat.reduceAdd, Nat.zero_add] at hK ⊢
      simp only [h0, h1] at hK ⊢
      go_simp
      exact hK.out _ _ ⟨r, rfl, HI.out⟩ (Ab.drewN hC k)
    refine Rl.rel_cons 6 (fun v => v = .pointer (some ⟨ge, 3, none⟩)) rfl rfl ?_ ?_
    · intro x v hC hR
      clear hR
      intro K hK
      simp only [putAll, Act.put, List.setIfInBounds_toArray, List.set_cons_zero, List.set_cons_succ, Nat.reduceAdd, Nat.zero_add] at hK ⊢
      go_simp
      exact hK.out _ _ rfl hC
    refine Rl.rel_cons 7 (fun v => v = .agg #[.float .f64 br, .int .i64 wr, .int .i64 ar]) rfl rfl ?_ ?_
    · intro x v hC hR
      have h0 : x 5 = .pointer (some ⟨ge, 3, none⟩) := hR 5 (by kernel_rfl)
      have y0 := cell_of_row _ _ 3 _ _ _ (hC.heap RE.out)
      have y1 := cell_of_row _ _ 4 _ _ _ (hC.heap RE.out)
      have y2 := cell_of_row _ _ 5 _ _ _ (hC.heap RE.out)
      clear hR
      intro K hK
      simp only [putAll, Act.put, List.setIfInBounds_toArray, List.set_cons_zero, List.set_cons_succ, Nat.reduceAdd, Nat.zero_add] at hK ⊢
      simp only [h0] at hK ⊢
      go_simp
      exact hK.out _ _ rfl hC
    refine Rl.rel_cons 8 (fun v => v = .float .f64 lv) rfl rfl ?_ ?_
    · intro x v hC hR
      have h0 : x 6 = .agg #[.float .f64 br, .int .i64 wr, .int .i64 ar] := hR 6 (by kernel_rfl)
      clear hR
      intro K hK
      simp only [putAll, Act.put, List.setIfInBounds_toArray, List.set_cons_zero, List.set_cons_succ, Nat.reduceAdd, Nat.zero_add] at hK ⊢
      simp only [h0] at hK ⊢
      go_simp
      refine (LR.out _).mono ?_
      rintro e w8 ⟨rfl, kb⟩
      exact hK.out _ _ rfl (hC.call kb)
    refine Rl.rel_cons 9 (fun v => v = .pointer (some ⟨ge, 0, none⟩)) rfl rfl ?_ ?_
    · intro x v hC hR
      clear hR
      intro K hK
      simp only [putAll, Act.put, List.setIfInBounds_toArray, List.set_cons_zero, List.set_cons_succ, Nat.reduceAdd, Nat.zero_add] at hK ⊢
      go_simp
      exact hK.out _ _ rfl hC
    refine Rl.rel_cons 10 (fun v => v = .agg #[.float .f64 bl, .int .i64 wl, .int .i64 al]) rfl rfl ?_ ?_
    · intro x v hC hR
      have h0 : x 8 = .pointer (some ⟨ge, 0, none⟩) := hR 8 (by kernel_rfl)
      have y0 := cell_of_row _ _ 0 _ _ _ (hC.heap RE.out)
      have y1 := cell_of_row _ _ 1 _ _ _ (hC.heap RE.out)
      have y2 := cell_of_row _ _ 2 _ _ _ (hC.heap RE.out)
      clear hR
      intro K hK
      simp only [putAll, Act.put, List.setIfInBounds_toArray, List.set_cons_zero, List.set_cons_succ, Nat.reduceAdd, Nat.zero_add] at hK ⊢
      simp only [h0] at hK ⊢
      go_simp
      exact hK.out _ _ rfl hC
    refine Rl.rel_cons 11 (fun v => v = .float .f64 ll) rfl rfl ?_ ?_
    · intro x v hC hR
      have h0 : x 9 = .agg #[.float .f64 bl, .int .i64 wl, .int .i64 al] := hR 9 (by kernel_rfl)
      clear hR
      intro K hK
      simp only [putAll, Act.put, List.setIfInBounds_toArray, List.set_cons_zero, List.set_cons_succ, Nat.reduceAdd, Nat.zero_add] at hK ⊢
      simp only [h0] at hK ⊢
      go_simp
      refine (LL.out _).mono ?_
      rintro e w8 ⟨rfl, kb⟩
      exact hK.out _ _ rfl (hC.call kb)
    refine Rl.rel_cons 12 (fun v => ∃ r, v = .float .f64 r ∧ IsC r (sbB lv ll)) rfl rfl ?_ ?_
    · intro x v hC hR
      have h0 : x 7 = .float .f64 lv := hR 7 (by kernel_rfl)
      have h1 : x 10 = .float .f64 ll := hR 10 (by kernel_rfl)
      obtain ⟨r, k, hr, hi⟩ := sub_o (P := Tryz.prog) v lv ll HB.out.2.2.2.2.1 HB.out.2.2.2.1
      have HI := hid hi
      clear hi
      clear hR
      intro K hK
      simp only [putAll, Act.put, List.setIfInBounds_toArray, List.set_cons_zero, List.set_cons_succ, Nat.reduceAdd, Nat.zero_add] at hK ⊢
      simp only [h0, h1] at hK ⊢
      go_simp
      exact hK.out _ _ ⟨r, rfl, HI.out⟩ (Ab.drewN hC k)
    refine Rl.rel_cons 13 (fun v => ∃ r, v = .float .f64 r ∧ r < 18446744073709551616 ∧ dvB r gap = puB gr dt ll lv gap) rfl rfl ?_ ?_
    · intro x v hC hR
      have h0 : ∃ r, x 4 = .float .f64 r ∧ IsQ r (mlB gr dt) := hR 4 (by kernel_rfl)
      have h5 : ∃ r, x 11 = .float .f64 r ∧ IsC r (sbB lv ll) := hR 11 (by kernel_rfl)
      obtain ⟨r1, e1, i1⟩ := h0
      obtain ⟨rd, e2, i2⟩ := h5
      obtain ⟨r, k, hr, hi⟩ := mul_o (P := Tryz.prog) v r1 rd i1.1 i2.1
      have HP := hid (pu_o HB.out.2.1 HB.out.1 HB.out.2.2.2.1 HB.out.2.2.2.2.1 HB.out.2.2.2.2.2 i1 i2 hi)
      have HL := hid hi.1
      clear i1 i2 hi
      clear hR
      intro K hK
      simp only [putAll, Act.put, List.setIfInBounds_toArray, List.set_cons_zero, List.set_cons_succ, Nat.reduceAdd, Nat.zero_add] at hK ⊢
      simp only [e1, e2] at hK ⊢
      go_simp
      exact hK.out _ _ ⟨r, rfl, HL.out, HP.out⟩ (Ab.drewN hC k)
    refine Rl.rel_cons 14 (fun v => v = .pointer (some ⟨ge, 6, none⟩)) rfl rfl ?_ ?_
    · intro x v hC hR
      clear hR
      intro K hK
      simp only [putAll, Act.put, List.setIfInBounds_toArray, List.set_cons_zero, List.set_cons_succ, Nat.reduceAdd, Nat.zero_add] at hK ⊢
      go_simp
      exact hK.out _ _ rfl hC
    refine Rl.rel_cons 15 (fun v => v = .float .f64 gap) rfl rfl ?_ ?_
    · intro x v hC hR
      have h0 : x 13 = .pointer (some ⟨ge, 6, none⟩) := hR 13 (by kernel_rfl)
      have y0 := cell_of_row _ _ 6 _ _ _ (hC.heap RE.out)
      clear hR
      intro K hK
      simp only [putAll, Act.put, List.setIfInBounds_toArray, List.set_cons_zero, List.set_cons_succ, Nat.reduceAdd, Nat.zero_add] at hK ⊢
      simp only [h0] at hK ⊢
      go_simp
      exact hK.out _ _ rfl hC
    refine Rl.rel_cons 16 (fun v => ∃ r, v = .float .f64 r ∧ IsC r (puB gr dt ll lv gap)) rfl rfl ?_ ?_
    · intro x v hC hR
      have h0 : ∃ r, x 12 = .float .f64 r ∧ r < 18446744073709551616 ∧ dvB r gap = puB gr dt ll lv gap := hR 12 (by kernel_rfl)
      have h5 : x 14 = .float .f64 gap := hR 14 (by kernel_rfl)
      obtain ⟨r1, e1, i1, i2⟩ := h0
      obtain ⟨r, k, hr, hi⟩ := div_any (P := Tryz.prog) v r1 gap
      rw [i2] at hi
      have HI := hid hi
      clear i1 i2 hi
      clear hR
      intro K hK
      simp only [putAll, Act.put, List.setIfInBounds_toArray, List.set_cons_zero, List.set_cons_succ, Nat.reduceAdd, Nat.zero_add] at hK ⊢
      simp only [e1, h5] at hK ⊢
      go_simp
      exact hK.out _ _ ⟨r, rfl, HI.out⟩ (Ab.drewN hC k)
    refine Rl.rel_cons 17 (fun v => ∃ r, v = .float .f64 r ∧ IsC r (puB gr dt ll lv gap)) rfl rfl ?_ ?_
    · intro x v hC hR
      have h0 : ∃ r, x 15 = .float .f64 r ∧ IsC r (puB gr dt ll lv gap) := hR 15 (by kernel_rfl)
      obtain ⟨r1, e1, i1⟩ := h0
      have HI := hid i1
      clear i1
      clear hR
      intro K hK
      simp only [putAll, Act.put, List.setIfInBounds_toArray, List.set_cons_zero, List.set_cons_succ, Nat.reduceAdd, Nat.zero_add] at hK ⊢
      simp only [e1] at hK ⊢
      go_simp
      exact hK.out _ _ ⟨r1, rfl, HI.out⟩ hC
    exact Rl.rel_nil
  · intro x z hz hR
    have h0 : ∃ r, x 16 = .float .f64 r ∧ IsC r (puB gr dt ll lv gap) := hR 16 (by decide)
    clear hR
    obtain ⟨r3, e3, i3⟩ := h0
    have y7 := cell_of_row _ _ 7 _ _ _ (Ab.heap hz RE.out)
    obtain ⟨r, k, hr, hi⟩ := sub_o (P := Tryz.prog) z vu r3 HB.out.2.2.1 i3.1
    rw [u1_o HB.out.2.2.1 i3] at hi
    have HI := hid hi
    have WZ : Hid (Ab w z) := W_W0.out.trans hz
    clear hi i3 hz
    simp only [putAll, Act.put, List.setIfInBounds_toArray, List.set_cons_zero, List.set_cons_succ, Nat.reduceAdd, Nat.zero_add]
    go_wp2
    go_ret
    exact ⟨⟨r, rfl, HI.out⟩, Ab.drewN WZ.out k⟩
set_option maxRecDepth 100000 in
set_option maxHeartbeats 8000000 in
theorem dragged_no (sd : Int) (dt gr dr : Nat) (lim : Int) (rv : Bool) (pr : Option Addr) (lr cr : Nat) (u h : Nat) (w : World) (q : fgt h 0 = false) : Calls Tryz.prog 21 #[.agg #[.int .i64 sd, .float .f64 dt, .float .f64 gr, .float .f64 dr, .int .i64 lim, .bool rv, .slice pr lr cr], .float .f64 u, .float .f64 h] w fun e w' => e = .returned (.float .f64 0) ∧ Below w.heap.size w w' := by
  have A0 : Hid (Ab w (w.alloc (.cells #[.int .i64 sd, .float .f64 dt, .float .f64 gr, .float .f64 dr, .int .i64 lim, .bool rv, .slice pr lr cr] 25))) := bl1 _ _
  go_enter Tryz.func21, Tryz.ntmps21
  go_wp2
  go_ret
  exact ⟨rfl, A0.out⟩
set_option maxRecDepth 100000 in
set_option maxHeartbeats 8000000 in
theorem dragged_yes (sd : Int) (dt gr dr : Nat) (lim : Int) (rv : Bool) (pr : Option Addr) (lr cr : Nat) (u h vu ll lv dl dv gap : Nat) (w : World) (ht : dt < 18446744073709551616) (hD : dr < 18446744073709551616) (hL : h < 18446744073709551616) (i4 : IsC u (u1B gr dt vu ll lv gap)) (hh : h = hB dl dv) (q : fgt h 0 = true) : Calls Tryz.prog 21 #[.agg #[.int .i64 sd, .float .f64 dt, .float .f64 gr, .float .f64 dr, .int .i64 lim, .bool rv, .slice pr lr cr], .float .f64 u, .float .f64 h] w fun e w' => e = .returned (.float .f64 (spB gr dt dr vu ll lv dl dv gap)) ∧ Below w.heap.size w w' := by
  have I4 := hid i4
  have AB := hid (fun v => abs_any u v i4.1)
  have HH := hid (And.intro hh q)
  have HB := hid (And.intro ht (And.intro hD hL))
  clear i4 hh ht hD hL
  obtain ⟨y, hy⟩ : ∃ y, spB gr dt dr vu ll lv dl dv gap = y := ⟨_, rfl⟩
  rw [hy]
  have HY := hid hy
  clear hy
  have W_W0 : Hid (Ab w (w.alloc (.cells #[.int .i64 sd, .float .f64 dt, .float .f64 gr, .float .f64 dr, .int .i64 lim, .bool rv, .slice pr lr cr] 25))) := bl1 _ _
  have RP : Hid ((w.alloc (.cells #[.int .i64 sd, .float .f64 dt, .float .f64 gr, .float .f64 dr, .int .i64 lim, .bool rv, .slice pr lr cr] 25)).heap[w.heap.size]? = some (.cells #[.int .i64 sd, .float .f64 dt, .float .f64 gr, .float .f64 dr, .int .i64 lim, .bool rv, .slice pr lr cr] 25)) := heap_alloc_new _ _
  go_enter Tryz.func21, Tryz.ntmps21
  go_upto_region 2 with fail
  generalize hW : World.alloc w _ = W0 at *
  obtain ⟨gp, hgp⟩ : ∃ g, w.heap.size = g := ⟨_, rfl⟩
  rw [hgp] at RP ⊢
  clear hgp hW q
  refine Rl.region_rel (fun i v => match i with
      | 0 => v = .float .f64 u
      | 1 => v = .pointer (some ⟨gp, 3, none⟩)
      | 2 => v = .float .f64 dr
      | 3 => v = .pointer (some ⟨gp, 1, none⟩)
      | 4 => v = .float .f64 dt
      | 5 => ∃ r, v = .float .f64 r ∧ IsQ r (mlB dr dt)
      | 6 => v = .float .f64 u
      | 7 => v = .float .f64 (mg u)
      | 8 => ∃ r, v = .float .f64 r ∧ r < 18446744073709551616 ∧ dvB r h = dvB (mlB (mlB dr dt) (mg (u1B gr dt vu ll lv gap))) h
      | 9 => v = .float .f64 h
      | 10 => ∃ r, v = .float .f64 r ∧ IsC r (dvB (mlB (mlB dr dt) (mg (u1B gr dt vu ll lv gap))) h)
      | 11 => ∃ r9 r8, v = .float .f64 r9 ∧ r9 < 18446744073709551616 ∧ IsC r8 (dvB (mlB (mlB dr dt) (mg (u1B gr dt vu ll lv gap))) h) ∧ (Ieee.double.add 4607182418800017408 r8 = some r9 ∨ (Ieee.double.add 4607182418800017408 r8 = none ∧ isN r9 = true))
      | 12 => ∃ r, v = .float .f64 r ∧ r < 18446744073709551616 ∧ cuB r = spB gr dt dr vu ll lv dl dv gap
      | 13 => v = .float .f64 y
      | _ => v = .float .f64 y) (fun w9 => Ab W0 w9) (by kernel_rfl) (by kernel_rfl) (by kernel_rfl) (Ab.refl W0).drew ?_ ?_
  · refine Rl.rel_cons 1 (fun v => v = .float .f64 u) rfl rfl ?_ ?_
    · intro x v hC hR
      clear hR
      intro K hK
      simp only [putAll, Act.put, List.setIfInBounds_toArray, List.set_cons_zero, List.set_cons_succ, Nat.reduceAdd, Nat.zero_add] at hK ⊢
      go_simp
      exact hK.out _ _ rfl hC
    refine Rl.rel_cons 2 (fun v => v = .pointer (some ⟨gp, 3, none⟩)) rfl rfl ?_ ?_
    · intro x v hC hR
      clear hR
      intro K hK
      simp only [putAll, Act.put, List.setIfInBounds_toArray, List.set_cons_zero, List.set_cons_succ, Nat.reduceAdd, Nat.zero_add] at hK ⊢
      go_simp
      exact hK.out _ _ rfl hC
    refine Rl.rel_cons 3 (fun v => v = .float .f64 dr) rfl rfl ?_ ?_
    · intro x v hC hR
      have h0 : x 1 = .pointer (some ⟨gp, 3, none⟩) := hR 1 (by kernel_rfl)
      have y0 := cell_of_row _ _ 3 _ _ _ (hC.heap RP.out)
      clear hR
      intro K hK
      simp only [putAll, Act.put, List.setIfInBounds_toArray, List.set_cons_zero, List.set_cons_succ, Nat.reduceAdd, Nat.zero_add] at hK ⊢
      simp only [h0] at hK ⊢
      go_simp
      exact hK.out _ _ rfl hC
    refine Rl.rel_cons 4 (fun v => v = .pointer (some ⟨gp, 1, none⟩)) rfl rfl ?_ ?_
    · intro x v hC hR
      clear hR
      intro K hK
      simp only [putAll, Act.put, List.setIfInBounds_toArray, List.set_cons_zero, List.set_cons_succ, Nat.reduceAdd, Nat.zero_add] at hK ⊢
      go_simp
      exact hK.out _ _ rfl hC
    refine Rl.rel_cons 5 (fun v => v = .float .f64 dt) rfl rfl ?_ ?_
    · intro x v hC hR
      have h0 : x 3 = .pointer (some ⟨gp, 1, none⟩) := hR 3 (by kernel_rfl)
      have y0 := cell_of_row _ _ 1 _ _ _ (hC.heap RP.out)
      clear hR
      intro K hK
      simp only [putAll, Act.put, List.setIfInBounds_toArray, List.set_cons_zero, List.set_cons_succ, Nat.reduceAdd, Nat.zero_add] at hK ⊢
      simp only [h0] at hK ⊢
      go_simp
      exact hK.out _ _ rfl hC
    refine Rl.rel_cons 6 (fun v => ∃ r, v = .float .f64 r ∧ IsQ r (mlB dr dt)) rfl rfl ?_ ?_
    · intro x v hC hR
      have h0 : x 2 = .float .f64 dr := hR 2 (by kernel_rfl)
      have h1 : x 4 = .float .f64 dt := hR 4 (by kernel_rfl)
      obtain ⟨r, k, hr, hi⟩ := mul_o (P := Tryz.prog) v dr dt HB.out.2.1 HB.out.1
      have HI := hid hi
      clear hi
      clear hR
      intro K hK
      simp only [putAll, Act.put, List.setIfInBounds_toArray, List.set_cons_zero, List.set_cons_succ, Nat.reduceAdd, Nat.zero_add] at hK ⊢
      simp only [h0, h1] at hK ⊢
      go_simp
      exact hK.out _ _ ⟨r, rfl, HI.out⟩ (Ab.drewN hC k)
    refine Rl.rel_cons 7 (fun v => v = .float .f64 u) rfl rfl ?_ ?_
    · intro x v hC hR
      clear hR
      intro K hK
      simp only [putAll, Act.put, List.setIfInBounds_toArray, List.set_cons_zero, List.set_cons_succ, Nat.reduceAdd, Nat.zero_add] at hK ⊢
      go_simp
      exact hK.out _ _ rfl hC
    refine Rl.rel_cons 8 (fun v => v = .float .f64 (mg u)) rfl rfl ?_ ?_
    · intro x v hC hR
      have h0 : x 6 = .float .f64 u := hR 6 (by kernel_rfl)
      clear hR
      intro K hK
      simp only [putAll, Act.put, List.setIfInBounds_toArray, List.set_cons_zero, List.set_cons_succ, Nat.reduceAdd, Nat.zero_add] at hK ⊢
      simp only [h0] at hK ⊢
      go_simp
      refine (AB.out _).mono ?_
      rintro e w8 ⟨rfl, hw8⟩
      have hw9 := hw8.symm
      subst hw9
      exact hK.out _ _ rfl hC
    refine Rl.rel_cons 9 (fun v => ∃ r, v = .float .f64 r ∧ r < 18446744073709551616 ∧ dvB r h = dvB (mlB (mlB dr dt) (mg (u1B gr dt vu ll lv gap))) h) rfl rfl ?_ ?_
    · intro x v hC hR
      have h0 : ∃ r, x 5 = .float .f64 r ∧ IsQ r (mlB dr dt) := hR 5 (by kernel_rfl)
      have h5 : x 7 = .float .f64 (mg u) := hR 7 (by kernel_rfl)
      obtain ⟨r1, e1, i1⟩ := h0
      obtain ⟨r, k, hr, hi⟩ := mul_o (P := Tryz.prog) v r1 (mg u) i1.1 (mg_lt64 u)
      have HP := hid (dg_o HB.out.2.1 HB.out.1 HB.out.2.2 i1 (mg_lt64 u) (mag_o I4.out) hi)
      have HL := hid hi.1
      clear i1 hi
      clear hR
      intro K hK
      simp only [putAll, Act.put, List.setIfInBounds_toArray, List.set_cons_zero, List.set_cons_succ, Nat.reduceAdd, Nat.zero_add] at hK ⊢
      simp only [e1, h5] at hK ⊢
      go_simp
      exact hK.out _ _ ⟨r, rfl, HL.out, HP.out⟩ (Ab.drewN hC k)
    refine Rl.rel_cons 10 (fun v => v = .float .f64 h) rfl rfl ?_ ?_
    · intro x v hC hR
      clear hR
      intro K hK
      simp only [putAll, Act.put, List.setIfInBounds_toArray, List.set_cons_zero, List.set_cons_succ, Nat.reduceAdd, Nat.zero_add] at hK ⊢
      go_simp
      exact hK.out _ _ rfl hC
    refine Rl.rel_cons 11 (fun v => ∃ r, v = .float .f64 r ∧ IsC r (dvB (mlB (mlB dr dt) (mg (u1B gr dt vu ll lv gap))) h)) rfl rfl ?_ ?_
    · intro x v hC hR
      have h0 : ∃ r, x 8 = .float .f64 r ∧ r < 18446744073709551616 ∧ dvB r h = dvB (mlB (mlB dr dt) (mg (u1B gr dt vu ll lv gap))) h := hR 8 (by kernel_rfl)
      have h5 : x 9 = .float .f64 h := hR 9 (by kernel_rfl)
      obtain ⟨r1, e1, i1, i2⟩ := h0
      obtain ⟨r, k, hr, hi⟩ := div_any (P := Tryz.prog) v r1 h
      rw [i2] at hi
      have HI := hid hi
      clear i1 i2 hi
      clear hR
      intro K hK
      simp only [putAll, Act.put, List.setIfInBounds_toArray, List.set_cons_zero, List.set_cons_succ, Nat.reduceAdd, Nat.zero_add] at hK ⊢
      simp only [e1, h5] at hK ⊢
      go_simp
      exact hK.out _ _ ⟨r, rfl, HI.out⟩ (Ab.drewN hC k)
    refine Rl.rel_cons 12 (fun v => ∃ r9 r8, v = .float .f64 r9 ∧ r9 < 18446744073709551616 ∧ IsC r8 (dvB (mlB (mlB dr dt) (mg (u1B gr dt vu ll lv gap))) h) ∧ (Ieee.double.add 4607182418800017408 r8 = some r9 ∨ (Ieee.double.add 4607182418800017408 r8 = none ∧ isN r9 = true))) rfl rfl ?_ ?_
    · intro x v hC hR
      have h0 : ∃ r, x 10 = .float .f64 r ∧ IsC r (dvB (mlB (mlB dr dt) (mg (u1B gr dt vu ll lv gap))) h) := hR 10 (by kernel_rfl)
      obtain ⟨r1, e1, i1⟩ := h0
      obtain ⟨r, k, hr, hi, hj⟩ := add_o (P := Tryz.prog) v 4607182418800017408 r1 (by decide) i1.1
      have HI := hid (And.intro hi.1 (And.intro i1 hj))
      clear i1 hi hj
      clear hR
      intro K hK
      simp only [putAll, Act.put, List.setIfInBounds_toArray, List.set_cons_zero, List.set_cons_succ, Nat.reduceAdd, Nat.zero_add] at hK ⊢
      simp only [e1] at hK ⊢
      go_simp
      exact hK.out _ _ ⟨r, r1, rfl, HI.out⟩ (Ab.drewN hC k)
    refine Rl.rel_cons 13 (fun v => ∃ r, v = .float .f64 r ∧ r < 18446744073709551616 ∧ cuB r = spB gr dt dr vu ll lv dl dv gap) rfl rfl ?_ ?_
    · intro x v hC hR
      have h5 : x 0 = .float .f64 u := hR 0 (by kernel_rfl)
      have h0 : ∃ r9 r8, x 11 = .float .f64 r9 ∧ r9 < 18446744073709551616 ∧ IsC r8 (dvB (mlB (mlB dr dt) (mg (u1B gr dt vu ll lv gap))) h) ∧ (Ieee.double.add 4607182418800017408 r8 = some r9 ∨ (Ieee.double.add 4607182418800017408 r8 = none ∧ isN r9 = true)) := hR 11 (by kernel_rfl)
      obtain ⟨r9, r8, e1, i9, i8, j9⟩ := h0
      obtain ⟨r, k, hr, hi⟩ := div_any (P := Tryz.prog) v u r9
      have HI := hid (And.intro hi.1 (sp_o (dl := dl) (dr := dv) I4.out HH.out.1 HH.out.2 i8 i9 j9 hi))
      clear i8 i9 j9 hi
      clear hR
      intro K hK
      simp only [putAll, Act.put, List.setIfInBounds_toArray, List.set_cons_zero, List.set_cons_succ, Nat.reduceAdd, Nat.zero_add] at hK ⊢
      simp only [h5, e1] at hK ⊢
      go_simp
      exact hK.out _ _ ⟨r, rfl, HI.out⟩ (Ab.drewN hC k)
    refine Rl.rel_cons 14 (fun v => v = .float .f64 y) rfl rfl ?_ ?_
    · intro x v hC hR
      have h0 : ∃ r, x 12 = .float .f64 r ∧ r < 18446744073709551616 ∧ cuB r = spB gr dt dr vu ll lv dl dv gap := hR 12 (by kernel_rfl)
      obtain ⟨r1, e1, i1, i2⟩ := h0
      have KP := hid (fun v9 => kept_at r1 v9 i1)
      rw [i2, HY.out] at KP
      clear i1 i2
      clear hR
      intro K hK
      simp only [putAll, Act.put, List.setIfInBounds_toArray, List.set_cons_zero, List.set_cons_succ, Nat.reduceAdd, Nat.zero_add] at hK ⊢
      simp only [e1] at hK ⊢
      go_simp
      refine (KP.out _).mono ?_
      rintro e w8 ⟨rfl, hw8⟩
      have hw9 := hw8.symm
      subst hw9
      exact hK.out _ _ rfl hC
    refine Rl.rel_cons 15 (fun v => v = .float .f64 y) rfl rfl ?_ ?_
    · intro x v hC hR
      have h0 : x 13 = .float .f64 y := hR 13 (by kernel_rfl)
      clear hR
      intro K hK
      simp only [putAll, Act.put, List.setIfInBounds_toArray, List.set_cons_zero, List.set_cons_succ, Nat.reduceAdd, Nat.zero_add] at hK ⊢
      simp only [h0] at hK ⊢
      go_simp
      exact hK.out _ _ rfl hC
    exact Rl.rel_nil
  · intro x z hz hR
    have h0 : x 14 = .float .f64 y := hR 14 (by decide)
    clear hR
    have WZ : Hid (Ab w z) := W_W0.out.trans hz
    clear hz
    simp only [putAll, Act.put, List.setIfInBounds_toArray, List.set_cons_zero, List.set_cons_succ, Nat.reduceAdd, Nat.zero_add, h0]
    go_wp2
    go_ret
    exact ⟨rfl, WZ.out⟩
end Fc
end Go.Proofs.YtgalgnjgpmcngaaGreatDoor
