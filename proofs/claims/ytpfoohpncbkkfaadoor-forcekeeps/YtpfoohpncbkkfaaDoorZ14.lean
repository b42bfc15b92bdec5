/-
  Some of the texts of this proof, one behind the other.
-/
import Derived.Deep.QuietTactic
import Derived.Test.YtpfoohpncbkkfaaDoorZ13
namespace Go.Proofs.YtpfoohpncbkkfaaDoor
open Go.RowKit Tf Cu Go.Deep
attribute [local go_sem] run_bits run_from raw_feq raw_fne raw_flt raw_fgt run_neg run_store_float
namespace Fc
/-- whether a cell is dry and stands too high -/
def shB (w1 : Int) (b1 l2 : Nat) : Bool := !decide (0 < w1) && (flt l2 b1 || feq l2 b1)
set_option maxRecDepth 100000 in
set_option maxHeartbeats 8000000 in
theorem wet_at (b : Nat) (wt ar : Int) (w : World) : Calls Tryd.prog 54 #[.agg #[.float .f64 b, .int .i64 wt, .int .i64 ar]] w fun e w' => e = .returned (.bool (decide (0 < wt))) ∧ Below w.heap.size w w' := by
  have A0 : Hid (Ab w (w.alloc (.cells #[.float .f64 b, .int .i64 wt, .int .i64 ar] 71))) := bl1 _ _
  go_enter Tryd.func54, Tryd.ntmps54
  go_wp2
  go_ret
  exact ⟨rfl, A0.out⟩
set_option maxRecDepth 100000 in
set_option maxHeartbeats 8000000 in
theorem clevel_at (b : Nat) (wt ar : Int) (w : World) (hb : b < 18446744073709551616) (h1 : wt ≤ 9223372036854775807) (h2 : ar ≤ 9223372036854775807) : Calls Tryd.prog 59 #[.agg #[.float .f64 b, .int .i64 wt, .int .i64 ar]] w fun e w' => e = .returned (.float .f64 (lvl b wt ar)) ∧ Below w.heap.size w w' := by
  have L := hid (fun v => level_at b wt ar v hb h1 h2)
  have A0 : Hid (Ab w (w.alloc (.cells #[.float .f64 b, .int .i64 wt, .int .i64 ar] 71))) := bl1 _ _
  clear hb h1 h2
  generalize lvl b wt ar = y at *
  go_enter Tryd.func59, Tryd.ntmps59
  go_wp2_with fail
  refine (L.out _).mono ?_
  rintro e w' ⟨rfl, k, rfl⟩
  go_wp2
  go_ret
  exact ⟨rfl, Ab.drewN A0.out k⟩
set_option maxRecDepth 100000 in
set_option maxHeartbeats 8000000 in
theorem cdepth_at (b : Nat) (wt ar : Int) (w : World) (h1 : wt ≤ 9223372036854775807) (h2 : ar ≤ 9223372036854775807) : Calls Tryd.prog 60 #[.agg #[.float .f64 b, .int .i64 wt, .int .i64 ar]] w fun e w' => e = .returned (.float .f64 (dpB wt ar)) ∧ Below w.heap.size w w' := by
  have L := hid (fun v => depth_at wt ar v h1 h2)
  have A0 : Hid (Ab w (w.alloc (.cells #[.float .f64 b, .int .i64 wt, .int .i64 ar] 71))) := bl1 _ _
  clear h1 h2
  generalize dpB wt ar = y at *
  go_enter Tryd.func60, Tryd.ntmps60
  go_wp2_with fail
  refine (L.out _).mono ?_
  rintro e w' ⟨rfl, k, rfl⟩
  go_wp2
  go_ret
  exact ⟨rfl, Ab.drewN A0.out k⟩
set_option maxRecDepth 100000 in
set_option maxHeartbeats 8000000 in
theorem shut_go (b1 b2 : Nat) (w1 a1 w2 a2 : Int) (l : Nat) (d q : Bool) (w : World) (hq : (d = true ∧ q = false) ∨ (d = false ∧ (flt l b1 || feq l b1) = q))
    (WT : Hid (∀ v, Calls Tryd.prog 54 #[.agg #[.float .f64 b1, .int .i64 w1, .int .i64 a1]] v fun e w' => e = .returned (.bool d) ∧ Below v.heap.size v w'))
    (LV : Hid (∀ v, Calls Tryd.prog 59 #[.agg #[.float .f64 b2, .int .i64 w2, .int .i64 a2]] v fun e w' => e = .returned (.float .f64 l) ∧ Below v.heap.size v w')) :
    Calls Tryd.prog 55 #[.agg #[.float .f64 b1, .int .i64 w1, .int .i64 a1], .agg #[.float .f64 b2, .int .i64 w2, .int .i64 a2]] w fun e w' => e = .returned (.bool q) ∧ Below w.heap.size w w' := by
  have W_W0 : Hid (Ab w ((w.alloc (.cells #[.float .f64 b1, .int .i64 w1, .int .i64 a1] 71)).alloc (.cells #[.float .f64 b2, .int .i64 w2, .int .i64 a2] 71))) := bl2 _ _ _
  have R1 : Hid (((w.alloc (.cells #[.float .f64 b1, .int .i64 w1, .int .i64 a1] 71)).alloc (.cells #[.float .f64 b2, .int .i64 w2, .int .i64 a2] 71)).heap[w.heap.size]? = some (.cells #[.float .f64 b1, .int .i64 w1, .int .i64 a1] 71)) := heap_alloc2_old _ _ _
  have R2 : Hid (((w.alloc (.cells #[.float .f64 b1, .int .i64 w1, .int .i64 a1] 71)).alloc (.cells #[.float .f64 b2, .int .i64 w2, .int .i64 a2] 71)).heap[w.heap.size + 1]? = some (.cells #[.float .f64 b2, .int .i64 w2, .int .i64 a2] 71)) := heap_alloc2_new _ _ _
  go_enter Tryd.func55, Tryd.ntmps55
  go_upto_region 1 with fail
  generalize hW : World.alloc (World.alloc w _) _ = W0 at *
  obtain ⟨g1, hg1⟩ : ∃ g, w.heap.size = g := ⟨_, rfl⟩
  obtain ⟨g2, hg2⟩ : ∃ g, w.heap.size + 1 = g := ⟨_, rfl⟩
  rw [hg2] at R2 ⊢
  rw [hg1] at R1 ⊢
  clear hg1 hg2 hW
  rcases hq with ⟨rfl, rfl⟩ | ⟨rfl, hq⟩
  · obtain ⟨UU, E, hF1, hF2⟩ := cls W0
    have HU := hid hF2
    have HU1 := hid hF1
    have HX : Hid (∀ u, Ab w (E u)) := fun u => W_W0.out.trans (hF1 u)
    have x0 : ∀ u, (E u).cell? ⟨g1, 0, none⟩ = some (.float .f64 b1) := fun u => cell_of_row _ _ 0 _ _ _ ((hF1 u).heap R1.out)
    have x1 : ∀ u, (E u).cell? ⟨g1, 1, none⟩ = some (.int .i64 w1) := fun u => cell_of_row _ _ 1 _ _ _ ((hF1 u).heap R1.out)
    have x2 : ∀ u, (E u).cell? ⟨g1, 2, none⟩ = some (.int .i64 a1) := fun u => cell_of_row _ _ 2 _ _ _ ((hF1 u).heap R1.out)
    have y0 : ∀ u, (E u).cell? ⟨g2, 0, none⟩ = some (.float .f64 b2) := fun u => cell_of_row _ _ 0 _ _ _ ((hF1 u).heap R2.out)
    have y1 : ∀ u, (E u).cell? ⟨g2, 1, none⟩ = some (.int .i64 w2) := fun u => cell_of_row _ _ 1 _ _ _ ((hF1 u).heap R2.out)
    have y2 : ∀ u, (E u).cell? ⟨g2, 2, none⟩ = some (.int .i64 a2) := fun u => cell_of_row _ _ 2 _ _ _ ((hF1 u).heap R2.out)
    have DD0 := HU.out _ (Ab.refl W0).drew
    clear hF1 hF2
    refine region_cls E (by kernel_rfl) (by kernel_rfl) DD0 ?_
    repeat (go_big_quiet_step (first
      | (with_reducible rfl)
      | (go_at_call 54; exact calls_cls HU HU1 (WT.out _))
      | (go_at_call 59; exact calls_cls HU HU1 (LV.out _))))
    refine wpQuiet_nil ?_
    intro z hwz
    obtain ⟨u0, hu⟩ := hwz
    have AZ : Hid (Ab W0 z) := by rw [hu]; exact HU1.out u0
    clear hu u0
    clear HU HU1 DD0 HX x0 x1 x2 y0 y1 y2
    clear E UU
    have W_z : Hid (Ab w z) := W_W0.out.trans AZ.out
    go_wp2
    go_ret
    exact ⟨rfl, W_z.out⟩
  · obtain ⟨UU, E, hF1, hF2⟩ := cls W0
    have HU := hid hF2
    have HU1 := hid hF1
    have HX : Hid (∀ u, Ab w (E u)) := fun u => W_W0.out.trans (hF1 u)
    have x0 : ∀ u, (E u).cell? ⟨g1, 0, none⟩ = some (.float .f64 b1) := fun u => cell_of_row _ _ 0 _ _ _ ((hF1 u).heap R1.out)
    have x1 : ∀ u, (E u).cell? ⟨g1, 1, none⟩ = some (.int .i64 w1) := fun u => cell_of_row _ _ 1 _ _ _ ((hF1 u).heap R1.out)
    have x2 : ∀ u, (E u).cell? ⟨g1, 2, none⟩ = some (.int .i64 a1) := fun u => cell_of_row _ _ 2 _ _ _ ((hF1 u).heap R1.out)
    have y0 : ∀ u, (E u).cell? ⟨g2, 0, none⟩ = some (.float .f64 b2) := fun u => cell_of_row _ _ 0 _ _ _ ((hF1 u).heap R2.out)
    have y1 : ∀ u, (E u).cell? ⟨g2, 1, none⟩ = some (.int .i64 w2) := fun u => cell_of_row _ _ 1 _ _ _ ((hF1 u).heap R2.out)
    have y2 : ∀ u, (E u).cell? ⟨g2, 2, none⟩ = some (.int .i64 a2) := fun u => cell_of_row _ _ 2 _ _ _ ((hF1 u).heap R2.out)
    have DD0 := HU.out _ (Ab.refl W0).drew
    clear hF1 hF2
    refine region_cls E (by kernel_rfl) (by kernel_rfl) DD0 ?_
    repeat (go_big_quiet_step (first
      | (with_reducible rfl)
      | (go_at_call 54; exact calls_cls HU HU1 (WT.out _))
      | (go_at_call 59; exact calls_cls HU HU1 (LV.out _))))
    refine wpQuiet_nil ?_
    intro z hwz
    obtain ⟨u0, hu⟩ := hwz
    have AZ : Hid (Ab W0 z) := by rw [hu]; exact HU1.out u0
    clear hu u0
    clear HU HU1 DD0 HX x0 x1 x2 y0 y1 y2
    clear E UU
    have W_z : Hid (Ab w z) := W_W0.out.trans AZ.out
    go_wp2
    go_ret
    exact ⟨rfl, W_z.out⟩
theorem shut_at (b1 b2 : Nat) (w1 a1 w2 a2 : Int) (w : World) (h1 : b2 < 18446744073709551616) (h2 : w2 ≤ 9223372036854775807) (h3 : a2 ≤ 9223372036854775807) : Calls Tryd.prog 55 #[.agg #[.float .f64 b1, .int .i64 w1, .int .i64 a1], .agg #[.float .f64 b2, .int .i64 w2, .int .i64 a2]] w fun e w' => e = .returned (.bool (shB w1 b1 (lvl b2 w2 a2))) ∧ Below w.heap.size w w' := by
  refine shut_go b1 b2 w1 a1 w2 a2 (lvl b2 w2 a2) (decide (0 < w1)) _ w ?_ (fun v => wet_at b1 w1 a1 v) (fun v => clevel_at b2 w2 a2 v h1 h2 h3)
  unfold shB
  cases decide (0 < w1)
  · right; exact ⟨rfl, by simp⟩
  · left; exact ⟨rfl, by simp⟩
set_option maxRecDepth 100000 in
set_option maxHeartbeats 8000000 in
theorem eopen_go (bl br gap vu : Nat) (wl al wr ar : Int) (dl dr s1 s2 q : Bool) (w : World) (hq : (dl = false ∧ dr = false ∧ q = false) ∨ (dl = false ∧ dr = true ∧ s1 = true ∧ q = false) ∨ (dl = false ∧ dr = true ∧ s1 = false ∧ q = !s2) ∨ (dl = true ∧ s1 = true ∧ q = false) ∨ (dl = true ∧ s1 = false ∧ q = !s2))
    (WL : Hid (∀ v, Calls Tryd.prog 54 #[.agg #[.float .f64 bl, .int .i64 wl, .int .i64 al]] v fun e w' => e = .returned (.bool dl) ∧ Below v.heap.size v w'))
    (WR : Hid (∀ v, Calls Tryd.prog 54 #[.agg #[.float .f64 br, .int .i64 wr, .int .i64 ar]] v fun e w' => e = .returned (.bool dr) ∧ Below v.heap.size v w'))
    (SL : Hid (∀ v, Calls Tryd.prog 55 #[.agg #[.float .f64 bl, .int .i64 wl, .int .i64 al], .agg #[.float .f64 br, .int .i64 wr, .int .i64 ar]] v fun e w' => e = .returned (.bool s1) ∧ Below v.heap.size v w'))
    (SR : Hid (∀ v, Calls Tryd.prog 55 #[.agg #[.float .f64 br, .int .i64 wr, .int .i64 ar], .agg #[.float .f64 bl, .int .i64 wl, .int .i64 al]] v fun e w' => e = .returned (.bool s2) ∧ Below v.heap.size v w')) :
    Calls Tryd.prog 34 #[.agg #[.float .f64 bl, .int .i64 wl, .int .i64 al, .float .f64 br, .int .i64 wr, .int .i64 ar, .float .f64 gap, .float .f64 vu]] w fun e w' => e = .returned (.bool q) ∧ Below w.heap.size w w' := by
  have W_W0 : Hid (Ab w (w.alloc (.cells #[.float .f64 bl, .int .i64 wl, .int .i64 al, .float .f64 br, .int .i64 wr, .int .i64 ar, .float .f64 gap, .float .f64 vu] 73))) := bl1 _ _
  have R0 : Hid ((w.alloc (.cells #[.float .f64 bl, .int .i64 wl, .int .i64 al, .float .f64 br, .int .i64 wr, .int .i64 ar, .float .f64 gap, .float .f64 vu] 73)).heap[w.heap.size]? = some (.cells #[.float .f64 bl, .int .i64 wl, .int .i64 al, .float .f64 br, .int .i64 wr, .int .i64 ar, .float .f64 gap, .float .f64 vu] 73)) := heap_alloc_new _ _
  go_enter Tryd.func34, Tryd.ntmps34
  go_upto_region 1 with fail
  generalize hW : World.alloc w _ = W0 at *
  obtain ⟨g1, hg1⟩ : ∃ g, w.heap.size = g := ⟨_, rfl⟩
  rw [hg1] at R0 ⊢
  clear hg1 hW
  have R_W0 := R0
  clear R0
  rcases hq with ⟨rfl, rfl, rfl⟩ | ⟨rfl, rfl, rfl, rfl⟩ | ⟨rfl, rfl, rfl, rfl⟩ | ⟨rfl, rfl, rfl⟩ | ⟨rfl, rfl, rfl⟩
  · have c0 := cell_of_row _ _ 0 _ _ _ R_W0.out
    have c1 := cell_of_row _ _ 1 _ _ _ R_W0.out
    have c2 := cell_of_row _ _ 2 _ _ _ R_W0.out
    have c3 := cell_of_row _ _ 3 _ _ _ R_W0.out
    have c4 := cell_of_row _ _ 4 _ _ _ R_W0.out
    have c5 := cell_of_row _ _ 5 _ _ _ R_W0.out
    go_wp2_with fail
    refine (WL.out _).mono ?_
    rintro e9 v0 ⟨rfl, k1⟩
    have W_v0 : Hid (Ab w v0) := W_W0.out.call k1
    have R_v0 := hid (Ab.heap k1 R_W0.out)
    clear k1 c0 c1 c2 c3 c4 c5 W_W0 R_W0
    have c0 := cell_of_row _ _ 0 _ _ _ R_v0.out
    have c1 := cell_of_row _ _ 1 _ _ _ R_v0.out
    have c2 := cell_of_row _ _ 2 _ _ _ R_v0.out
    have c3 := cell_of_row _ _ 3 _ _ _ R_v0.out
    have c4 := cell_of_row _ _ 4 _ _ _ R_v0.out
    have c5 := cell_of_row _ _ 5 _ _ _ R_v0.out
    go_wp2_with fail
    refine (WR.out _).mono ?_
    rintro e9 v1 ⟨rfl, k1⟩
    have W_v1 : Hid (Ab w v1) := W_v0.out.call k1
    have R_v1 := hid (Ab.heap k1 R_v0.out)
    clear k1 c0 c1 c2 c3 c4 c5 W_v0 R_v0
    go_wp2
    go_ret
    exact ⟨rfl, W_v1.out⟩
  · have c0 := cell_of_row _ _ 0 _ _ _ R_W0.out
    have c1 := cell_of_row _ _ 1 _ _ _ R_W0.out
    have c2 := cell_of_row _ _ 2 _ _ _ R_W0.out
    have c3 := cell_of_row _ _ 3 _ _ _ R_W0.out
    have c4 := cell_of_row _ _ 4 _ _ _ R_W0.out
    have c5 := cell_of_row _ _ 5 _ _ _ R_W0.out
    go_wp2_with fail
    refine (WL.out _).mono ?_
    rintro e9 v0 ⟨rfl, k1⟩
    have W_v0 : Hid (Ab w v0) := W_W0.out.call k1
    have R_v0 := hid (Ab.heap k1 R_W0.out)
    clear k1 c0 c1 c2 c3 c4 c5 W_W0 R_W0
    have c0 := cell_of_row _ _ 0 _ _ _ R_v0.out
    have c1 := cell_of_row _ _ 1 _ _ _ R_v0.out
    have c2 := cell_of_row _ _ 2 _ _ _ R_v0.out
    have c3 := cell_of_row _ _ 3 _ _ _ R_v0.out
    have c4 := cell_of_row _ _ 4 _ _ _ R_v0.out
    have c5 := cell_of_row _ _ 5 _ _ _ R_v0.out
    go_wp2_with fail
    refine (WR.out _).mono ?_
    rintro e9 v1 ⟨rfl, k1⟩
    have W_v1 : Hid (Ab w v1) := W_v0.out.call k1
    have R_v1 := hid (Ab.heap k1 R_v0.out)
    clear k1 c0 c1 c2 c3 c4 c5 W_v0 R_v0
    have c0 := cell_of_row _ _ 0 _ _ _ R_v1.out
    have c1 := cell_of_row _ _ 1 _ _ _ R_v1.out
    have c2 := cell_of_row _ _ 2 _ _ _ R_v1.out
    have c3 := cell_of_row _ _ 3 _ _ _ R_v1.out
    have c4 := cell_of_row _ _ 4 _ _ _ R_v1.out
    have c5 := cell_of_row _ _ 5 _ _ _ R_v1.out
    go_wp2_with fail
    refine (SL.out _).mono ?_
    rintro e9 v2 ⟨rfl, k1⟩
    have W_v2 : Hid (Ab w v2) := W_v1.out.call k1
    have R_v2 := hid (Ab.heap k1 R_v1.out)
    clear k1 c0 c1 c2 c3 c4 c5 W_v1 R_v1
    go_wp2
    go_ret
    exact ⟨rfl, W_v2.out⟩
  · have c0 := cell_of_row _ _ 0 _ _ _ R_W0.out
    have c1 := cell_of_row _ _ 1 _ _ _ R_W0.out
    have c2 := cell_of_row _ _ 2 _ _ _ R_W0.out
    have c3 := cell_of_row _ _ 3 _ _ _ R_W0.out
    have c4 := cell_of_row _ _ 4 _ _ _ R_W0.out
    have c5 := cell_of_row _ _ 5 _ _ _ R_W0.out
    go_wp2_with fail
    refine (WL.out _).mono ?_
    rintro e9 v0 ⟨rfl, k1⟩
    have W_v0 : Hid (Ab w v0) := W_W0.out.call k1
    have R_v0 := hid (Ab.heap k1 R_W0.out)
    clear k1 c0 c1 c2 c3 c4 c5 W_W0 R_W0
    have c0 := cell_of_row _ _ 0 _ _ _ R_v0.out
    have c1 := cell_of_row _ _ 1 _ _ _ R_v0.out
    have c2 := cell_of_row _ _ 2 _ _ _ R_v0.out
    have c3 := cell_of_row _ _ 3 _ _ _ R_v0.out
    have c4 := cell_of_row _ _ 4 _ _ _ R_v0.out
    have c5 := cell_of_row _ _ 5 _ _ _ R_v0.out
    go_wp2_with fail
    refine (WR.out _).mono ?_
    rintro e9 v1 ⟨rfl, k1⟩
    have W_v1 : Hid (Ab w v1) := W_v0.out.call k1
    have R_v1 := hid (Ab.heap k1 R_v0.out)
    clear k1 c0 c1 c2 c3 c4 c5 W_v0 R_v0
    have c0 := cell_of_row _ _ 0 _ _ _ R_v1.out
    have c1 := cell_of_row _ _ 1 _ _ _ R_v1.out
    have c2 := cell_of_row _ _ 2 _ _ _ R_v1.out
    have c3 := cell_of_row _ _ 3 _ _ _ R_v1.out
    have c4 := cell_of_row _ _ 4 _ _ _ R_v1.out
    have c5 := cell_of_row _ _ 5 _ _ _ R_v1.out
    go_wp2_with fail
    refine (SL.out _).mono ?_
    rintro e9 v2 ⟨rfl, k1⟩
    have W_v2 : Hid (Ab w v2) := W_v1.out.call k1
    have R_v2 := hid (Ab.heap k1 R_v1.out)
    clear k1 c0 c1 c2 c3 c4 c5 W_v1 R_v1
    have c0 := cell_of_row _ _ 0 _ _ _ R_v2.out
    have c1 := cell_of_row _ _ 1 _ _ _ R_v2.out
    have c2 := cell_of_row _ _ 2 _ _ _ R_v2.out
    have c3 := cell_of_row _ _ 3 _ _ _ R_v2.out
    have c4 := cell_of_row _ _ 4 _ _ _ R_v2.out
    have c5 := cell_of_row _ _ 5 _ _ _ R_v2.out
    go_wp2_with fail
    refine (SR.out _).mono ?_
    rintro e9 v3 ⟨rfl, k1⟩
    have W_v3 : Hid (Ab w v3) := W_v2.out.call k1
    have R_v3 := hid (Ab.heap k1 R_v2.out)
    clear k1 c0 c1 c2 c3 c4 c5 W_v2 R_v2
    go_wp2
    go_ret
    exact ⟨rfl, W_v3.out⟩
  · have c0 := cell_of_row _ _ 0 _ _ _ R_W0.out
    have c1 := cell_of_row _ _ 1 _ _ _ R_W0.out
    have c2 := cell_of_row _ _ 2 _ _ _ R_W0.out
    have c3 := cell_of_row _ _ 3 _ _ _ R_W0.out
    have c4 := cell_of_row _ _ 4 _ _ _ R_W0.out
    have c5 := cell_of_row _ _ 5 _ _ _ R_W0.out
    go_wp2_with fail
    refine (WL.out _).mono ?_
    rintro e9 v0 ⟨rfl, k1⟩
    have W_v0 : Hid (Ab w v0) := W_W0.out.call k1
    have R_v0 := hid (Ab.heap k1 R_W0.out)
    clear k1 c0 c1 c2 c3 c4 c5 W_W0 R_W0
    have c0 := cell_of_row _ _ 0 _ _ _ R_v0.out
    have c1 := cell_of_row _ _ 1 _ _ _ R_v0.out
    have c2 := cell_of_row _ _ 2 _ _ _ R_v0.out
    have c3 := cell_of_row _ _ 3 _ _ _ R_v0.out
    have c4 := cell_of_row _ _ 4 _ _ _ R_v0.out
    have c5 := cell_of_row _ _ 5 _ _ _ R_v0.out
    go_wp2_with fail
    refine (SL.out _).mono ?_
    rintro e9 v1 ⟨rfl, k1⟩
    have W_v1 : Hid (Ab w v1) := W_v0.out.call k1
    have R_v1 := hid (Ab.heap k1 R_v0.out)
    clear k1 c0 c1 c2 c3 c4 c5 W_v0 R_v0
    go_wp2
    go_ret
    exact ⟨rfl, W_v1.out⟩
  · have c0 := cell_of_row _ _ 0 _ _ _ R_W0.out
    have c1 := cell_of_row _ _ 1 _ _ _ R_W0.out
    have c2 := cell_of_row _ _ 2 _ _ _ R_W0.out
    have c3 := cell_of_row _ _ 3 _ _ _ R_W0.out
    have c4 := cell_of_row _ _ 4 _ _ _ R_W0.out
    have c5 := cell_of_row _ _ 5 _ _ _ R_W0.out
    go_wp2_with fail
    refine (WL.out _).mono ?_
    rintro e9 v0 ⟨rfl, k1⟩
    have W_v0 : Hid (Ab w v0) := W_W0.out.call k1
    have R_v0 := hid (Ab.heap k1 R_W0.out)
    clear k1 c0 c1 c2 c3 c4 c5 W_W0 R_W0
    have c0 := cell_of_row _ _ 0 _ _ _ R_v0.out
    have c1 := cell_of_row _ _ 1 _ _ _ R_v0.out
    have c2 := cell_of_row _ _ 2 _ _ _ R_v0.out
    have c3 := cell_of_row _ _ 3 _ _ _ R_v0.out
    have c4 := cell_of_row _ _ 4 _ _ _ R_v0.out
    have c5 := cell_of_row _ _ 5 _ _ _ R_v0.out
    go_wp2_with fail
    refine (SL.out _).mono ?_
    rintro e9 v1 ⟨rfl, k1⟩
    have W_v1 : Hid (Ab w v1) := W_v0.out.call k1
    have R_v1 := hid (Ab.heap k1 R_v0.out)
    clear k1 c0 c1 c2 c3 c4 c5 W_v0 R_v0
    have c0 := cell_of_row _ _ 0 _ _ _ R_v1.out
    have c1 := cell_of_row _ _ 1 _ _ _ R_v1.out
    have c2 := cell_of_row _ _ 2 _ _ _ R_v1.out
    have c3 := cell_of_row _ _ 3 _ _ _ R_v1.out
    have c4 := cell_of_row _ _ 4 _ _ _ R_v1.out
    have c5 := cell_of_row _ _ 5 _ _ _ R_v1.out
    go_wp2_with fail
    refine (SR.out _).mono ?_
    rintro e9 v2 ⟨rfl, k1⟩
    have W_v2 : Hid (Ab w v2) := W_v1.out.call k1
    have R_v2 := hid (Ab.heap k1 R_v1.out)
    clear k1 c0 c1 c2 c3 c4 c5 W_v1 R_v1
    go_wp2
    go_ret
    exact ⟨rfl, W_v2.out⟩
theorem eopen_at (bl br gap vu : Nat) (wl al wr ar : Int) (w : World) (h1 : bl < 18446744073709551616) (h2 : br < 18446744073709551616) (h3 : wl ≤ 9223372036854775807) (h4 : wr ≤ 9223372036854775807) (h5 : al ≤ 9223372036854775807) (h6 : ar ≤ 9223372036854775807) :
    Calls Tryd.prog 34 #[.agg #[.float .f64 bl, .int .i64 wl, .int .i64 al, .float .f64 br, .int .i64 wr, .int .i64 ar, .float .f64 gap, .float .f64 vu]] w fun e w' => e = .returned (.bool (opB wl wr (lvl bl wl al) (lvl br wr ar) bl br)) ∧ Below w.heap.size w w' := by
  refine eopen_go bl br gap vu wl al wr ar (decide (0 < wl)) (decide (0 < wr)) (shB wl bl (lvl br wr ar)) (shB wr br (lvl bl wl al)) _ w ?_ (fun v => wet_at bl wl al v) (fun v => wet_at br wr ar v) (fun v => shut_at bl br wl al wr ar v h2 h4 h6) (fun v => shut_at br bl wr ar wl al v h1 h3 h5)
  unfold opB shB
  generalize (flt (lvl br wr ar) bl || feq (lvl br wr ar) bl) = p
  generalize (flt (lvl bl wl al) br || feq (lvl bl wl al) br) = q
  cases decide (0 < wl) <;> cases decide (0 < wr) <;> cases p <;> cases q <;> decide
end Fc
end Go.Proofs.YtpfoohpncbkkfaaDoor

namespace Go.Proofs.YtpfoohpncbkkfaaDoor
open Go.RowKit Tf
theorem mlB_qq (a b : Nat) : mlB (qB a) (qB b) = mlB a b := by unfold mlB; rw [mul_ql, mul_qr]
end Go.Proofs.YtpfoohpncbkkfaaDoor

namespace Go.Proofs.YtpfoohpncbkkfaaDoor
open Go.RowKit Tf Cu Go.Deep
namespace Fc
theorem canon_qB {x : Nat} : canonB (qB x) = canonB x := by
  cases h : isN x
  · rw [qB_of h]
  · rw [qB_N h]
    have e : canonB x = quiet := by unfold canonB; rw [if_pos h]
    rw [e]
    decide
/-- one multiplication -/
theorem mul_o {P : Program} (w : World) (a b : Nat) (ha : a < 18446744073709551616) (hb : b < 18446744073709551616) : ∃ r n, (∀ t, (binOp .mul t (.float .f64 a) (.float .f64 b)).run P w = .ok (.float .f64 r) (w.drewN n)) ∧ IsQ r (mlB a b) := by
  obtain ⟨r, n, h1, h2⟩ := mul_any (P := P) w a (qB a) b (qB b) (IsQ.self ha) (IsQ.self hb)
  rw [mlB_qq] at h2
  exact ⟨r, n, h1, h2⟩
/-- one subtraction -/
theorem sub_o {P : Program} (w : World) (a b : Nat) (ha : a < 18446744073709551616) (hb : b < 18446744073709551616) : ∃ r n, (∀ t, (binOp .sub t (.float .f64 a) (.float .f64 b)).run P w = .ok (.float .f64 r) (w.drewN n)) ∧ IsC r (sbB a b) := by
  obtain ⟨r, n, h1, h2⟩ := sub_any (P := P) w a (qB a) b (qB b) (IsQ.self ha) (IsQ.self hb)
  rw [sbB_q hb] at h2
  exact ⟨r, n, h1, h2⟩
/-- a product's canonical form hangs on its factors' -/
theorem ml_can {a b c d : Nat} (ha : a < 18446744073709551616) (hb : b < 18446744073709551616) (hc : c < 18446744073709551616) (hd : d < 18446744073709551616) (h : canonB a = canonB c) (k : canonB b = canonB d) : canonB (mlB a b) = canonB (mlB c d) := by
  rw [← mlB_canon ha hb, h, mlB_canon hc hb, mlB_comm, ← mlB_canon hb hc, k, mlB_canon hd hc, mlB_comm]
theorem isQ_can {r q : Nat} (h : IsQ r q) : canonB r = canonB q := by rw [← h.2, canon_qB]
/-- the pull -/
theorem pu_o {G dt ll lr gap r1 rd r2 : Nat} (hG : G < 18446744073709551616) (ht : dt < 18446744073709551616) (h1 : ll < 18446744073709551616) (h2 : lr < 18446744073709551616) (hg : gap < 18446744073709551616) (i1 : IsQ r1 (mlB G dt)) (i2 : IsC rd (sbB lr ll)) (i3 : IsQ r2 (mlB r1 rd)) : dvB r2 gap = puB G dt ll lr gap := by
  have hd := sbB_lt h2 h1
  unfold puB
  rw [← dvB_cl i3.1 hg, ← dvB_cl (mlB_lt (mlB_lt hG ht) hd) hg, isQ_can i3, ml_can i1.1 i2.1 (mlB_lt hG ht) hd (isQ_can i1) (i2.2.trans (canon_sbB h2 h1).symm)]
/-- the speed, pulled -/
theorem u1_o {G dt u ll lr gap r3 : Nat} (hu : u < 18446744073709551616) (i : IsC r3 (puB G dt ll lr gap)) : sbB u r3 = u1B G dt u ll lr gap := by
  unfold u1B
  rw [← sbB_canon hu i.1, ← sbB_canon hu (puB_lt _ _ _ _ _), i.2]
  congr 1
  unfold puB
  exact (dvB_canon _ _).symm
/-- a comparison with nothing hangs on the canonical form -/
theorem fgt_can {x y : Nat} (hx : x < 18446744073709551616) (hy : y < 18446744073709551616) (h : canonB x = canonB y) : fgt x 0 = fgt y 0 ∧ (fgt x 0 = true → x = y) := by
  have r0 : rk 0 = 0 := by decide
  have n0 : isN 0 = false := by decide
  rw [fgt_rk x 0 hx (by decide), fgt_rk y 0 hy (by decide), r0, n0]
  rcases canon_cases hx with ⟨a, e⟩ | ⟨a, e⟩ | ⟨a, k, e⟩
  · rcases canon_cases hy with ⟨b, f⟩ | ⟨b, f⟩ | ⟨b, l, f⟩
    · rw [a, b]; simp
    · rw [e, f] at h; exact absurd h (by decide)
    · rw [e, f] at h; rw [← h] at b; exact absurd b (by decide)
  · have rx : rk x = 0 := by unfold rk; rw [a]; split <;> rfl
    rcases canon_cases hy with ⟨b, f⟩ | ⟨b, f⟩ | ⟨b, l, f⟩
    · rw [e, f] at h; exact absurd h (by decide)
    · have ry : rk y = 0 := by unfold rk; rw [b]; split <;> rfl
      rw [rx, ry]; simp
    · rw [e, f] at h; rw [← h] at l; exact absurd rfl l
  · rcases canon_cases hy with ⟨b, f⟩ | ⟨b, f⟩ | ⟨b, l, f⟩
    · rw [e, f] at h; rw [h] at a; exact absurd a (by decide)
    · rw [e, f] at h; rw [h] at k; exact absurd rfl k
    · rw [e, f] at h; subst h; simp
/-- the depth over the edge -/
theorem h_o {dl dr rs rh : Nat} (h1 : dl < 18446744073709551616) (h2 : dr < 18446744073709551616) (i1 : IsC rs (addB dl dr)) (i2 : IsQ rh (mlB 4602678819172646912 rs)) : fgt rh 0 = fgt (hB dl dr) 0 ∧ (fgt rh 0 = true → rh = hB dl dr) := by
  refine fgt_can i2.1 (hB_lt h1 h2) ?_
  unfold hB
  rw [isQ_can i2]
  refine ml_can (by decide) i1.1 (by decide) (addB_lt _ _ h1 h2) rfl ?_
  rw [i1.2]
  exact (canon_addB _ _ h1 h2).symm
/-- a magnitude -/
theorem mag_o {r x : Nat} (i : IsC r x) : canonB (mg r) = canonB (mg x) := by
  have hx : x < 18446744073709551616 := by rw [← i.2]; exact canonB_lt i.1
  rcases canon_cases i.1 with ⟨a, e⟩ | ⟨a, e⟩ | ⟨a, k, e⟩
  · have ex : x = quiet := by rw [← i.2, e]
    subst ex
    have n : isN (mg r) = true := by
      rw [isN_true] at a ⊢
      have : mg (mg r) = mg r := by unfold mg; omega
      rw [this]; exact a
    have c : canonB (mg r) = quiet := by unfold canonB; rw [if_pos n]
    rw [c]
    decide
  · have ex : x = 0 := by rw [← i.2, e]
    subst ex
    rw [a]
    rfl
  · have ex : x = r := by rw [← i.2, e]
    rw [ex]
/-- what the bed drags, over the depth -/
theorem dg_o {D dt u1 h r6 m r7 : Nat} (hD : D < 18446744073709551616) (ht : dt < 18446744073709551616) (hh : h < 18446744073709551616) (i6 : IsQ r6 (mlB D dt)) (hm : m < 18446744073709551616) (im : canonB m = canonB (mg u1)) (i7 : IsQ r7 (mlB r6 m)) : dvB r7 h = dvB (mlB (mlB D dt) (mg u1)) h := by
  have hu := mg_lt64 u1
  rw [← dvB_cl i7.1 hh, ← dvB_cl (mlB_lt (mlB_lt hD ht) hu) hh, isQ_can i7, ml_can i6.1 hm (mlB_lt hD ht) hu (isQ_can i6) im]
theorem add_can2 {a x y : Nat} (ha : a < 18446744073709551616) (hx : x < 18446744073709551616) (hy : y < 18446744073709551616) (h : canonB x = canonB y) : addB a x = addB a y := by
  have e : ∀ z, z < 18446744073709551616 → addB a z = sbB a (negB z) := fun z hz => by unfold sbB; rw [negB_negB' hz]
  have c : canonB (negB x) = canonB (negB y) := by
    have hx2 : IsC x (canonB x) := ⟨hx, rfl⟩
    have hy2 : IsC y (canonB x) := ⟨hy, h.symm⟩
    rw [cn_of hx2, cn_of hy2]
  rw [e x hx, e y hy, ← sbB_canon ha (negB_lt' hx), ← sbB_canon ha (negB_lt' hy), c]
/-- one and something is no nought with a sign -/
theorem one_nz {y z : Nat} (hy : y < 18446744073709551616) (e : Ieee.double.add 4607182418800017408 y = some z) : z ≠ 9223372036854775808 := by
  rcases three y with c | c | c
  · rw [add_d 4607182418800017408 y (by decide) hy (by decide) c] at e
    injection e with e
    rw [show (ng 4607182418800017408 && ng y) = false by rw [show ng 4607182418800017408 = false by decide]; rfl] at e
    rw [← e]
    generalize sv 4607182418800017408 + sv y = v
    by_cases z : v = 0
    · subst z; rw [rn_zero]; decide
    · intro q
      have h1 : mg (rn false v) = 0 := by rw [q]; decide
      rw [rn_mg] at h1
      have h2 : 1 ≤ rung 52 0 v.natAbs := by
        have e1 : mag 52 1 = 1 := by decide
        exact rung_ge (by omega) (by rw [Nat.pow_zero, Nat.mul_one, e1]; omega)
      generalize rung 52 0 v.natAbs = r at *
      omega
  · rw [add_fi 4607182418800017408 y hy (by decide) c] at e
    injection e with e
    rw [← e]
    cases ng y <;> decide
  · rw [add_nan 4607182418800017408 y (.inr c)] at e
    cases e
/-- a quotient by one and something -/
theorem dv_o {x y r9 : Nat} (hy : y < 18446744073709551616) (hr : r9 < 18446744073709551616) (e : Ieee.double.add 4607182418800017408 y = some r9 ∨ (Ieee.double.add 4607182418800017408 y = none ∧ isN r9 = true)) : dvB x r9 = dvB x (addB 4607182418800017408 y) := by
  rcases e with e | ⟨e, n⟩
  · rw [addB_some e]
    rcases canon_cases hr with ⟨a, c⟩ | ⟨a, c⟩ | ⟨a, k, c⟩
    · rw [c, dvB_nan' a, dvB_nan' (by decide)]
    · rcases zero_cases hr a with q | q
      · rw [q]; rfl
      · exact absurd q (one_nz hy e)
    · rw [c]
  · rw [addB_none e, dvB_nan' n, dvB_nan' (by decide)]
theorem cu_canon {x : Nat} (hx : x < 18446744073709551616) : cuB (canonB x) = cuB x := by
  rcases canon_cases hx with ⟨a, e⟩ | ⟨a, e⟩ | ⟨_, _, e⟩
  · rw [e]
    rcases cuB_cases hx with ⟨_, c⟩ | ⟨n, _⟩ | ⟨n, _⟩ | ⟨n, _⟩
    · rw [c]; decide
    · rw [a] at n; cases n
    · rw [a] at n; cases n
    · rw [a] at n; cases n
  · rw [e]
    rcases zero_cases hx a with rfl | rfl
    · rfl
    · decide
  · rw [e]
/-- one addition, told apart -/
theorem add_o {P : Program} (w : World) (a b : Nat) (ha : a < 18446744073709551616) (hb : b < 18446744073709551616) : ∃ r n, (∀ t, (binOp .add t (.float .f64 a) (.float .f64 b)).run P w = .ok (.float .f64 r) (w.drewN n)) ∧ IsC r (addB a b) ∧ (Ieee.double.add a b = some r ∨ (Ieee.double.add a b = none ∧ isN r = true)) := by
  cases e : Ieee.double.add a b with
  | none => exact ⟨nanOf w a b, 1, fun t => run_nan_add w t a b e, ⟨nanOf_lt _ _ _, by rw [addB_none e]; unfold canonB; rw [if_pos (isN_nanOf _ _ _)]⟩, .inr ⟨rfl, isN_nanOf _ _ _⟩⟩
  | some r => exact ⟨r, 0, fun t => run_float_arith w .add t .f64 a b r e, ⟨(IsQ.add (IsQ.self ha) (IsQ.self hb) e).1, by rw [addB_some e]⟩, .inl rfl⟩
/-- the speed behind a step, from its operations -/
theorem sp_o {G dt D u ll lr dl dr gap r4 r8 r9 r10 h : Nat} (i4 : IsC r4 (u1B G dt u ll lr gap)) (hh : h = hB dl dr) (q : fgt h 0 = true) (i8 : IsC r8 (dvB (mlB (mlB D dt) (mg (u1B G dt u ll lr gap))) h)) (h9 : r9 < 18446744073709551616) (e9 : Ieee.double.add 4607182418800017408 r8 = some r9 ∨ (Ieee.double.add 4607182418800017408 r8 = none ∧ isN r9 = true)) (i10 : IsC r10 (dvB r4 r9)) : cuB r10 = spB G dt D u ll lr dl dr gap := by
  have e1 : dvB r4 r9 = dvB (u1B G dt u ll lr gap) (drB D dt (u1B G dt u ll lr gap) h) := by
    rw [dv_o i8.1 h9 e9, ← dvB_cl i4.1 (addB_lt _ _ (by decide) i8.1), i4.2]
    unfold drB
    rw [add_can2 (by decide) i8.1 (dvB_lt _ _) (by rw [i8.2, dvB_canon])]
  have e2 : cuB r10 = cuB (dvB r4 r9) := by
    rw [← i10.2]
    exact (cu_canon i10.1).symm
  unfold spB
  rw [← hh, if_pos q, e2, e1]
end Fc
end Go.Proofs.YtpfoohpncbkkfaaDoor
