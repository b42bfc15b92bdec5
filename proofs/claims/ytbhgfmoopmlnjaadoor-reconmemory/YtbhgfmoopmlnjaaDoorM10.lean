/-
  Some of the texts of this proof, one behind the other.
-/
import Derived.Deep.QuietTactic
import Derived.Test.YtbhgfmoopmlnjaaDoorM09
namespace Go.Proofs.YtbhgfmoopmlnjaaDoor
open Go.RowKit Tf Cu
attribute [local go_sem] run_bits run_from raw_feq raw_fne raw_flt raw_fgt run_neg run_store_float
set_option maxRecDepth 100000 in
set_option maxHeartbeats 8000000 in
theorem fit12_at (gp : Value) (pb pw pt ps : Option Addr) (lb cb lw cw lt ct ls cs : Nat) (sky st : Int) (M : Nat) (q : Bool) (w : World)
    (hq : (((lb : Int) == (M : Int)) = false ∧ q = false) ∨ (((lb : Int) == (M : Int)) = true ∧ ((lw : Int) == (M : Int)) = q))
    (CC : Hid (∀ v, Ab w v → Calls Tryd.prog 7 #[gp] v fun e w' => e = .returned (.int .i64 (M : Nat)) ∧ Below v.heap.size v w')) :
    Calls Tryd.prog 17 #[gp, .agg #[.slice pb lb cb, .slice pw lw cw, .slice pt lt ct, .slice ps ls cs, .int .i64 sky, .int .i64 st]] w fun e w' => e = .returned (.bool q) ∧ Below w.heap.size w w' := by
  have A0 : Hid (Ab w (w.alloc (.cells #[.slice pb lb cb, .slice pw lw cw, .slice pt lt ct, .slice ps ls cs, .int .i64 sky, .int .i64 st] 25))) := bl1 _ _
  have RO : Hid ((w.alloc (.cells #[.slice pb lb cb, .slice pw lw cw, .slice pt lt ct, .slice ps ls cs, .int .i64 sky, .int .i64 st] 25)).heap[w.heap.size]? = some (.cells #[.slice pb lb cb, .slice pw lw cw, .slice pt lt ct, .slice ps ls cs, .int .i64 sky, .int .i64 st] 25)) := heap_alloc_new _ _
  go_enter Tryd.func17, Tryd.ntmps17
  go_upto_region 1 with fail
  generalize hW : World.alloc w _ = W at *
  obtain ⟨gs, hgs⟩ : ∃ g, w.heap.size = g := ⟨_, rfl⟩
  rw [hgs] at RO ⊢
  clear hgs hW
  rcases hq with ⟨q1, rfl⟩ | ⟨q1, q2⟩
  · obtain ⟨UU, E, hF1, hF2⟩ := cls W
    have HU := hid hF2
    have HU1 := hid hF1
    have HX : Hid (∀ u, Ab w (E u)) := fun u => Ab.trans A0.out (hF1 u)
    have x0 : ∀ u, (E u).cell? ⟨gs, 0, none⟩ = some (.slice pb lb cb) := fun u => cell_of_row _ _ 0 _ _ _ ((hF1 u).heap RO.out)
    have x1 : ∀ u, (E u).cell? ⟨gs, 1, none⟩ = some (.slice pw lw cw) := fun u => cell_of_row _ _ 1 _ _ _ ((hF1 u).heap RO.out)
    have DD0 := HU.out _ (Ab.refl W).drew
    clear hF1 hF2
    refine region_cls E (by kernel_rfl) (by kernel_rfl) DD0 ?_
    repeat (go_big_quiet_step (first
      | (with_reducible rfl)
      | (go_at_call 7; exact calls_cls HU HU1 (CC.out _ (HX.out _)))))
    refine wpQuiet_nil ?_
    intro z hwz
    obtain ⟨u0, hu⟩ := hwz
    have AZ : Hid (Ab w z) := by rw [hu]; exact HX.out u0
    clear hu u0
    clear HU HU1 HX DD0 x0 x1
    clear E UU
    go_wp2
    go_ret
    exact ⟨rfl, AZ.out⟩
  · obtain ⟨UU, E, hF1, hF2⟩ := cls W
    have HU := hid hF2
    have HU1 := hid hF1
    have HX : Hid (∀ u, Ab w (E u)) := fun u => Ab.trans A0.out (hF1 u)
    have x0 : ∀ u, (E u).cell? ⟨gs, 0, none⟩ = some (.slice pb lb cb) := fun u => cell_of_row _ _ 0 _ _ _ ((hF1 u).heap RO.out)
    have x1 : ∀ u, (E u).cell? ⟨gs, 1, none⟩ = some (.slice pw lw cw) := fun u => cell_of_row _ _ 1 _ _ _ ((hF1 u).heap RO.out)
    have DD0 := HU.out _ (Ab.refl W).drew
    clear hF1 hF2
    refine region_cls E (by kernel_rfl) (by kernel_rfl) DD0 ?_
    repeat (go_big_quiet_step (first
      | (with_reducible rfl)
      | (go_at_call 7; exact calls_cls HU HU1 (CC.out _ (HX.out _)))))
    refine wpQuiet_nil ?_
    intro z hwz
    obtain ⟨u0, hu⟩ := hwz
    have AZ : Hid (Ab w z) := by rw [hu]; exact HX.out u0
    clear hu u0
    clear HU HU1 HX DD0 x0 x1
    clear E UU
    go_wp2
    go_ret
    exact ⟨rfl, AZ.out⟩
set_option maxRecDepth 100000 in
set_option maxHeartbeats 8000000 in
theorem dof12_at (gp : Value) (bb bo wb wo M cb cw : Nat) (pt ps : Option Addr) (lt ct ls cs : Nat) (sky st : Int) (c : Nat) (wC aC : Int) (h : Nat) (w : World) (hc : ((c : Nat) : Int) < M)
    (FW : Hid (∀ v, Ab w v → v.cell? ⟨wb, wo + c, none⟩ = some (.int .i64 wC)))
    (AC : Hid (∀ v, Ab w v → Calls Tryd.prog 29 #[gp, .int .i64 (c : Nat)] v fun e w' => e = .returned (.int .i64 aC) ∧ Below v.heap.size v w'))
    (DC : Hid (∀ v : World, Calls Tryd.prog 75 #[.int .i64 wC, .int .i64 aC] v fun e w' => e = .returned (.float .f64 h) ∧ Below v.heap.size v w')) :
    Calls Tryd.prog 47 #[gp, .agg #[.slice (some ⟨bb, bo, none⟩) M cb, .slice (some ⟨wb, wo, none⟩) M cw, .slice pt lt ct, .slice ps ls cs, .int .i64 sky, .int .i64 st], .int .i64 (c : Nat)] w fun e w' => e = .returned (.float .f64 h) ∧ Below w.heap.size w w' := by
  have A0 : Hid (Ab w (w.alloc (.cells #[.slice (some ⟨bb, bo, none⟩) M cb, .slice (some ⟨wb, wo, none⟩) M cw, .slice pt lt ct, .slice ps ls cs, .int .i64 sky, .int .i64 st] 25))) := bl1 _ _
  have RO : Hid ((w.alloc (.cells #[.slice (some ⟨bb, bo, none⟩) M cb, .slice (some ⟨wb, wo, none⟩) M cw, .slice pt lt ct, .slice ps ls cs, .int .i64 sky, .int .i64 st] 25)).heap[w.heap.size]? = some (.cells #[.slice (some ⟨bb, bo, none⟩) M cb, .slice (some ⟨wb, wo, none⟩) M cw, .slice pt lt ct, .slice ps ls cs, .int .i64 sky, .int .i64 st] 25)) := heap_alloc_new _ _
  go_enter Tryd.func47, Tryd.ntmps47
  go_upto_region 1 with fail
  generalize hW : World.alloc w _ = W at *
  obtain ⟨gs, hgs⟩ : ∃ g, w.heap.size = g := ⟨_, rfl⟩
  rw [hgs] at RO ⊢
  clear hgs hW
  obtain ⟨UU, E, hF1, hF2⟩ := cls W
  have HU := hid hF2
  have HU1 := hid hF1
  have HX : Hid (∀ u, Ab w (E u)) := fun u => Ab.trans A0.out (hF1 u)
  have x1 : ∀ u, (E u).cell? ⟨gs, 1, none⟩ = some (.slice (some ⟨wb, wo, none⟩) M cw) := fun u => cell_of_row _ _ 1 _ _ _ ((hF1 u).heap RO.out)
  have xw : ∀ u, (E u).cell? ⟨wb, wo + c, none⟩ = some (.int .i64 wC) := fun u => FW.out _ (HX.out u)
  have DD0 := HU.out _ (Ab.refl W).drew
  clear hF1 hF2
  refine region_cls E (by kernel_rfl) (by kernel_rfl) DD0 ?_
  repeat (go_big_quiet_step (first
    | (with_reducible rfl)
    | (go_at_call 29; exact calls_cls HU HU1 (AC.out _ (HX.out _)))
    | (go_at_call 75; exact calls_cls HU HU1 (DC.out _))))
  refine wpQuiet_nil ?_
  intro z hwz
  obtain ⟨u0, hu⟩ := hwz
  have AZ : Hid (Ab w z) := by rw [hu]; exact HX.out u0
  clear hu u0
  clear HU HU1 HX DD0 x1 xw
  clear E UU
  go_wp2
  go_ret
  exact ⟨rfl, AZ.out⟩
set_option maxRecDepth 100000 in
set_option maxHeartbeats 8000000 in
theorem wo12_no (gp : Value) (e : Int) (u : Nat) (w : World)
    (CE : Hid (∀ v, Ab w v → Calls Tryd.prog 42 #[gp, .int .i64 e] v fun e w' => e = .returned (.tuple #[.agg #[.int .i64 0, .int .i64 0, .int .i64 0, .int .i64 0], .bool false]) ∧ Below v.heap.size v w')) :
    Calls Tryd.prog 30 #[gp, .int .i64 e, .float .f64 u] w fun e w' => e = .returned (.tuple #[.agg #[.int .i64 0, .int .i64 0, .int .i64 0], .bool false]) ∧ Below w.heap.size w w' := by
  have A0 : Hid (Ab w (w.alloc (.cells #[.int .i64 0, .int .i64 0, .int .i64 0] 65))) := bl1 _ _
  have R0 : Hid ((w.alloc (.cells #[.int .i64 0, .int .i64 0, .int .i64 0] 65)).heap[w.heap.size]? = some (.cells #[.int .i64 0, .int .i64 0, .int .i64 0] 65)) := heap_alloc_new _ _
  go_enter Tryd.func30, Tryd.ntmps30
  go_wp2_with fail
  refine (CE.out _ A0.out).mono ?_
  rintro e9 v1 ⟨rfl, b1⟩
  have A1 : Hid (Ab w (v1.alloc (.cells #[.int .i64 0, .int .i64 0, .int .i64 0, .int .i64 0] 81))) := (A0.out.call b1).alloc _
  have R1 : Hid ((v1.alloc (.cells #[.int .i64 0, .int .i64 0, .int .i64 0, .int .i64 0] 81)).heap[w.heap.size]? = some (.cells #[.int .i64 0, .int .i64 0, .int .i64 0] 65)) := Ab.heap (bl1 _ _) (Ab.heap b1 R0.out)
  have ER1 : Hid ((v1.alloc (.cells #[.int .i64 0, .int .i64 0, .int .i64 0, .int .i64 0] 81)).heap[v1.heap.size]? = some (.cells #[.int .i64 0, .int .i64 0, .int .i64 0, .int .i64 0] 81)) := heap_alloc_new _ _
  clear b1 A0 R0
  obtain ⟨⟨o0, o1, o2⟩, o3, o4, o5⟩ := rowfacts R1.out
  go_wp2
  refine bodyPost_ret ?_ rfl ⟨rfl, ?_⟩
  · exact res_two Tryd.results30 _ _ w.heap.size _ _ (0, 0) _ _ rfl rfl (row3 R1.out) Tryd.underlying65 rfl (by kernel_rfl)
  · exact ((A1.out.setk (Nat.le_refl _) _).setk (Nat.le_refl _) _).setk (Nat.le_refl _) _
set_option maxRecDepth 100000 in
set_option maxHeartbeats 8000000 in
theorem wo12_pos (gp : Value) (e : Int) (u : Nat) (L S R Q p q : Nat) (w : World) (hu1 : fgt u 0 = true)
    (CE : Hid (∀ v, Ab w v → Calls Tryd.prog 42 #[gp, .int .i64 e] v fun e w' => e = .returned (.tuple #[.agg #[.int .i64 (L : Nat), .int .i64 (S : Nat), .int .i64 (R : Nat), .int .i64 (Q : Nat)], .bool true]) ∧ Below v.heap.size v w'))
    (CB : Hid (∀ v, Ab w v → Calls Tryd.prog 43 #[gp, .int .i64 e] v fun e w' => e = .returned (.tuple #[.int .i64 (p : Nat), .int .i64 (q : Nat), .bool true]) ∧ Below v.heap.size v w')) :
    Calls Tryd.prog 30 #[gp, .int .i64 e, .float .f64 u] w fun e w' => e = .returned (.tuple #[.agg #[.int .i64 (L : Nat), .int .i64 (R : Nat), .int .i64 (p : Nat)], .bool true]) ∧ Below w.heap.size w w' := by
  have A0 : Hid (Ab w (w.alloc (.cells #[.int .i64 0, .int .i64 0, .int .i64 0] 65))) := bl1 _ _
  have R0 : Hid ((w.alloc (.cells #[.int .i64 0, .int .i64 0, .int .i64 0] 65)).heap[w.heap.size]? = some (.cells #[.int .i64 0, .int .i64 0, .int .i64 0] 65)) := heap_alloc_new _ _
  go_enter Tryd.func30, Tryd.ntmps30
  go_wp2_with fail
  refine (CE.out _ A0.out).mono ?_
  rintro e9 v1 ⟨rfl, b1⟩
  have A1 : Hid (Ab w (v1.alloc (.cells #[.int .i64 (L : Nat), .int .i64 (S : Nat), .int .i64 (R : Nat), .int .i64 (Q : Nat)] 81))) := (A0.out.call b1).alloc _
  have R1 : Hid ((v1.alloc (.cells #[.int .i64 (L : Nat), .int .i64 (S : Nat), .int .i64 (R : Nat), .int .i64 (Q : Nat)] 81)).heap[w.heap.size]? = some (.cells #[.int .i64 0, .int .i64 0, .int .i64 0] 65)) := Ab.heap (bl1 _ _) (Ab.heap b1 R0.out)
  have ER1 : Hid ((v1.alloc (.cells #[.int .i64 (L : Nat), .int .i64 (S : Nat), .int .i64 (R : Nat), .int .i64 (Q : Nat)] 81)).heap[v1.heap.size]? = some (.cells #[.int .i64 (L : Nat), .int .i64 (S : Nat), .int .i64 (R : Nat), .int .i64 (Q : Nat)] 81)) := heap_alloc_new _ _
  clear b1 A0 R0
  go_wp2_with fail
  refine (CB.out _ A1.out).mono ?_
  rintro e9 v2 ⟨rfl, b2⟩
  obtain ⟨ge, hge⟩ : ∃ g, v1.heap.size = g := ⟨_, rfl⟩
  have A2 : Hid (Ab w v2) := A1.out.call b2
  have R2 : Hid (v2.heap[w.heap.size]? = some (.cells #[.int .i64 0, .int .i64 0, .int .i64 0] 65)) := Ab.heap b2 R1.out
  have ER2 : Hid (v2.heap[ge]? = some (.cells #[.int .i64 (L : Nat), .int .i64 (S : Nat), .int .i64 (R : Nat), .int .i64 (Q : Nat)] 81)) := by rw [← hge]; exact Ab.heap b2 ER1.out
  clear b2 A1 R1 ER1
  rw [hge]
  clear hge
  obtain ⟨⟨o0, o1, o2⟩, o3, o4, o5⟩ := rowfacts R2.out
  have e0 := cell_of_row _ _ 0 _ _ _ ER2.out
  have e2 := cell_of_row _ _ 2 _ _ _ ER2.out
  go_wp2
  refine bodyPost_ret ?_ rfl ⟨rfl, ?_⟩
  · exact res_two Tryd.results30 _ _ w.heap.size _ _ (0, 0) _ _ rfl rfl (row3 R2.out) Tryd.underlying65 rfl (by kernel_rfl)
  · exact ((A2.out.setk (Nat.le_refl _) _).setk (Nat.le_refl _) _).setk (Nat.le_refl _) _
set_option maxRecDepth 100000 in
set_option maxHeartbeats 8000000 in
theorem wo12_neg (gp : Value) (e : Int) (u : Nat) (L S R Q p q : Nat) (w : World) (hu1 : fgt u 0 = false) (hu2 : flt u 0 = true)
    (CE : Hid (∀ v, Ab w v → Calls Tryd.prog 42 #[gp, .int .i64 e] v fun e w' => e = .returned (.tuple #[.agg #[.int .i64 (L : Nat), .int .i64 (S : Nat), .int .i64 (R : Nat), .int .i64 (Q : Nat)], .bool true]) ∧ Below v.heap.size v w'))
    (CB : Hid (∀ v, Ab w v → Calls Tryd.prog 43 #[gp, .int .i64 e] v fun e w' => e = .returned (.tuple #[.int .i64 (p : Nat), .int .i64 (q : Nat), .bool true]) ∧ Below v.heap.size v w')) :
    Calls Tryd.prog 30 #[gp, .int .i64 e, .float .f64 u] w fun e w' => e = .returned (.tuple #[.agg #[.int .i64 (R : Nat), .int .i64 (L : Nat), .int .i64 (q : Nat)], .bool true]) ∧ Below w.heap.size w w' := by
  have A0 : Hid (Ab w (w.alloc (.cells #[.int .i64 0, .int .i64 0, .int .i64 0] 65))) := bl1 _ _
  have R0 : Hid ((w.alloc (.cells #[.int .i64 0, .int .i64 0, .int .i64 0] 65)).heap[w.heap.size]? = some (.cells #[.int .i64 0, .int .i64 0, .int .i64 0] 65)) := heap_alloc_new _ _
  go_enter Tryd.func30, Tryd.ntmps30
  go_wp2_with fail
  refine (CE.out _ A0.out).mono ?_
  rintro e9 v1 ⟨rfl, b1⟩
  have A1 : Hid (Ab w (v1.alloc (.cells #[.int .i64 (L : Nat), .int .i64 (S : Nat), .int .i64 (R : Nat), .int .i64 (Q : Nat)] 81))) := (A0.out.call b1).alloc _
  have R1 : Hid ((v1.alloc (.cells #[.int .i64 (L : Nat), .int .i64 (S : Nat), .int .i64 (R : Nat), .int .i64 (Q : Nat)] 81)).heap[w.heap.size]? = some (.cells #[.int .i64 0, .int .i64 0, .int .i64 0] 65)) := Ab.heap (bl1 _ _) (Ab.heap b1 R0.out)
  have ER1 : Hid ((v1.alloc (.cells #[.int .i64 (L : Nat), .int .i64 (S : Nat), .int .i64 (R : Nat), .int .i64 (Q : Nat)] 81)).heap[v1.heap.size]? = some (.cells #[.int .i64 (L : Nat), .int .i64 (S : Nat), .int .i64 (R : Nat), .int .i64 (Q : Nat)] 81)) := heap_alloc_new _ _
  clear b1 A0 R0
  go_wp2_with fail
  refine (CB.out _ A1.out).mono ?_
  rintro e9 v2 ⟨rfl, b2⟩
  obtain ⟨ge, hge⟩ : ∃ g, v1.heap.size = g := ⟨_, rfl⟩
  have A2 : Hid (Ab w v2) := A1.out.call b2
  have R2 : Hid (v2.heap[w.heap.size]? = some (.cells #[.int .i64 0, .int .i64 0, .int .i64 0] 65)) := Ab.heap b2 R1.out
  have ER2 : Hid (v2.heap[ge]? = some (.cells #[.int .i64 (L : Nat), .int .i64 (S : Nat), .int .i64 (R : Nat), .int .i64 (Q : Nat)] 81)) := by rw [← hge]; exact Ab.heap b2 ER1.out
  clear b2 A1 R1 ER1
  rw [hge]
  clear hge
  obtain ⟨⟨o0, o1, o2⟩, o3, o4, o5⟩ := rowfacts R2.out
  have e0 := cell_of_row _ _ 0 _ _ _ ER2.out
  have e2 := cell_of_row _ _ 2 _ _ _ ER2.out
  go_wp2
  refine bodyPost_ret ?_ rfl ⟨rfl, ?_⟩
  · exact res_two Tryd.results30 _ _ w.heap.size _ _ (0, 0) _ _ rfl rfl (row3 R2.out) Tryd.underlying65 rfl (by kernel_rfl)
  · exact ((A2.out.setk (Nat.le_refl _) _).setk (Nat.le_refl _) _).setk (Nat.le_refl _) _
set_option maxRecDepth 100000 in
set_option maxHeartbeats 8000000 in
theorem wo12_still (gp : Value) (e : Int) (u : Nat) (L S R Q p q : Nat) (w : World) (hu1 : fgt u 0 = false) (hu2 : flt u 0 = false)
    (CE : Hid (∀ v, Ab w v → Calls Tryd.prog 42 #[gp, .int .i64 e] v fun e w' => e = .returned (.tuple #[.agg #[.int .i64 (L : Nat), .int .i64 (S : Nat), .int .i64 (R : Nat), .int .i64 (Q : Nat)], .bool true]) ∧ Below v.heap.size v w'))
    (CB : Hid (∀ v, Ab w v → Calls Tryd.prog 43 #[gp, .int .i64 e] v fun e w' => e = .returned (.tuple #[.int .i64 (p : Nat), .int .i64 (q : Nat), .bool true]) ∧ Below v.heap.size v w')) :
    Calls Tryd.prog 30 #[gp, .int .i64 e, .float .f64 u] w fun e w' => e = .returned (.tuple #[.agg #[.int .i64 0, .int .i64 0, .int .i64 0], .bool false]) ∧ Below w.heap.size w w' := by
  have A0 : Hid (Ab w (w.alloc (.cells #[.int .i64 0, .int .i64 0, .int .i64 0] 65))) := bl1 _ _
  have R0 : Hid ((w.alloc (.cells #[.int .i64 0, .int .i64 0, .int .i64 0] 65)).heap[w.heap.size]? = some (.cells #[.int .i64 0, .int .i64 0, .int .i64 0] 65)) := heap_alloc_new _ _
  go_enter Tryd.func30, Tryd.ntmps30
  go_wp2_with fail
  refine (CE.out _ A0.out).mono ?_
  rintro e9 v1 ⟨rfl, b1⟩
  have A1 : Hid (Ab w (v1.alloc (.cells #[.int .i64 (L : Nat), .int .i64 (S : Nat), .int .i64 (R : Nat), .int .i64 (Q : Nat)] 81))) := (A0.out.call b1).alloc _
  have R1 : Hid ((v1.alloc (.cells #[.int .i64 (L : Nat), .int .i64 (S : Nat), .int .i64 (R : Nat), .int .i64 (Q : Nat)] 81)).heap[w.heap.size]? = some (.cells #[.int .i64 0, .int .i64 0, .int .i64 0] 65)) := Ab.heap (bl1 _ _) (Ab.heap b1 R0.out)
  have ER1 : Hid ((v1.alloc (.cells #[.int .i64 (L : Nat), .int .i64 (S : Nat), .int .i64 (R : Nat), .int .i64 (Q : Nat)] 81)).heap[v1.heap.size]? = some (.cells #[.int .i64 (L : Nat), .int .i64 (S : Nat), .int .i64 (R : Nat), .int .i64 (Q : Nat)] 81)) := heap_alloc_new _ _
  clear b1 A0 R0
  go_wp2_with fail
  refine (CB.out _ A1.out).mono ?_
  rintro e9 v2 ⟨rfl, b2⟩
  obtain ⟨ge, hge⟩ : ∃ g, v1.heap.size = g := ⟨_, rfl⟩
  have A2 : Hid (Ab w v2) := A1.out.call b2
  have R2 : Hid (v2.heap[w.heap.size]? = some (.cells #[.int .i64 0, .int .i64 0, .int .i64 0] 65)) := Ab.heap b2 R1.out
  have ER2 : Hid (v2.heap[ge]? = some (.cells #[.int .i64 (L : Nat), .int .i64 (S : Nat), .int .i64 (R : Nat), .int .i64 (Q : Nat)] 81)) := by rw [← hge]; exact Ab.heap b2 ER1.out
  clear b2 A1 R1 ER1
  rw [hge]
  clear hge
  obtain ⟨⟨o0, o1, o2⟩, o3, o4, o5⟩ := rowfacts R2.out
  have e0 := cell_of_row _ _ 0 _ _ _ ER2.out
  have e2 := cell_of_row _ _ 2 _ _ _ ER2.out
  go_wp2
  refine bodyPost_ret ?_ rfl ⟨rfl, ?_⟩
  · exact res_two Tryd.results30 _ _ w.heap.size _ _ (0, 0) _ _ rfl rfl (row3 R2.out) Tryd.underlying65 rfl (by kernel_rfl)
  · exact ((A2.out.setk (Nat.le_refl _) _).setk (Nat.le_refl _) _).setk (Nat.le_refl _) _
set_option maxRecDepth 100000 in
set_option maxHeartbeats 8000000 in
theorem fwd12_at (gp : Value) (bb bo wb wo M cb cw : Nat) (pt ps : Option Addr) (lt ct ls cs : Nat) (sky st : Int) (k : Int) (U D K : Nat) (h hk hd x y s f vv : Nat) (w : World)
    (DU : Hid (∀ v, Ab w v → Calls Tryd.prog 47 #[gp, .agg #[.slice (some ⟨bb, bo, none⟩) M cb, .slice (some ⟨wb, wo, none⟩) M cw, .slice pt lt ct, .slice ps ls cs, .int .i64 sky, .int .i64 st], .int .i64 (U : Nat)] v fun e w' => e = .returned (.float .f64 h) ∧ Below v.heap.size v w'))
    (DK : Hid (∀ v, Ab w v → Calls Tryd.prog 47 #[gp, .agg #[.slice (some ⟨bb, bo, none⟩) M cb, .slice (some ⟨wb, wo, none⟩) M cw, .slice pt lt ct, .slice ps ls cs, .int .i64 sky, .int .i64 st], .int .i64 (K : Nat)] v fun e w' => e = .returned (.float .f64 hk) ∧ Below v.heap.size v w'))
    (DD : Hid (∀ v, Ab w v → Calls Tryd.prog 47 #[gp, .agg #[.slice (some ⟨bb, bo, none⟩) M cb, .slice (some ⟨wb, wo, none⟩) M cw, .slice pt lt ct, .slice ps ls cs, .int .i64 sky, .int .i64 st], .int .i64 (D : Nat)] v fun e w' => e = .returned (.float .f64 hd) ∧ Below v.heap.size v w'))
    (CS : Hid (∀ v : World, Calls Tryd.prog 48 #[.int .i64 k, .float .f64 x, .float .f64 y] v fun e w' => e = .returned (.float .f64 s) ∧ Below v.heap.size v w'))
    (hx : ∀ (t : TypeId) (w : World), (binOp .sub t (.float .f64 h) (.float .f64 hk)).run Tryd.prog w = .ok (.float .f64 x) w)
    (hy : ∀ (t : TypeId) (w : World), (binOp .sub t (.float .f64 hd) (.float .f64 h)).run Tryd.prog w = .ok (.float .f64 y) w)
    (hm : ∀ (t : TypeId) (w : World), (binOp .mul t (.float .f64 4602678819172646912) (.float .f64 s)).run Tryd.prog w = .ok (.float .f64 f) w)
    (hv : ∀ (t : TypeId) (w : World), (binOp .add t (.float .f64 h) (.float .f64 f)).run Tryd.prog w = .ok (.float .f64 vv) w) :
    Calls Tryd.prog 32 #[.agg #[.int .i64 (U : Nat), .int .i64 (D : Nat), .int .i64 (K : Nat)], gp, .int .i64 k, .agg #[.slice (some ⟨bb, bo, none⟩) M cb, .slice (some ⟨wb, wo, none⟩) M cw, .slice pt lt ct, .slice ps ls cs, .int .i64 sky, .int .i64 st]] w fun e w' => e = .returned (.float .f64 vv) ∧ Below w.heap.size w w' := by
  have A0 : Hid (Ab w ((w.alloc (.cells #[.int .i64 (U : Nat), .int .i64 (D : Nat), .int .i64 (K : Nat)] 65)).alloc (.cells #[.slice (some ⟨bb, bo, none⟩) M cb, .slice (some ⟨wb, wo, none⟩) M cw, .slice pt lt ct, .slice ps ls cs, .int .i64 sky, .int .i64 st] 25))) := bl2 _ _ _
  have RW0 : Hid (((w.alloc (.cells #[.int .i64 (U : Nat), .int .i64 (D : Nat), .int .i64 (K : Nat)] 65)).alloc (.cells #[.slice (some ⟨bb, bo, none⟩) M cb, .slice (some ⟨wb, wo, none⟩) M cw, .slice pt lt ct, .slice ps ls cs, .int .i64 sky, .int .i64 st] 25)).heap[w.heap.size]? = some (.cells #[.int .i64 (U : Nat), .int .i64 (D : Nat), .int .i64 (K : Nat)] 65)) := heap_alloc2_old _ _ _
  have RS0 : Hid (((w.alloc (.cells #[.int .i64 (U : Nat), .int .i64 (D : Nat), .int .i64 (K : Nat)] 65)).alloc (.cells #[.slice (some ⟨bb, bo, none⟩) M cb, .slice (some ⟨wb, wo, none⟩) M cw, .slice pt lt ct, .slice ps ls cs, .int .i64 sky, .int .i64 st] 25)).heap[w.heap.size + 1]? = some (.cells #[.slice (some ⟨bb, bo, none⟩) M cb, .slice (some ⟨wb, wo, none⟩) M cw, .slice pt lt ct, .slice ps ls cs, .int .i64 sky, .int .i64 st] 25)) := heap_alloc2_new _ _ _
  go_enter Tryd.func32, Tryd.ntmps32
  have AV : Hid (Ab ((w.alloc (.cells #[.int .i64 (U : Nat), .int .i64 (D : Nat), .int .i64 (K : Nat)] 65)).alloc (.cells #[.slice (some ⟨bb, bo, none⟩) M cb, .slice (some ⟨wb, wo, none⟩) M cw, .slice pt lt ct, .slice ps ls cs, .int .i64 sky, .int .i64 st] 25)) ((w.alloc (.cells #[.int .i64 (U : Nat), .int .i64 (D : Nat), .int .i64 (K : Nat)] 65)).alloc (.cells #[.slice (some ⟨bb, bo, none⟩) M cb, .slice (some ⟨wb, wo, none⟩) M cw, .slice pt lt ct, .slice ps ls cs, .int .i64 sky, .int .i64 st] 25))) := Ab.refl _
  have s0 := cell_of_row _ _ 0 _ _ _ (AV.out.heap RS0.out)
  have s1 := cell_of_row _ _ 1 _ _ _ (AV.out.heap RS0.out)
  have s2 := cell_of_row _ _ 2 _ _ _ (AV.out.heap RS0.out)
  have s3 := cell_of_row _ _ 3 _ _ _ (AV.out.heap RS0.out)
  have s4 := cell_of_row _ _ 4 _ _ _ (AV.out.heap RS0.out)
  have s5 := cell_of_row _ _ 5 _ _ _ (AV.out.heap RS0.out)
  have y0 := cell_of_row _ _ 0 _ _ _ (AV.out.heap RW0.out)
  have y1 := cell_of_row _ _ 1 _ _ _ (AV.out.heap RW0.out)
  have y2 := cell_of_row _ _ 2 _ _ _ (AV.out.heap RW0.out)
  go_wp2_with fail
  generalize hW : World.alloc (World.alloc w _) _ = W at *
  obtain ⟨g0, hg0⟩ : ∃ g, w.heap.size = g := ⟨_, rfl⟩
  obtain ⟨g1, hg1⟩ : ∃ g, w.heap.size + 1 = g := ⟨_, rfl⟩
  rw [hg0] at RW0
  rw [hg1] at RS0
  clear s0 s1 s2 s3 s4 s5 y0 y1 y2
  clear hW
  refine (DU.out _ (A0.out.trans AV.out)).mono ?_
  rintro e9 v1 ⟨rfl, b1⟩
  have AV2 : Hid (Ab W v1) := AV.out.call b1
  clear b1 AV
  have AV := AV2
  clear AV2
  rw [hg1, hg0]
  clear hg0 hg1
  have s0 := cell_of_row _ _ 0 _ _ _ (AV.out.heap RS0.out)
  have s1 := cell_of_row _ _ 1 _ _ _ (AV.out.heap RS0.out)
  have s2 := cell_of_row _ _ 2 _ _ _ (AV.out.heap RS0.out)
  have s3 := cell_of_row _ _ 3 _ _ _ (AV.out.heap RS0.out)
  have s4 := cell_of_row _ _ 4 _ _ _ (AV.out.heap RS0.out)
  have s5 := cell_of_row _ _ 5 _ _ _ (AV.out.heap RS0.out)
  have y0 := cell_of_row _ _ 0 _ _ _ (AV.out.heap RW0.out)
  have y1 := cell_of_row _ _ 1 _ _ _ (AV.out.heap RW0.out)
  have y2 := cell_of_row _ _ 2 _ _ _ (AV.out.heap RW0.out)
  go_wp2_with fail
  clear s0 s1 s2 s3 s4 s5 y0 y1 y2
  refine (DK.out _ (A0.out.trans AV.out)).mono ?_
  rintro e9 v2 ⟨rfl, b1⟩
  have AV2 : Hid (Ab W v2) := AV.out.call b1
  clear b1 AV
  have AV := AV2
  clear AV2
  have s0 := cell_of_row _ _ 0 _ _ _ (AV.out.heap RS0.out)
  have s1 := cell_of_row _ _ 1 _ _ _ (AV.out.heap RS0.out)
  have s2 := cell_of_row _ _ 2 _ _ _ (AV.out.heap RS0.out)
  have s3 := cell_of_row _ _ 3 _ _ _ (AV.out.heap RS0.out)
  have s4 := cell_of_row _ _ 4 _ _ _ (AV.out.heap RS0.out)
  have s5 := cell_of_row _ _ 5 _ _ _ (AV.out.heap RS0.out)
  have y0 := cell_of_row _ _ 0 _ _ _ (AV.out.heap RW0.out)
  have y1 := cell_of_row _ _ 1 _ _ _ (AV.out.heap RW0.out)
  have y2 := cell_of_row _ _ 2 _ _ _ (AV.out.heap RW0.out)
  go_wp2_with fail
  clear s0 s1 s2 s3 s4 s5 y0 y1 y2
  refine (DD.out _ (A0.out.trans AV.out)).mono ?_
  rintro e9 v3 ⟨rfl, b1⟩
  have AV2 : Hid (Ab W v3) := AV.out.call b1
  clear b1 AV
  have AV := AV2
  clear AV2
  go_wp2_with fail
  refine (CS.out _).mono ?_
  rintro e9 v4 ⟨rfl, b1⟩
  have AV2 : Hid (Ab W v4) := AV.out.call b1
  clear b1
  go_wp2
  go_ret
  exact ⟨rfl, A0.out.trans AV2.out⟩
end Go.Proofs.YtbhgfmoopmlnjaaDoor

namespace Go.Proofs.YtbhgfmoopmlnjaaDoor
open Go.RowKit Tf Cu
attribute [local go_sem] run_bits run_from raw_feq raw_fne raw_flt raw_fgt run_neg run_store_float
set_option maxRecDepth 100000 in
set_option maxHeartbeats 8000000 in
theorem gate12_some_at (gp : Value) (bb bo wb wo M cb cw : Nat) (pt ps : Option Addr) (lt ct ls cs : Nat) (sky st : Int) (U D K : Nat) (wU aU : Int) (bU bD l m : Nat) (w : World) (hU : ((U : Nat) : Int) < M) (hD : ((D : Nat) : Int) < M)
    (FW : Hid (∀ v, Ab w v → v.cell? ⟨wb, wo + U, none⟩ = some (.int .i64 wU) ∧ v.cell? ⟨bb, bo + U, none⟩ = some (.float .f64 bU) ∧ v.cell? ⟨bb, bo + D, none⟩ = some (.float .f64 bD)))
    (AU : Hid (∀ v, Ab w v → Calls Tryd.prog 29 #[gp, .int .i64 (U : Nat)] v fun e w' => e = .returned (.int .i64 aU) ∧ Below v.heap.size v w'))
    (CL : Hid (∀ v : World, Calls Tryd.prog 49 #[.float .f64 bU, .int .i64 wU, .int .i64 aU] v fun e w' => e = .returned (.float .f64 l) ∧ Below v.heap.size v w'))
    (CM : Hid (∀ v : World, Calls Tryd.prog 50 #[.float .f64 bU, .float .f64 bD] v fun e w' => e = .returned (.float .f64 m) ∧ Below v.heap.size v w'))
    (g : Nat)
    (hg : ∀ (t : TypeId) (w : World), (binOp .sub t (.float .f64 l) (.float .f64 m)).run Tryd.prog w = .ok (.float .f64 g) w) :
    Calls Tryd.prog 33 #[.agg #[.int .i64 (U : Nat), .int .i64 (D : Nat), .int .i64 (K : Nat)], gp, .agg #[.slice (some ⟨bb, bo, none⟩) M cb, .slice (some ⟨wb, wo, none⟩) M cw, .slice pt lt ct, .slice ps ls cs, .int .i64 sky, .int .i64 st]] w fun e w' => e = .returned (.float .f64 g) ∧ Below w.heap.size w w' := by
  have A0 : Hid (Ab w ((w.alloc (.cells #[.int .i64 (U : Nat), .int .i64 (D : Nat), .int .i64 (K : Nat)] 65)).alloc (.cells #[.slice (some ⟨bb, bo, none⟩) M cb, .slice (some ⟨wb, wo, none⟩) M cw, .slice pt lt ct, .slice ps ls cs, .int .i64 sky, .int .i64 st] 25))) := bl2 _ _ _
  have RW0 : Hid (((w.alloc (.cells #[.int .i64 (U : Nat), .int .i64 (D : Nat), .int .i64 (K : Nat)] 65)).alloc (.cells #[.slice (some ⟨bb, bo, none⟩) M cb, .slice (some ⟨wb, wo, none⟩) M cw, .slice pt lt ct, .slice ps ls cs, .int .i64 sky, .int .i64 st] 25)).heap[w.heap.size]? = some (.cells #[.int .i64 (U : Nat), .int .i64 (D : Nat), .int .i64 (K : Nat)] 65)) := heap_alloc2_old _ _ _
  have RS0 : Hid (((w.alloc (.cells #[.int .i64 (U : Nat), .int .i64 (D : Nat), .int .i64 (K : Nat)] 65)).alloc (.cells #[.slice (some ⟨bb, bo, none⟩) M cb, .slice (some ⟨wb, wo, none⟩) M cw, .slice pt lt ct, .slice ps ls cs, .int .i64 sky, .int .i64 st] 25)).heap[w.heap.size + 1]? = some (.cells #[.slice (some ⟨bb, bo, none⟩) M cb, .slice (some ⟨wb, wo, none⟩) M cw, .slice pt lt ct, .slice ps ls cs, .int .i64 sky, .int .i64 st] 25)) := heap_alloc2_new _ _ _
  have AV : Hid (Ab ((w.alloc (.cells #[.int .i64 (U : Nat), .int .i64 (D : Nat), .int .i64 (K : Nat)] 65)).alloc (.cells #[.slice (some ⟨bb, bo, none⟩) M cb, .slice (some ⟨wb, wo, none⟩) M cw, .slice pt lt ct, .slice ps ls cs, .int .i64 sky, .int .i64 st] 25)) ((w.alloc (.cells #[.int .i64 (U : Nat), .int .i64 (D : Nat), .int .i64 (K : Nat)] 65)).alloc (.cells #[.slice (some ⟨bb, bo, none⟩) M cb, .slice (some ⟨wb, wo, none⟩) M cw, .slice pt lt ct, .slice ps ls cs, .int .i64 sky, .int .i64 st] 25))) := Ab.refl _
  have bb1 := (FW.out _ A0.out).2.1
  go_enter Tryd.func33, Tryd.ntmps33
  have s0 := cell_of_row _ _ 0 _ _ _ RS0.out
  have y0 := cell_of_row _ _ 0 _ _ _ RW0.out
  go_upto_region 2 with fail
  clear s0 y0 bb1
  generalize hW : World.alloc (World.alloc w _) _ = W at *
  obtain ⟨g0, hg0⟩ : ∃ g, w.heap.size = g := ⟨_, rfl⟩
  obtain ⟨g1, hg1⟩ : ∃ g, w.heap.size + 1 = g := ⟨_, rfl⟩
  rw [hg0] at RW0
  rw [hg1] at RS0
  rw [hg1, hg0]
  clear hg0 hg1 hW AV
  obtain ⟨UU, E, hF1, hF2⟩ := cls W
  have HU := hid hF2
  have HU1 := hid hF1
  have HX : Hid (∀ u, Ab w (E u)) := fun u => Ab.trans A0.out (hF1 u)
  have s0 : ∀ u, (E u).cell? ⟨g1, 0, none⟩ = some (.slice (some ⟨bb, bo, none⟩) M cb) := fun u => cell_of_row _ _ 0 _ _ _ ((hF1 u).heap RS0.out)
  have s1 : ∀ u, (E u).cell? ⟨g1, 1, none⟩ = some (.slice (some ⟨wb, wo, none⟩) M cw) := fun u => cell_of_row _ _ 1 _ _ _ ((hF1 u).heap RS0.out)
  have y0 : ∀ u, (E u).cell? ⟨g0, 0, none⟩ = some (.int .i64 (U : Nat)) := fun u => cell_of_row _ _ 0 _ _ _ ((hF1 u).heap RW0.out)
  have y1 : ∀ u, (E u).cell? ⟨g0, 1, none⟩ = some (.int .i64 (D : Nat)) := fun u => cell_of_row _ _ 1 _ _ _ ((hF1 u).heap RW0.out)
  have xw : ∀ u, (E u).cell? ⟨wb, wo + U, none⟩ = some (.int .i64 wU) := fun u => (FW.out _ (HX.out u)).1
  have xd : ∀ u, (E u).cell? ⟨bb, bo + D, none⟩ = some (.float .f64 bD) := fun u => (FW.out _ (HX.out u)).2.2
  have DD0 := HU.out _ (Ab.refl W).drew
  clear hF1 hF2
  refine region_cls E (by kernel_rfl) (by kernel_rfl) DD0 ?_
  repeat (go_big_quiet_step (first
    | (with_reducible rfl)
    | (go_at_call 29; exact calls_cls HU HU1 (AU.out _ (HX.out _)))
    | (go_at_call 49; exact calls_cls HU HU1 (CL.out _))
    | (go_at_call 50; exact calls_cls HU HU1 (CM.out _))))
  refine wpQuiet_nil ?_
  intro z hwz
  obtain ⟨u0, hu⟩ := hwz
  have AZ : Hid (Ab w z) := by rw [hu]; exact HX.out u0
  clear hu u0
  clear HU HU1 HX DD0 s0 s1 y0 y1 xw xd
  clear E UU
  go_wp2
  go_ret
  exact ⟨rfl, AZ.out⟩
set_option maxRecDepth 100000 in
set_option maxHeartbeats 8000000 in
theorem gate12_none_at (gp : Value) (bb bo wb wo M cb cw : Nat) (pt ps : Option Addr) (lt ct ls cs : Nat) (sky st : Int) (U D K : Nat) (wU aU : Int) (bU bD l m : Nat) (w : World) (hU : ((U : Nat) : Int) < M) (hD : ((D : Nat) : Int) < M)
    (FW : Hid (∀ v, Ab w v → v.cell? ⟨wb, wo + U, none⟩ = some (.int .i64 wU) ∧ v.cell? ⟨bb, bo + U, none⟩ = some (.float .f64 bU) ∧ v.cell? ⟨bb, bo + D, none⟩ = some (.float .f64 bD)))
    (AU : Hid (∀ v, Ab w v → Calls Tryd.prog 29 #[gp, .int .i64 (U : Nat)] v fun e w' => e = .returned (.int .i64 aU) ∧ Below v.heap.size v w'))
    (CL : Hid (∀ v : World, Calls Tryd.prog 49 #[.float .f64 bU, .int .i64 wU, .int .i64 aU] v fun e w' => e = .returned (.float .f64 l) ∧ Below v.heap.size v w'))
    (CM : Hid (∀ v : World, Calls Tryd.prog 50 #[.float .f64 bU, .float .f64 bD] v fun e w' => e = .returned (.float .f64 m) ∧ Below v.heap.size v w'))
    (hg : ∀ (t : TypeId) (w : World), (binOp .sub t (.float .f64 l) (.float .f64 m)).run Tryd.prog w = .ok (.float .f64 (nanOf w l m)) (w.drewN 1)) :
    Calls Tryd.prog 33 #[.agg #[.int .i64 (U : Nat), .int .i64 (D : Nat), .int .i64 (K : Nat)], gp, .agg #[.slice (some ⟨bb, bo, none⟩) M cb, .slice (some ⟨wb, wo, none⟩) M cw, .slice pt lt ct, .slice ps ls cs, .int .i64 sky, .int .i64 st]] w fun e w' => ∃ g, e = .returned (.float .f64 g) ∧ (g < 18446744073709551616 ∧ isN g = true) ∧ Below w.heap.size w w' := by
  have A0 : Hid (Ab w ((w.alloc (.cells #[.int .i64 (U : Nat), .int .i64 (D : Nat), .int .i64 (K : Nat)] 65)).alloc (.cells #[.slice (some ⟨bb, bo, none⟩) M cb, .slice (some ⟨wb, wo, none⟩) M cw, .slice pt lt ct, .slice ps ls cs, .int .i64 sky, .int .i64 st] 25))) := bl2 _ _ _
  have RW0 : Hid (((w.alloc (.cells #[.int .i64 (U : Nat), .int .i64 (D : Nat), .int .i64 (K : Nat)] 65)).alloc (.cells #[.slice (some ⟨bb, bo, none⟩) M cb, .slice (some ⟨wb, wo, none⟩) M cw, .slice pt lt ct, .slice ps ls cs, .int .i64 sky, .int .i64 st] 25)).heap[w.heap.size]? = some (.cells #[.int .i64 (U : Nat), .int .i64 (D : Nat), .int .i64 (K : Nat)] 65)) := heap_alloc2_old _ _ _
  have RS0 : Hid (((w.alloc (.cells #[.int .i64 (U : Nat), .int .i64 (D : Nat), .int .i64 (K : Nat)] 65)).alloc (.cells #[.slice (some ⟨bb, bo, none⟩) M cb, .slice (some ⟨wb, wo, none⟩) M cw, .slice pt lt ct, .slice ps ls cs, .int .i64 sky, .int .i64 st] 25)).heap[w.heap.size + 1]? = some (.cells #[.slice (some ⟨bb, bo, none⟩) M cb, .slice (some ⟨wb, wo, none⟩) M cw, .slice pt lt ct, .slice ps ls cs, .int .i64 sky, .int .i64 st] 25)) := heap_alloc2_new _ _ _
  have AV : Hid (Ab ((w.alloc (.cells #[.int .i64 (U : Nat), .int .i64 (D : Nat), .int .i64 (K : Nat)] 65)).alloc (.cells #[.slice (some ⟨bb, bo, none⟩) M cb, .slice (some ⟨wb, wo, none⟩) M cw, .slice pt lt ct, .slice ps ls cs, .int .i64 sky, .int .i64 st] 25)) ((w.alloc (.cells #[.int .i64 (U : Nat), .int .i64 (D : Nat), .int .i64 (K : Nat)] 65)).alloc (.cells #[.slice (some ⟨bb, bo, none⟩) M cb, .slice (some ⟨wb, wo, none⟩) M cw, .slice pt lt ct, .slice ps ls cs, .int .i64 sky, .int .i64 st] 25))) := Ab.refl _
  have bb1 := (FW.out _ A0.out).2.1
  go_enter Tryd.func33, Tryd.ntmps33
  have s0 := cell_of_row _ _ 0 _ _ _ RS0.out
  have y0 := cell_of_row _ _ 0 _ _ _ RW0.out
  go_upto_region 2 with fail
  clear s0 y0 bb1
  generalize hW : World.alloc (World.alloc w _) _ = W at *
  obtain ⟨g0, hg0⟩ : ∃ g, w.heap.size = g := ⟨_, rfl⟩
  obtain ⟨g1, hg1⟩ : ∃ g, w.heap.size + 1 = g := ⟨_, rfl⟩
  rw [hg0] at RW0
  rw [hg1] at RS0
  rw [hg1, hg0]
  clear hg0 hg1 hW AV
  obtain ⟨UU, E, hF1, hF2⟩ := cls W
  have HU := hid hF2
  have HU1 := hid hF1
  have HX : Hid (∀ u, Ab w (E u)) := fun u => Ab.trans A0.out (hF1 u)
  have s0 : ∀ u, (E u).cell? ⟨g1, 0, none⟩ = some (.slice (some ⟨bb, bo, none⟩) M cb) := fun u => cell_of_row _ _ 0 _ _ _ ((hF1 u).heap RS0.out)
  have s1 : ∀ u, (E u).cell? ⟨g1, 1, none⟩ = some (.slice (some ⟨wb, wo, none⟩) M cw) := fun u => cell_of_row _ _ 1 _ _ _ ((hF1 u).heap RS0.out)
  have y0 : ∀ u, (E u).cell? ⟨g0, 0, none⟩ = some (.int .i64 (U : Nat)) := fun u => cell_of_row _ _ 0 _ _ _ ((hF1 u).heap RW0.out)
  have y1 : ∀ u, (E u).cell? ⟨g0, 1, none⟩ = some (.int .i64 (D : Nat)) := fun u => cell_of_row _ _ 1 _ _ _ ((hF1 u).heap RW0.out)
  have xw : ∀ u, (E u).cell? ⟨wb, wo + U, none⟩ = some (.int .i64 wU) := fun u => (FW.out _ (HX.out u)).1
  have xd : ∀ u, (E u).cell? ⟨bb, bo + D, none⟩ = some (.float .f64 bD) := fun u => (FW.out _ (HX.out u)).2.2
  have DD0 := HU.out _ (Ab.refl W).drew
  clear hF1 hF2
  refine region_tail 20 E (by kernel_rfl) (by kernel_rfl) (by kernel_rfl) DD0 ?_
  simp only [List.take_succ_cons, List.take_zero, List.drop_succ_cons, List.drop_zero]
  repeat (go_big_quiet_step (first
    | (with_reducible rfl)
    | (go_at_call 29; exact calls_cls HU HU1 (AU.out _ (HX.out _)))
    | (go_at_call 49; exact calls_cls HU HU1 (CL.out _))
    | (go_at_call 50; exact calls_cls HU HU1 (CM.out _))))
  refine wpQuiet_nil ?_
  intro z hwz
  obtain ⟨u0, hu⟩ := hwz
  have AZ : Hid (Ab w z) := by rw [hu]; exact HX.out u0
  clear hu u0
  clear HU HU1 HX DD0 s0 s1 y0 y1 xw xd
  clear E UU
  go_wp2
  go_ret
  exact ⟨_, rfl, ⟨nanOf_lt _ _ _, isN_nanOf _ _ _⟩, Ab.drewN AZ.out 1⟩
end Go.Proofs.YtbhgfmoopmlnjaaDoor

namespace Go.Proofs.YtbhgfmoopmlnjaaDoor
open Go.RowKit Tf Cu
attribute [local go_sem] run_bits run_from raw_feq raw_fne raw_flt raw_fgt run_neg run_store_float
set_option maxRecDepth 100000 in
set_option maxHeartbeats 8000000 in
theorem dp12_nofit (gp : Value) (pb pw pt ps : Option Addr) (lb cb lw cw lt ct ls cs : Nat) (sky st : Int) (k : Int) (e : Int) (u : Nat) (w : World)
    (CF : Hid (∀ v, Ab w v → Calls Tryd.prog 17 #[gp, .agg #[.slice pb lb cb, .slice pw lw cw, .slice pt lt ct, .slice ps ls cs, .int .i64 sky, .int .i64 st]] v fun e w' => e = .returned (.bool false) ∧ Below v.heap.size v w')) :
    Calls Tryd.prog 15 #[gp, .int .i64 k, .agg #[.slice pb lb cb, .slice pw lw cw, .slice pt lt ct, .slice ps ls cs, .int .i64 sky, .int .i64 st], .int .i64 e, .float .f64 u] w fun e w' => e = .returned (.float .f64 0) ∧ Below w.heap.size w w' := by
  have A0 : Hid (Ab w (w.alloc (.cells #[.slice pb lb cb, .slice pw lw cw, .slice pt lt ct, .slice ps ls cs, .int .i64 sky, .int .i64 st] 25))) := bl1 _ _
  have RO : Hid ((w.alloc (.cells #[.slice pb lb cb, .slice pw lw cw, .slice pt lt ct, .slice ps ls cs, .int .i64 sky, .int .i64 st] 25)).heap[w.heap.size]? = some (.cells #[.slice pb lb cb, .slice pw lw cw, .slice pt lt ct, .slice ps ls cs, .int .i64 sky, .int .i64 st] 25)) := heap_alloc_new _ _
  go_enter Tryd.func15, Tryd.ntmps15
  have s0 := cell_of_row _ _ 0 _ _ _ RO.out
  have s1 := cell_of_row _ _ 1 _ _ _ RO.out
  have s2 := cell_of_row _ _ 2 _ _ _ RO.out
  have s3 := cell_of_row _ _ 3 _ _ _ RO.out
  have s4 := cell_of_row _ _ 4 _ _ _ RO.out
  have s5 := cell_of_row _ _ 5 _ _ _ RO.out
  go_wp2_with fail
  clear s0 s1 s2 s3 s4 s5
  refine (CF.out _ A0.out).mono ?_
  rintro e9 v1 ⟨rfl, b1⟩
  have A1 : Hid (Ab w v1) := A0.out.call b1
  have RO1 : Hid (v1.heap[w.heap.size]? = some (.cells #[.slice pb lb cb, .slice pw lw cw, .slice pt lt ct, .slice ps ls cs, .int .i64 sky, .int .i64 st] 25)) := Ab.heap b1 RO.out
  clear b1 A0 RO
  go_wp2
  go_ret
  exact ⟨rfl, A1.out⟩
set_option maxRecDepth 100000 in
set_option maxHeartbeats 8000000 in
theorem dp12_noway (gp : Value) (pb pw pt ps : Option Addr) (lb cb lw cw lt ct ls cs : Nat) (sky st : Int) (k : Int) (e : Int) (u : Nat) (w : World)
    (CF : Hid (∀ v, Ab w v → Calls Tryd.prog 17 #[gp, .agg #[.slice pb lb cb, .slice pw lw cw, .slice pt lt ct, .slice ps ls cs, .int .i64 sky, .int .i64 st]] v fun e w' => e = .returned (.bool true) ∧ Below v.heap.size v w'))
    (CW : Hid (∀ v, Ab w v → Calls Tryd.prog 30 #[gp, .int .i64 e, .float .f64 u] v fun e w' => e = .returned (.tuple #[.agg #[.int .i64 0, .int .i64 0, .int .i64 0], .bool false]) ∧ Below v.heap.size v w')) :
    Calls Tryd.prog 15 #[gp, .int .i64 k, .agg #[.slice pb lb cb, .slice pw lw cw, .slice pt lt ct, .slice ps ls cs, .int .i64 sky, .int .i64 st], .int .i64 e, .float .f64 u] w fun e w' => e = .returned (.float .f64 0) ∧ Below w.heap.size w w' := by
  have A0 : Hid (Ab w (w.alloc (.cells #[.slice pb lb cb, .slice pw lw cw, .slice pt lt ct, .slice ps ls cs, .int .i64 sky, .int .i64 st] 25))) := bl1 _ _
  have RO : Hid ((w.alloc (.cells #[.slice pb lb cb, .slice pw lw cw, .slice pt lt ct, .slice ps ls cs, .int .i64 sky, .int .i64 st] 25)).heap[w.heap.size]? = some (.cells #[.slice pb lb cb, .slice pw lw cw, .slice pt lt ct, .slice ps ls cs, .int .i64 sky, .int .i64 st] 25)) := heap_alloc_new _ _
  go_enter Tryd.func15, Tryd.ntmps15
  have s0 := cell_of_row _ _ 0 _ _ _ RO.out
  have s1 := cell_of_row _ _ 1 _ _ _ RO.out
  have s2 := cell_of_row _ _ 2 _ _ _ RO.out
  have s3 := cell_of_row _ _ 3 _ _ _ RO.out
  have s4 := cell_of_row _ _ 4 _ _ _ RO.out
  have s5 := cell_of_row _ _ 5 _ _ _ RO.out
  go_wp2_with fail
  clear s0 s1 s2 s3 s4 s5
  refine (CF.out _ A0.out).mono ?_
  rintro e9 v1 ⟨rfl, b1⟩
  have A1 : Hid (Ab w v1) := A0.out.call b1
  have RO1 : Hid (v1.heap[w.heap.size]? = some (.cells #[.slice pb lb cb, .slice pw lw cw, .slice pt lt ct, .slice ps ls cs, .int .i64 sky, .int .i64 st] 25)) := Ab.heap b1 RO.out
  clear b1 A0 RO
  go_wp2_with fail
  refine (CW.out _ A1.out).mono ?_
  rintro e9 v2 ⟨rfl, b2⟩
  have A2 : Hid (Ab w (v2.alloc (.cells #[.int .i64 0, .int .i64 0, .int .i64 0] 65))) := (A1.out.call b2).alloc _
  clear b2 A1 RO1
  go_wp2
  go_ret
  exact ⟨rfl, A2.out⟩
set_option maxRecDepth 100000 in
set_option maxHeartbeats 8000000 in
theorem dp12_some (gp : Value) (bb bo wb wo M cb cw : Nat) (pt ps : Option Addr) (lt ct ls cs : Nat) (sky st : Int) (k : Int) (e : Int) (u : Nat) (w : World) (U D K vv r : Nat) (c : Bool)
    (CF : Hid (∀ v, Ab w v → Calls Tryd.prog 17 #[gp, .agg #[.slice (some ⟨bb, bo, none⟩) M cb, .slice (some ⟨wb, wo, none⟩) M cw, .slice pt lt ct, .slice ps ls cs, .int .i64 sky, .int .i64 st]] v fun e w' => e = .returned (.bool true) ∧ Below v.heap.size v w'))
    (CW : Hid (∀ v, Ab w v → Calls Tryd.prog 30 #[gp, .int .i64 e, .float .f64 u] v fun e w' => e = .returned (.tuple #[.agg #[.int .i64 (U : Nat), .int .i64 (D : Nat), .int .i64 (K : Nat)], .bool true]) ∧ Below v.heap.size v w'))
    (CO : Hid (∀ v, Ab w v → Calls Tryd.prog 32 #[.agg #[.int .i64 (U : Nat), .int .i64 (D : Nat), .int .i64 (K : Nat)], gp, .int .i64 k, .agg #[.slice (some ⟨bb, bo, none⟩) M cb, .slice (some ⟨wb, wo, none⟩) M cw, .slice pt lt ct, .slice ps ls cs, .int .i64 sky, .int .i64 st]] v fun e w' => e = .returned (.float .f64 vv) ∧ Below v.heap.size v w'))
    (g : Nat)
    (CG : Hid (∀ v, Ab w v → Calls Tryd.prog 33 #[.agg #[.int .i64 (U : Nat), .int .i64 (D : Nat), .int .i64 (K : Nat)], gp, .agg #[.slice (some ⟨bb, bo, none⟩) M cb, .slice (some ⟨wb, wo, none⟩) M cw, .slice pt lt ct, .slice ps ls cs, .int .i64 sky, .int .i64 st]] v fun e w' => e = .returned (.float .f64 g) ∧ Below v.heap.size v w'))
    (CN : Hid (∀ v : World, Calls Tryd.prog 31 #[.float .f64 vv, .float .f64 g] v fun e w' => e = .returned (.float .f64 r) ∧ Below v.heap.size v w'))
    (hr : fgt r 0 = c) :
    Calls Tryd.prog 15 #[gp, .int .i64 k, .agg #[.slice (some ⟨bb, bo, none⟩) M cb, .slice (some ⟨wb, wo, none⟩) M cw, .slice pt lt ct, .slice ps ls cs, .int .i64 sky, .int .i64 st], .int .i64 e, .float .f64 u] w fun e w' => e = .returned (.float .f64 (if c = true then r else 0)) ∧ Below w.heap.size w w' := by
  have A0 : Hid (Ab w (w.alloc (.cells #[.slice (some ⟨bb, bo, none⟩) M cb, .slice (some ⟨wb, wo, none⟩) M cw, .slice pt lt ct, .slice ps ls cs, .int .i64 sky, .int .i64 st] 25))) := bl1 _ _
  have RO : Hid ((w.alloc (.cells #[.slice (some ⟨bb, bo, none⟩) M cb, .slice (some ⟨wb, wo, none⟩) M cw, .slice pt lt ct, .slice ps ls cs, .int .i64 sky, .int .i64 st] 25)).heap[w.heap.size]? = some (.cells #[.slice (some ⟨bb, bo, none⟩) M cb, .slice (some ⟨wb, wo, none⟩) M cw, .slice pt lt ct, .slice ps ls cs, .int .i64 sky, .int .i64 st] 25)) := heap_alloc_new _ _
  go_enter Tryd.func15, Tryd.ntmps15
  have s0 := cell_of_row _ _ 0 _ _ _ RO.out
  have s1 := cell_of_row _ _ 1 _ _ _ RO.out
  have s2 := cell_of_row _ _ 2 _ _ _ RO.out
  have s3 := cell_of_row _ _ 3 _ _ _ RO.out
  have s4 := cell_of_row _ _ 4 _ _ _ RO.out
  have s5 := cell_of_row _ _ 5 _ _ _ RO.out
  go_wp2_with fail
  clear s0 s1 s2 s3 s4 s5
  refine (CF.out _ A0.out).mono ?_
  rintro e9 v1 ⟨rfl, b1⟩
  have A1 : Hid (Ab w v1) := A0.out.call b1
  have RO1 : Hid (v1.heap[w.heap.size]? = some (.cells #[.slice (some ⟨bb, bo, none⟩) M cb, .slice (some ⟨wb, wo, none⟩) M cw, .slice pt lt ct, .slice ps ls cs, .int .i64 sky, .int .i64 st] 25)) := Ab.heap b1 RO.out
  clear b1 A0 RO
  go_wp2_with fail
  refine (CW.out _ A1.out).mono ?_
  rintro e9 v2 ⟨rfl, b2⟩
  have A2 : Hid (Ab w (v2.alloc (.cells #[.int .i64 (U : Nat), .int .i64 (D : Nat), .int .i64 (K : Nat)] 65))) := (A1.out.call b2).alloc _
  have RS : Hid ((v2.alloc (.cells #[.int .i64 (U : Nat), .int .i64 (D : Nat), .int .i64 (K : Nat)] 65)).heap[w.heap.size]? = some (.cells #[.slice (some ⟨bb, bo, none⟩) M cb, .slice (some ⟨wb, wo, none⟩) M cw, .slice pt lt ct, .slice ps ls cs, .int .i64 sky, .int .i64 st] 25)) := Ab.heap (bl1 _ _) (Ab.heap b2 RO1.out)
  have RW : Hid ((v2.alloc (.cells #[.int .i64 (U : Nat), .int .i64 (D : Nat), .int .i64 (K : Nat)] 65)).heap[v2.heap.size]? = some (.cells #[.int .i64 (U : Nat), .int .i64 (D : Nat), .int .i64 (K : Nat)] 65)) := heap_alloc_new _ _
  clear b2 A1 RO1
  go_upto_region 6 with fail
  generalize hW : World.alloc v2 _ = W at *
  obtain ⟨gs, hgs⟩ : ∃ g, w.heap.size = g := ⟨_, rfl⟩
  obtain ⟨ge, hge⟩ : ∃ g, v2.heap.size = g := ⟨_, rfl⟩
  rw [hgs] at RS
  rw [hge] at RW
  rw [hge, hgs]
  clear hW hgs hge
  obtain ⟨UU, E, hF1, hF2⟩ := cls W
  have HU := hid hF2
  have HU1 := hid hF1
  have HX : Hid (∀ u, Ab w (E u)) := fun u => Ab.trans A2.out (hF1 u)
  have s0 : ∀ u, (E u).cell? ⟨gs, 0, none⟩ = some (.slice (some ⟨bb, bo, none⟩) M cb) := fun u => cell_of_row _ _ 0 _ _ _ ((hF1 u).heap RS.out)
  have s1 : ∀ u, (E u).cell? ⟨gs, 1, none⟩ = some (.slice (some ⟨wb, wo, none⟩) M cw) := fun u => cell_of_row _ _ 1 _ _ _ ((hF1 u).heap RS.out)
  have s2 : ∀ u, (E u).cell? ⟨gs, 2, none⟩ = some (.slice pt lt ct) := fun u => cell_of_row _ _ 2 _ _ _ ((hF1 u).heap RS.out)
  have s3 : ∀ u, (E u).cell? ⟨gs, 3, none⟩ = some (.slice ps ls cs) := fun u => cell_of_row _ _ 3 _ _ _ ((hF1 u).heap RS.out)
  have s4 : ∀ u, (E u).cell? ⟨gs, 4, none⟩ = some (.int .i64 sky) := fun u => cell_of_row _ _ 4 _ _ _ ((hF1 u).heap RS.out)
  have s5 : ∀ u, (E u).cell? ⟨gs, 5, none⟩ = some (.int .i64 st) := fun u => cell_of_row _ _ 5 _ _ _ ((hF1 u).heap RS.out)
  have y0 : ∀ u, (E u).cell? ⟨ge, 0, none⟩ = some (.int .i64 (U : Nat)) := fun u => cell_of_row _ _ 0 _ _ _ ((hF1 u).heap RW.out)
  have y1 : ∀ u, (E u).cell? ⟨ge, 1, none⟩ = some (.int .i64 (D : Nat)) := fun u => cell_of_row _ _ 1 _ _ _ ((hF1 u).heap RW.out)
  have y2 : ∀ u, (E u).cell? ⟨ge, 2, none⟩ = some (.int .i64 (K : Nat)) := fun u => cell_of_row _ _ 2 _ _ _ ((hF1 u).heap RW.out)
  have DD0 := HU.out _ (Ab.refl W).drew
  clear hF1 hF2
  refine region_cls E (by kernel_rfl) (by kernel_rfl) DD0 ?_
  repeat (go_big_quiet_step (first
    | (with_reducible rfl)
    | (go_at_call 32; exact calls_cls HU HU1 (CO.out _ (HX.out _)))
    | (go_at_call 33; exact calls_cls HU HU1 (CG.out _ (HX.out _)))
    | (go_at_call 31; exact calls_cls HU HU1 (CN.out _))))
  refine wpQuiet_nil ?_
  intro z hwz
  obtain ⟨u0, hu⟩ := hwz
  have AZ : Hid (Ab w z) := by rw [hu]; exact HX.out u0
  clear hu u0
  clear HU HU1 HX DD0 s0 s1 s2 s3 s4 s5 y0 y1 y2
  clear E UU
  have AY : Hid (Ab w z) := AZ.out
  clear AZ
  cases c
  · go_wp2
    go_ret
    exact ⟨rfl, AY.out⟩
  · go_wp2
    go_ret
    exact ⟨rfl, AY.out⟩
set_option maxRecDepth 100000 in
set_option maxHeartbeats 8000000 in
theorem dp12_none (gp : Value) (bb bo wb wo M cb cw : Nat) (pt ps : Option Addr) (lt ct ls cs : Nat) (sky st : Int) (k : Int) (e : Int) (u : Nat) (w : World) (U D K vv r : Nat) (c : Bool)
    (CF : Hid (∀ v, Ab w v → Calls Tryd.prog 17 #[gp, .agg #[.slice (some ⟨bb, bo, none⟩) M cb, .slice (some ⟨wb, wo, none⟩) M cw, .slice pt lt ct, .slice ps ls cs, .int .i64 sky, .int .i64 st]] v fun e w' => e = .returned (.bool true) ∧ Below v.heap.size v w'))
    (CW : Hid (∀ v, Ab w v → Calls Tryd.prog 30 #[gp, .int .i64 e, .float .f64 u] v fun e w' => e = .returned (.tuple #[.agg #[.int .i64 (U : Nat), .int .i64 (D : Nat), .int .i64 (K : Nat)], .bool true]) ∧ Below v.heap.size v w'))
    (CO : Hid (∀ v, Ab w v → Calls Tryd.prog 32 #[.agg #[.int .i64 (U : Nat), .int .i64 (D : Nat), .int .i64 (K : Nat)], gp, .int .i64 k, .agg #[.slice (some ⟨bb, bo, none⟩) M cb, .slice (some ⟨wb, wo, none⟩) M cw, .slice pt lt ct, .slice ps ls cs, .int .i64 sky, .int .i64 st]] v fun e w' => e = .returned (.float .f64 vv) ∧ Below v.heap.size v w'))
    (CG : Hid (∀ v, Ab w v → Calls Tryd.prog 33 #[.agg #[.int .i64 (U : Nat), .int .i64 (D : Nat), .int .i64 (K : Nat)], gp, .agg #[.slice (some ⟨bb, bo, none⟩) M cb, .slice (some ⟨wb, wo, none⟩) M cw, .slice pt lt ct, .slice ps ls cs, .int .i64 sky, .int .i64 st]] v fun e w' => ∃ g, e = .returned (.float .f64 g) ∧ (g < 18446744073709551616 ∧ isN g = true) ∧ Below v.heap.size v w'))
    (CN : Hid (∀ g, g < 18446744073709551616 → isN g = true → ∀ v : World, Calls Tryd.prog 31 #[.float .f64 vv, .float .f64 g] v fun e w' => e = .returned (.float .f64 r) ∧ Below v.heap.size v w'))
    (hr : fgt r 0 = c) :
    Calls Tryd.prog 15 #[gp, .int .i64 k, .agg #[.slice (some ⟨bb, bo, none⟩) M cb, .slice (some ⟨wb, wo, none⟩) M cw, .slice pt lt ct, .slice ps ls cs, .int .i64 sky, .int .i64 st], .int .i64 e, .float .f64 u] w fun e w' => e = .returned (.float .f64 (if c = true then r else 0)) ∧ Below w.heap.size w w' := by
  have A0 : Hid (Ab w (w.alloc (.cells #[.slice (some ⟨bb, bo, none⟩) M cb, .slice (some ⟨wb, wo, none⟩) M cw, .slice pt lt ct, .slice ps ls cs, .int .i64 sky, .int .i64 st] 25))) := bl1 _ _
  have RO : Hid ((w.alloc (.cells #[.slice (some ⟨bb, bo, none⟩) M cb, .slice (some ⟨wb, wo, none⟩) M cw, .slice pt lt ct, .slice ps ls cs, .int .i64 sky, .int .i64 st] 25)).heap[w.heap.size]? = some (.cells #[.slice (some ⟨bb, bo, none⟩) M cb, .slice (some ⟨wb, wo, none⟩) M cw, .slice pt lt ct, .slice ps ls cs, .int .i64 sky, .int .i64 st] 25)) := heap_alloc_new _ _
  go_enter Tryd.func15, Tryd.ntmps15
  have s0 := cell_of_row _ _ 0 _ _ _ RO.out
  have s1 := cell_of_row _ _ 1 _ _ _ RO.out
  have s2 := cell_of_row _ _ 2 _ _ _ RO.out
  have s3 := cell_of_row _ _ 3 _ _ _ RO.out
  have s4 := cell_of_row _ _ 4 _ _ _ RO.out
  have s5 := cell_of_row _ _ 5 _ _ _ RO.out
  go_wp2_with fail
  clear s0 s1 s2 s3 s4 s5
  refine (CF.out _ A0.out).mono ?_
  rintro e9 v1 ⟨rfl, b1⟩
  have A1 : Hid (Ab w v1) := A0.out.call b1
  have RO1 : Hid (v1.heap[w.heap.size]? = some (.cells #[.slice (some ⟨bb, bo, none⟩) M cb, .slice (some ⟨wb, wo, none⟩) M cw, .slice pt lt ct, .slice ps ls cs, .int .i64 sky, .int .i64 st] 25)) := Ab.heap b1 RO.out
  clear b1 A0 RO
  go_wp2_with fail
  refine (CW.out _ A1.out).mono ?_
  rintro e9 v2 ⟨rfl, b2⟩
  have A2 : Hid (Ab w (v2.alloc (.cells #[.int .i64 (U : Nat), .int .i64 (D : Nat), .int .i64 (K : Nat)] 65))) := (A1.out.call b2).alloc _
  have RS : Hid ((v2.alloc (.cells #[.int .i64 (U : Nat), .int .i64 (D : Nat), .int .i64 (K : Nat)] 65)).heap[w.heap.size]? = some (.cells #[.slice (some ⟨bb, bo, none⟩) M cb, .slice (some ⟨wb, wo, none⟩) M cw, .slice pt lt ct, .slice ps ls cs, .int .i64 sky, .int .i64 st] 25)) := Ab.heap (bl1 _ _) (Ab.heap b2 RO1.out)
  have RW : Hid ((v2.alloc (.cells #[.int .i64 (U : Nat), .int .i64 (D : Nat), .int .i64 (K : Nat)] 65)).heap[v2.heap.size]? = some (.cells #[.int .i64 (U : Nat), .int .i64 (D : Nat), .int .i64 (K : Nat)] 65)) := heap_alloc_new _ _
  clear b2 A1 RO1
  go_upto_region 6 with fail
  generalize hW : World.alloc v2 _ = W at *
  obtain ⟨gs, hgs⟩ : ∃ g, w.heap.size = g := ⟨_, rfl⟩
  obtain ⟨ge, hge⟩ : ∃ g, v2.heap.size = g := ⟨_, rfl⟩
  rw [hgs] at RS
  rw [hge] at RW
  rw [hge, hgs]
  clear hW hgs hge
  obtain ⟨UU, E, hF1, hF2⟩ := cls W
  have HU := hid hF2
  have HU1 := hid hF1
  have HX : Hid (∀ u, Ab w (E u)) := fun u => Ab.trans A2.out (hF1 u)
  have s0 : ∀ u, (E u).cell? ⟨gs, 0, none⟩ = some (.slice (some ⟨bb, bo, none⟩) M cb) := fun u => cell_of_row _ _ 0 _ _ _ ((hF1 u).heap RS.out)
  have s1 : ∀ u, (E u).cell? ⟨gs, 1, none⟩ = some (.slice (some ⟨wb, wo, none⟩) M cw) := fun u => cell_of_row _ _ 1 _ _ _ ((hF1 u).heap RS.out)
  have s2 : ∀ u, (E u).cell? ⟨gs, 2, none⟩ = some (.slice pt lt ct) := fun u => cell_of_row _ _ 2 _ _ _ ((hF1 u).heap RS.out)
  have s3 : ∀ u, (E u).cell? ⟨gs, 3, none⟩ = some (.slice ps ls cs) := fun u => cell_of_row _ _ 3 _ _ _ ((hF1 u).heap RS.out)
  have s4 : ∀ u, (E u).cell? ⟨gs, 4, none⟩ = some (.int .i64 sky) := fun u => cell_of_row _ _ 4 _ _ _ ((hF1 u).heap RS.out)
  have s5 : ∀ u, (E u).cell? ⟨gs, 5, none⟩ = some (.int .i64 st) := fun u => cell_of_row _ _ 5 _ _ _ ((hF1 u).heap RS.out)
  have y0 : ∀ u, (E u).cell? ⟨ge, 0, none⟩ = some (.int .i64 (U : Nat)) := fun u => cell_of_row _ _ 0 _ _ _ ((hF1 u).heap RW.out)
  have y1 : ∀ u, (E u).cell? ⟨ge, 1, none⟩ = some (.int .i64 (D : Nat)) := fun u => cell_of_row _ _ 1 _ _ _ ((hF1 u).heap RW.out)
  have y2 : ∀ u, (E u).cell? ⟨ge, 2, none⟩ = some (.int .i64 (K : Nat)) := fun u => cell_of_row _ _ 2 _ _ _ ((hF1 u).heap RW.out)
  have DD0 := HU.out _ (Ab.refl W).drew
  clear hF1 hF2
  refine region_tail 8 E (by kernel_rfl) (by kernel_rfl) (by kernel_rfl) DD0 ?_
  simp only [List.take_succ_cons, List.take_zero, List.drop_succ_cons, List.drop_zero]
  repeat (go_big_quiet_step (first
    | (with_reducible rfl)
    | (go_at_call 32; exact calls_cls HU HU1 (CO.out _ (HX.out _)))))
  refine wpQuiet_nil ?_
  intro z hwz
  obtain ⟨u0, hu⟩ := hwz
  have AZ : Hid (Ab w z) := by rw [hu]; exact HX.out u0
  clear hu u0
  clear HU HU1 HX DD0 s0 s1 s2 s3 s4 s5 y0 y1 y2
  clear E UU
  go_wp2_with fail
  refine (CG.out _ AZ.out).mono ?_
  rintro e9 v3 ⟨g, rfl, hg, b3⟩
  have A3 : Hid (Ab w v3) := AZ.out.call b3
  have HG := hid hg
  clear b3 hg AZ
  go_wp2_with fail
  refine (CN.out g HG.out.1 HG.out.2 _).mono ?_
  rintro e9 v4 ⟨rfl, b4⟩
  have AZ : Hid (Ab w v4) := A3.out.call b4
  clear b4 A3 HG
  have AY : Hid (Ab w v4) := AZ.out
  clear AZ
  cases c
  · go_wp2
    go_ret
    exact ⟨rfl, AY.out⟩
  · go_wp2
    go_ret
    exact ⟨rfl, AY.out⟩
end Go.Proofs.YtbhgfmoopmlnjaaDoor

namespace Go.Proofs.YtbhgfmoopmlnjaaDoor
open Go.RowKit Tf
attribute [local go_sem] run_bits run_from raw_feq raw_fne raw_flt raw_fgt run_neg
theorem isC_eq {r c : Nat} (h : IsC r c) (c0 : 0 < c) (c1 : c ≤ 9218868437227405312) : r = c := by
  have e := h.2
  unfold canonB at e
  split at e
  · unfold quiet at e; omega
  · split at e
    · omega
    · exact e
theorem add_can {P : Program} (w : World) (s x : Nat) (hs : s < 18446744073709551616) (hx : x < 18446744073709551616) :
    ∃ r n, (∀ t, (binOp .add t (.float .f64 s) (.float .f64 x)).run P w = .ok (.float .f64 r) (w.drewN n)) ∧ IsC r (addB s x) := by
  cases e : Ieee.double.add s x with
  | none => exact ⟨nanOf w s x, 1, fun t => run_nan_add w t s x e, nanOf_lt _ _ _, by rw [addB_none e]; unfold canonB; rw [if_pos (isN_nanOf _ _ _)]⟩
  | some r => exact ⟨r, 0, fun t => run_float_arith w .add t .f64 s x r e, by
      have q := IsQ.add (IsQ.self hs) (IsQ.self hx) e
      exact q.1, by rw [addB_some e]⟩
theorem depth_no (n a : Int) (w : World) (h : n < 1 ∨ a < 1) :
    Calls Tryd.prog 75 #[.int .i64 n, .int .i64 a] w fun e w' => e = .returned (.float .f64 0) ∧ w' = w := by
  by_cases c : n < 1
  · go_enter Tryd.func75, Tryd.ntmps75
    go_wp2
    go_ret
    exact ⟨rfl, rfl⟩
  · have d : a < 1 := by omega
    clear h
    go_enter Tryd.func75, Tryd.ntmps75
    go_wp2
    go_ret
    exact ⟨rfl, rfl⟩
theorem depth_yes (n a : Int) (w : World) (h1 : 1 ≤ n) (h2 : 1 ≤ a) (n2 : n ≤ 9223372036854775807) (a2 : a ≤ 9223372036854775807) :
    Calls Tryd.prog 75 #[.int .i64 n, .int .i64 a] w fun e w' => e = .returned (.float .f64 (dpB n a)) ∧ ∃ k, w' = w.drewN k := by
  obtain ⟨r, k, hr, hc⟩ := div_any (P := Tryd.prog) w (fw n) (fw a)
  have e := isC_eq hc (by rw [← dp_of h1 h2]; have := dp_in h1 h2 n2 a2; omega) (by rw [← dp_of h1 h2]; have := dp_in h1 h2 n2 a2; omega)
  rw [dp_of h1 h2, ← e]
  clear e hc
  have F1 := hid (fromInt_any n w)
  have F2 := hid (fromInt_any a w)
  rw [show rn false (n * one) = fw n from rfl] at F1
  rw [show rn false (a * one) = fw a from rfl] at F2
  generalize fw n = x at *
  generalize fw a = y at *
  go_enter Tryd.func75, Tryd.ntmps75
  go_wp2_with fail
  refine F1.out.mono ?_
  rintro e w' ⟨rfl, rfl⟩
  go_wp2_with fail
  refine F2.out.mono ?_
  rintro e w' ⟨rfl, rfl⟩
  go_wp2
  go_ret
  exact ⟨rfl, k, rfl⟩
theorem depth_at (n a : Int) (w : World) (n2 : n ≤ 9223372036854775807) (a2 : a ≤ 9223372036854775807) :
    Calls Tryd.prog 75 #[.int .i64 n, .int .i64 a] w fun e w' => e = .returned (.float .f64 (dpB n a)) ∧ ∃ k, w' = w.drewN k := by
  by_cases c : n < 1 ∨ a < 1
  · rw [dp_zero c]
    exact (depth_no n a w c).mono fun _ _ h => ⟨h.1, 0, h.2⟩
  · exact depth_yes n a w (by omega) (by omega) n2 a2
theorem level_at (b : Nat) (n a : Int) (w : World) (hb : b < 18446744073709551616) (n2 : n ≤ 9223372036854775807) (a2 : a ≤ 9223372036854775807) :
    Calls Tryd.prog 49 #[.float .f64 b, .int .i64 n, .int .i64 a] w fun e w' => e = .returned (.float .f64 (lvl b n a)) ∧ ∃ k, w' = w.drewN k := by
  have D := hid (depth_at n a w n2 a2)
  have e0 : lvl b n a = addB b (dpB n a) := rfl
  rw [e0]
  have hd : dpB n a < 18446744073709551616 := by have := dp_le n2 a2; omega
  clear e0
  generalize dpB n a = d at *
  have AD : Hid (∀ k : Nat, ∃ r m, (∀ t, (binOp .add t (.float .f64 b) (.float .f64 d)).run Tryd.prog (w.drewN k) = .ok (.float .f64 r) ((w.drewN k).drewN m)) ∧ IsC r (addB b d)) := fun k => add_can _ b d hb hd
  generalize addB b d = y at *
  go_enter Tryd.func49, Tryd.ntmps49
  go_wp2_with fail
  refine D.out.mono ?_
  rintro e w' ⟨rfl, k, rfl⟩
  obtain ⟨r, m, hr, hc⟩ := AD.out k
  have C := hid (canon_any r (w.drewN (k + m)) hc.1)
  rw [hc.2] at C
  go_wp2_with fail
  refine C.out.mono ?_
  rintro e w' ⟨rfl, rfl⟩
  go_wp2
  go_ret
  exact ⟨rfl, k + m, rfl⟩
end Go.Proofs.YtbhgfmoopmlnjaaDoor
