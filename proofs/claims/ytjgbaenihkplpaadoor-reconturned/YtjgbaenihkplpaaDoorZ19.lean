/-
  Some of the texts of this proof, one behind the other.
-/
import Derived.Test.YtjgbaenihkplpaaDoorZ16
import Derived.Test.YtjgbaenihkplpaaDoorZ05
import Derived.Test.YtjgbaenihkplpaaDoorZ12
import Derived.Deep.QuietTactic
import Derived.Test.YtjgbaenihkplpaaDoorZ15
import Derived.Test.YtjgbaenihkplpaaDoorZ14
import Derived.Test.YtjgbaenihkplpaaDoorZ08
/-
  What stands above the higher bed: walks over the program.
-/
namespace Go.Proofs.YtjgbaenihkplpaaDoor
open Go.RowKit Tf Cu
attribute [local go_sem] run_bits run_from raw_feq raw_fne raw_flt raw_fgt run_neg run_store_float
set_option maxRecDepth 100000 in
set_option maxHeartbeats 8000000 in
theorem gate12_some_at (gp : Value) (bb bo wb wo M cb cw : Nat) (pt ps : Option Addr) (lt ct ls cs : Nat) (sky st : Int) (U D K : Nat) (wU aU : Int) (bU bD l m : Nat) (w : World) (hU : ((U : Nat) : Int) < M) (hD : ((D : Nat) : Int) < M)
    (FW : Hid (∀ v, Ab w v → v.cell? ⟨wb, wo + U, none⟩ = some (.int .i64 wU) ∧ v.cell? ⟨bb, bo + U, none⟩ = some (.float .f64 bU) ∧ v.cell? ⟨bb, bo + D, none⟩ = some (.float .f64 bD)))
    (AU : Hid (∀ v, Ab w v → Calls Tryd.prog 17 #[gp, .int .i64 (U : Nat)] v fun e w' => e = .returned (.int .i64 aU) ∧ Below v.heap.size v w'))
    (CL : Hid (∀ v : World, Calls Tryd.prog 19 #[.float .f64 bU, .int .i64 wU, .int .i64 aU] v fun e w' => e = .returned (.float .f64 l) ∧ Below v.heap.size v w'))
    (CM : Hid (∀ v : World, Calls Tryd.prog 20 #[.float .f64 bU, .float .f64 bD] v fun e w' => e = .returned (.float .f64 m) ∧ Below v.heap.size v w'))
    (g : Nat)
    (hg : ∀ (t : TypeId) (w : World), (binOp .sub t (.float .f64 l) (.float .f64 m)).run Tryd.prog w = .ok (.float .f64 g) w) :
    Calls Tryd.prog 31 #[.agg #[.int .i64 (U : Nat), .int .i64 (D : Nat), .int .i64 (K : Nat)], gp, .agg #[.slice (some ⟨bb, bo, none⟩) M cb, .slice (some ⟨wb, wo, none⟩) M cw, .slice pt lt ct, .slice ps ls cs, .int .i64 sky, .int .i64 st]] w fun e w' => e = .returned (.float .f64 g) ∧ Below w.heap.size w w' := by
  have A0 : Hid (Ab w ((w.alloc (.cells #[.int .i64 (U : Nat), .int .i64 (D : Nat), .int .i64 (K : Nat)] 69)).alloc (.cells #[.slice (some ⟨bb, bo, none⟩) M cb, .slice (some ⟨wb, wo, none⟩) M cw, .slice pt lt ct, .slice ps ls cs, .int .i64 sky, .int .i64 st] 25))) := bl2 _ _ _
  have RW0 : Hid (((w.alloc (.cells #[.int .i64 (U : Nat), .int .i64 (D : Nat), .int .i64 (K : Nat)] 69)).alloc (.cells #[.slice (some ⟨bb, bo, none⟩) M cb, .slice (some ⟨wb, wo, none⟩) M cw, .slice pt lt ct, .slice ps ls cs, .int .i64 sky, .int .i64 st] 25)).heap[w.heap.size]? = some (.cells #[.int .i64 (U : Nat), .int .i64 (D : Nat), .int .i64 (K : Nat)] 69)) := heap_alloc2_old _ _ _
  have RS0 : Hid (((w.alloc (.cells #[.int .i64 (U : Nat), .int .i64 (D : Nat), .int .i64 (K : Nat)] 69)).alloc (.cells #[.slice (some ⟨bb, bo, none⟩) M cb, .slice (some ⟨wb, wo, none⟩) M cw, .slice pt lt ct, .slice ps ls cs, .int .i64 sky, .int .i64 st] 25)).heap[w.heap.size + 1]? = some (.cells #[.slice (some ⟨bb, bo, none⟩) M cb, .slice (some ⟨wb, wo, none⟩) M cw, .slice pt lt ct, .slice ps ls cs, .int .i64 sky, .int .i64 st] 25)) := heap_alloc2_new _ _ _
  have AV : Hid (Ab ((w.alloc (.cells #[.int .i64 (U : Nat), .int .i64 (D : Nat), .int .i64 (K : Nat)] 69)).alloc (.cells #[.slice (some ⟨bb, bo, none⟩) M cb, .slice (some ⟨wb, wo, none⟩) M cw, .slice pt lt ct, .slice ps ls cs, .int .i64 sky, .int .i64 st] 25)) ((w.alloc (.cells #[.int .i64 (U : Nat), .int .i64 (D : Nat), .int .i64 (K : Nat)] 69)).alloc (.cells #[.slice (some ⟨bb, bo, none⟩) M cb, .slice (some ⟨wb, wo, none⟩) M cw, .slice pt lt ct, .slice ps ls cs, .int .i64 sky, .int .i64 st] 25))) := Ab.refl _
  have bb1 := (FW.out _ A0.out).2.1
  go_enter Tryd.func31, Tryd.ntmps31
  have s0 := cell_of_row _ _ 0 _ _ _ RS0.out
  have y0 := cell_of_row _ _ 0 _ _ _ RW0.out
  go_upto_region 2 with fail
  clear s0 y0 bb1
  generalize hW : World.alloc (World.alloc w _) _ = W at *
  obtain ⟨g0, hg0⟩ : ∃ g, w.heap.size = g := ⟨_, rfl⟩
  obtain ⟨g1, hg1⟩ : ∃ g, w.heap.size + 1 = g := ⟨_, rfl⟩
  rw [hg0] at RW0
  rw [hg1] at RS0
  rw [hg1, hg0]
  clear hg0 hg1 hW AV
  obtain ⟨UU, E, hF1, hF2⟩ := cls W
  have HU := hid hF2
  have HU1 := hid hF1
  have HX : Hid (∀ u, Ab w (E u)) := fun u => Ab.trans A0.out (hF1 u)
  have s0 : ∀ u, (E u).cell? ⟨g1, 0, none⟩ = some (.slice (some ⟨bb, bo, none⟩) M cb) := fun u => cell_of_row _ _ 0 _ _ _ ((hF1 u).heap RS0.out)
  have s1 : ∀ u, (E u).cell? ⟨g1, 1, none⟩ = some (.slice (some ⟨wb, wo, none⟩) M cw) := fun u => cell_of_row _ _ 1 _ _ _ ((hF1 u).heap RS0.out)
  have y0 : ∀ u, (E u).cell? ⟨g0, 0, none⟩ = some (.int .i64 (U : Nat)) := fun u => cell_of_row _ _ 0 _ _ _ ((hF1 u).heap RW0.out)
  have y1 : ∀ u, (E u).cell? ⟨g0, 1, none⟩ = some (.int .i64 (D : Nat)) := fun u => cell_of_row _ _ 1 _ _ _ ((hF1 u).heap RW0.out)
  have xw : ∀ u, (E u).cell? ⟨wb, wo + U, none⟩ = some (.int .i64 wU) := fun u => (FW.out _ (HX.out u)).1
  have xd : ∀ u, (E u).cell? ⟨bb, bo + D, none⟩ = some (.float .f64 bD) := fun u => (FW.out _ (HX.out u)).2.2
  have DD0 := HU.out _ (Ab.refl W).drew
  clear hF1 hF2
  refine region_cls E (by kernel_rfl) (by kernel_rfl) DD0 ?_
  repeat (go_big_quiet_step (first
    | (with_reducible rfl)
    | (go_at_call 17; exact calls_cls HU HU1 (AU.out _ (HX.out _)))
    | (go_at_call 19; exact calls_cls HU HU1 (CL.out _))
    | (go_at_call 20; exact calls_cls HU HU1 (CM.out _))))
  refine wpQuiet_nil ?_
  intro z hwz
  obtain ⟨u0, hu⟩ := hwz
  have AZ : Hid (Ab w z) := by rw [hu]; exact HX.out u0
  clear hu u0
  clear HU HU1 HX DD0 s0 s1 y0 y1 xw xd
  clear E UU
  go_wp2
  go_ret
  exact ⟨rfl, AZ.out⟩
set_option maxRecDepth 100000 in
set_option maxHeartbeats 8000000 in
theorem gate12_none_at (gp : Value) (bb bo wb wo M cb cw : Nat) (pt ps : Option Addr) (lt ct ls cs : Nat) (sky st : Int) (U D K : Nat) (wU aU : Int) (bU bD l m : Nat) (w : World) (hU : ((U : Nat) : Int) < M) (hD : ((D : Nat) : Int) < M)
    (FW : Hid (∀ v, Ab w v → v.cell? ⟨wb, wo + U, none⟩ = some (.int .i64 wU) ∧ v.cell? ⟨bb, bo + U, none⟩ = some (.float .f64 bU) ∧ v.cell? ⟨bb, bo + D, none⟩ = some (.float .f64 bD)))
    (AU : Hid (∀ v, Ab w v → Calls Tryd.prog 17 #[gp, .int .i64 (U : Nat)] v fun e w' => e = .returned (.int .i64 aU) ∧ Below v.heap.size v w'))
    (CL : Hid (∀ v : World, Calls Tryd.prog 19 #[.float .f64 bU, .int .i64 wU, .int .i64 aU] v fun e w' => e = .returned (.float .f64 l) ∧ Below v.heap.size v w'))
    (CM : Hid (∀ v : World, Calls Tryd.prog 20 #[.float .f64 bU, .float .f64 bD] v fun e w' => e = .returned (.float .f64 m) ∧ Below v.heap.size v w'))
    (hg : ∀ (t : TypeId) (w : World), (binOp .sub t (.float .f64 l) (.float .f64 m)).run Tryd.prog w = .ok (.float .f64 (nanOf w l m)) (w.drewN 1)) :
    Calls Tryd.prog 31 #[.agg #[.int .i64 (U : Nat), .int .i64 (D : Nat), .int .i64 (K : Nat)], gp, .agg #[.slice (some ⟨bb, bo, none⟩) M cb, .slice (some ⟨wb, wo, none⟩) M cw, .slice pt lt ct, .slice ps ls cs, .int .i64 sky, .int .i64 st]] w fun e w' => ∃ g, e = .returned (.float .f64 g) ∧ (g < 18446744073709551616 ∧ isN g = true) ∧ Below w.heap.size w w' := by
  have A0 : Hid (Ab w ((w.alloc (.cells #[.int .i64 (U : Nat), .int .i64 (D : Nat), .int .i64 (K : Nat)] 69)).alloc (.cells #[.slice (some ⟨bb, bo, none⟩) M cb, .slice (some ⟨wb, wo, none⟩) M cw, .slice pt lt ct, .slice ps ls cs, .int .i64 sky, .int .i64 st] 25))) := bl2 _ _ _
  have RW0 : Hid (((w.alloc (.cells #[.int .i64 (U : Nat), .int .i64 (D : Nat), .int .i64 (K : Nat)] 69)).alloc (.cells #[.slice (some ⟨bb, bo, none⟩) M cb, .slice (some ⟨wb, wo, none⟩) M cw, .slice pt lt ct, .slice ps ls cs, .int .i64 sky, .int .i64 st] 25)).heap[w.heap.size]? = some (.cells #[.int .i64 (U : Nat), .int .i64 (D : Nat), .int .i64 (K : Nat)] 69)) := heap_alloc2_old _ _ _
  have RS0 : Hid (((w.alloc (.cells #[.int .i64 (U : Nat), .int .i64 (D : Nat), .int .i64 (K : Nat)] 69)).alloc (.cells #[.slice (some ⟨bb, bo, none⟩) M cb, .slice (some ⟨wb, wo, none⟩) M cw, .slice pt lt ct, .slice ps ls cs, .int .i64 sky, .int .i64 st] 25)).heap[w.heap.size + 1]? = some (.cells #[.slice (some ⟨bb, bo, none⟩) M cb, .slice (some ⟨wb, wo, none⟩) M cw, .slice pt lt ct, .slice ps ls cs, .int .i64 sky, .int .i64 st] 25)) := heap_alloc2_new _ _ _
  have AV : Hid (Ab ((w.alloc (.cells #[.int .i64 (U : Nat), .int .i64 (D : Nat), .int .i64 (K : Nat)] 69)).alloc (.cells #[.slice (some ⟨bb, bo, none⟩) M cb, .slice (some ⟨wb, wo, none⟩) M cw, .slice pt lt ct, .slice ps ls cs, .int .i64 sky, .int .i64 st] 25)) ((w.alloc (.cells #[.int .i64 (U : Nat), .int .i64 (D : Nat), .int .i64 (K : Nat)] 69)).alloc (.cells #[.slice (some ⟨bb, bo, none⟩) M cb, .slice (some ⟨wb, wo, none⟩) M cw, .slice pt lt ct, .slice ps ls cs, .int .i64 sky, .int .i64 st] 25))) := Ab.refl _
  have bb1 := (FW.out _ A0.out).2.1
  go_enter Tryd.func31, Tryd.ntmps31
  have s0 := cell_of_row _ _ 0 _ _ _ RS0.out
  have y0 := cell_of_row _ _ 0 _ _ _ RW0.out
  go_upto_region 2 with fail
  clear s0 y0 bb1
  generalize hW : World.alloc (World.alloc w _) _ = W at *
  obtain ⟨g0, hg0⟩ : ∃ g, w.heap.size = g := ⟨_, rfl⟩
  obtain ⟨g1, hg1⟩ : ∃ g, w.heap.size + 1 = g := ⟨_, rfl⟩
  rw [hg0] at RW0
  rw [hg1] at RS0
  rw [hg1, hg0]
  clear hg0 hg1 hW AV
  obtain ⟨UU, E, hF1, hF2⟩ := cls W
  have HU := hid hF2
  have HU1 := hid hF1
  have HX : Hid (∀ u, Ab w (E u)) := fun u => Ab.trans A0.out (hF1 u)
  have s0 : ∀ u, (E u).cell? ⟨g1, 0, none⟩ = some (.slice (some ⟨bb, bo, none⟩) M cb) := fun u => cell_of_row _ _ 0 _ _ _ ((hF1 u).heap RS0.out)
  have s1 : ∀ u, (E u).cell? ⟨g1, 1, none⟩ = some (.slice (some ⟨wb, wo, none⟩) M cw) := fun u => cell_of_row _ _ 1 _ _ _ ((hF1 u).heap RS0.out)
  have y0 : ∀ u, (E u).cell? ⟨g0, 0, none⟩ = some (.int .i64 (U : Nat)) := fun u => cell_of_row _ _ 0 _ _ _ ((hF1 u).heap RW0.out)
  have y1 : ∀ u, (E u).cell? ⟨g0, 1, none⟩ = some (.int .i64 (D : Nat)) := fun u => cell_of_row _ _ 1 _ _ _ ((hF1 u).heap RW0.out)
  have xw : ∀ u, (E u).cell? ⟨wb, wo + U, none⟩ = some (.int .i64 wU) := fun u => (FW.out _ (HX.out u)).1
  have xd : ∀ u, (E u).cell? ⟨bb, bo + D, none⟩ = some (.float .f64 bD) := fun u => (FW.out _ (HX.out u)).2.2
  have DD0 := HU.out _ (Ab.refl W).drew
  clear hF1 hF2
  refine region_tail 20 E (by kernel_rfl) (by kernel_rfl) (by kernel_rfl) DD0 ?_
  simp only [List.take_succ_cons, List.take_zero, List.drop_succ_cons, List.drop_zero]
  repeat (go_big_quiet_step (first
    | (with_reducible rfl)
    | (go_at_call 17; exact calls_cls HU HU1 (AU.out _ (HX.out _)))
    | (go_at_call 19; exact calls_cls HU HU1 (CL.out _))
    | (go_at_call 20; exact calls_cls HU HU1 (CM.out _))))
  refine wpQuiet_nil ?_
  intro z hwz
  obtain ⟨u0, hu⟩ := hwz
  have AZ : Hid (Ab w z) := by rw [hu]; exact HX.out u0
  clear hu u0
  clear HU HU1 HX DD0 s0 s1 y0 y1 xw xd
  clear E UU
  go_wp2
  go_ret
  exact ⟨_, rfl, ⟨nanOf_lt _ _ _, isN_nanOf _ _ _⟩, Ab.drewN AZ.out 1⟩
end Go.Proofs.YtjgbaenihkplpaaDoor

/-
  The depth over an edge: walks over the program.
-/
namespace Go.Proofs.YtjgbaenihkplpaaDoor
open Go.RowKit Tf Cu
attribute [local go_sem] run_bits run_from raw_feq raw_fne raw_flt raw_fgt run_neg run_store_float
set_option maxRecDepth 100000 in
set_option maxHeartbeats 8000000 in
theorem dp12_nofit (gp : Value) (pb pw pt ps : Option Addr) (lb cb lw cw lt ct ls cs : Nat) (sky st : Int) (k : Int) (e : Int) (u : Nat) (w : World)
    (CF : Hid (∀ v, Ab w v → Calls Tryd.prog 27 #[gp, .agg #[.slice pb lb cb, .slice pw lw cw, .slice pt lt ct, .slice ps ls cs, .int .i64 sky, .int .i64 st]] v fun e w' => e = .returned (.bool false) ∧ Below v.heap.size v w')) :
    Calls Tryd.prog 11 #[gp, .int .i64 k, .agg #[.slice pb lb cb, .slice pw lw cw, .slice pt lt ct, .slice ps ls cs, .int .i64 sky, .int .i64 st], .int .i64 e, .float .f64 u] w fun e w' => e = .returned (.float .f64 0) ∧ Below w.heap.size w w' := by
  have A0 : Hid (Ab w (w.alloc (.cells #[.slice pb lb cb, .slice pw lw cw, .slice pt lt ct, .slice ps ls cs, .int .i64 sky, .int .i64 st] 25))) := bl1 _ _
  have RO : Hid ((w.alloc (.cells #[.slice pb lb cb, .slice pw lw cw, .slice pt lt ct, .slice ps ls cs, .int .i64 sky, .int .i64 st] 25)).heap[w.heap.size]? = some (.cells #[.slice pb lb cb, .slice pw lw cw, .slice pt lt ct, .slice ps ls cs, .int .i64 sky, .int .i64 st] 25)) := heap_alloc_new _ _
  go_enter Tryd.func11, Tryd.ntmps11
  have s0 := cell_of_row _ _ 0 _ _ _ RO.out
  have s1 := cell_of_row _ _ 1 _ _ _ RO.out
  have s2 := cell_of_row _ _ 2 _ _ _ RO.out
  have s3 := cell_of_row _ _ 3 _ _ _ RO.out
  have s4 := cell_of_row _ _ 4 _ _ _ RO.out
  have s5 := cell_of_row _ _ 5 _ _ _ RO.out
  go_wp2_with fail
  clear s0 s1 s2 s3 s4 s5
  refine (CF.out _ A0.out).mono ?_
  rintro e9 v1 ⟨rfl, b1⟩
  have A1 : Hid (Ab w v1) := A0.out.call b1
  have RO1 : Hid (v1.heap[w.heap.size]? = some (.cells #[.slice pb lb cb, .slice pw lw cw, .slice pt lt ct, .slice ps ls cs, .int .i64 sky, .int .i64 st] 25)) := Ab.heap b1 RO.out
  clear b1 A0 RO
  go_wp2
  go_ret
  exact ⟨rfl, A1.out⟩
set_option maxRecDepth 100000 in
set_option maxHeartbeats 8000000 in
theorem dp12_noway (gp : Value) (pb pw pt ps : Option Addr) (lb cb lw cw lt ct ls cs : Nat) (sky st : Int) (k : Int) (e : Int) (u : Nat) (w : World)
    (CF : Hid (∀ v, Ab w v → Calls Tryd.prog 27 #[gp, .agg #[.slice pb lb cb, .slice pw lw cw, .slice pt lt ct, .slice ps ls cs, .int .i64 sky, .int .i64 st]] v fun e w' => e = .returned (.bool true) ∧ Below v.heap.size v w'))
    (CW : Hid (∀ v, Ab w v → Calls Tryd.prog 28 #[gp, .int .i64 e, .float .f64 u] v fun e w' => e = .returned (.tuple #[.agg #[.int .i64 0, .int .i64 0, .int .i64 0], .bool false]) ∧ Below v.heap.size v w')) :
    Calls Tryd.prog 11 #[gp, .int .i64 k, .agg #[.slice pb lb cb, .slice pw lw cw, .slice pt lt ct, .slice ps ls cs, .int .i64 sky, .int .i64 st], .int .i64 e, .float .f64 u] w fun e w' => e = .returned (.float .f64 0) ∧ Below w.heap.size w w' := by
  have A0 : Hid (Ab w (w.alloc (.cells #[.slice pb lb cb, .slice pw lw cw, .slice pt lt ct, .slice ps ls cs, .int .i64 sky, .int .i64 st] 25))) := bl1 _ _
  have RO : Hid ((w.alloc (.cells #[.slice pb lb cb, .slice pw lw cw, .slice pt lt ct, .slice ps ls cs, .int .i64 sky, .int .i64 st] 25)).heap[w.heap.size]? = some (.cells #[.slice pb lb cb, .slice pw lw cw, .slice pt lt ct, .slice ps ls cs, .int .i64 sky, .int .i64 st] 25)) := heap_alloc_new _ _
  go_enter Tryd.func11, Tryd.ntmps11
  have s0 := cell_of_row _ _ 0 _ _ _ RO.out
  have s1 := cell_of_row _ _ 1 _ _ _ RO.out
  have s2 := cell_of_row _ _ 2 _ _ _ RO.out
  have s3 := cell_of_row _ _ 3 _ _ _ RO.out
  have s4 := cell_of_row _ _ 4 _ _ _ RO.out
  have s5 := cell_of_row _ _ 5 _ _ _ RO.out
  go_wp2_with fail
  clear s0 s1 s2 s3 s4 s5
  refine (CF.out _ A0.out).mono ?_
  rintro e9 v1 ⟨rfl, b1⟩
  have A1 : Hid (Ab w v1) := A0.out.call b1
  have RO1 : Hid (v1.heap[w.heap.size]? = some (.cells #[.slice pb lb cb, .slice pw lw cw, .slice pt lt ct, .slice ps ls cs, .int .i64 sky, .int .i64 st] 25)) := Ab.heap b1 RO.out
  clear b1 A0 RO
  go_wp2_with fail
  refine (CW.out _ A1.out).mono ?_
  rintro e9 v2 ⟨rfl, b2⟩
  have A2 : Hid (Ab w (v2.alloc (.cells #[.int .i64 0, .int .i64 0, .int .i64 0] 69))) := (A1.out.call b2).alloc _
  clear b2 A1 RO1
  go_wp2
  go_ret
  exact ⟨rfl, A2.out⟩
set_option maxRecDepth 100000 in
set_option maxHeartbeats 8000000 in
theorem dp12_some (gp : Value) (bb bo wb wo M cb cw : Nat) (pt ps : Option Addr) (lt ct ls cs : Nat) (sky st : Int) (k : Int) (e : Int) (u : Nat) (w : World) (U D K vv r : Nat) (c : Bool)
    (CF : Hid (∀ v, Ab w v → Calls Tryd.prog 27 #[gp, .agg #[.slice (some ⟨bb, bo, none⟩) M cb, .slice (some ⟨wb, wo, none⟩) M cw, .slice pt lt ct, .slice ps ls cs, .int .i64 sky, .int .i64 st]] v fun e w' => e = .returned (.bool true) ∧ Below v.heap.size v w'))
    (CW : Hid (∀ v, Ab w v → Calls Tryd.prog 28 #[gp, .int .i64 e, .float .f64 u] v fun e w' => e = .returned (.tuple #[.agg #[.int .i64 (U : Nat), .int .i64 (D : Nat), .int .i64 (K : Nat)], .bool true]) ∧ Below v.heap.size v w'))
    (CO : Hid (∀ v, Ab w v → Calls Tryd.prog 30 #[.agg #[.int .i64 (U : Nat), .int .i64 (D : Nat), .int .i64 (K : Nat)], gp, .int .i64 k, .agg #[.slice (some ⟨bb, bo, none⟩) M cb, .slice (some ⟨wb, wo, none⟩) M cw, .slice pt lt ct, .slice ps ls cs, .int .i64 sky, .int .i64 st]] v fun e w' => e = .returned (.float .f64 vv) ∧ Below v.heap.size v w'))
    (g : Nat)
    (CG : Hid (∀ v, Ab w v → Calls Tryd.prog 31 #[.agg #[.int .i64 (U : Nat), .int .i64 (D : Nat), .int .i64 (K : Nat)], gp, .agg #[.slice (some ⟨bb, bo, none⟩) M cb, .slice (some ⟨wb, wo, none⟩) M cw, .slice pt lt ct, .slice ps ls cs, .int .i64 sky, .int .i64 st]] v fun e w' => e = .returned (.float .f64 g) ∧ Below v.heap.size v w'))
    (CN : Hid (∀ v : World, Calls Tryd.prog 29 #[.float .f64 vv, .float .f64 g] v fun e w' => e = .returned (.float .f64 r) ∧ Below v.heap.size v w'))
    (hr : fgt r 0 = c) :
    Calls Tryd.prog 11 #[gp, .int .i64 k, .agg #[.slice (some ⟨bb, bo, none⟩) M cb, .slice (some ⟨wb, wo, none⟩) M cw, .slice pt lt ct, .slice ps ls cs, .int .i64 sky, .int .i64 st], .int .i64 e, .float .f64 u] w fun e w' => e = .returned (.float .f64 (if c = true then r else 0)) ∧ Below w.heap.size w w' := by
  have A0 : Hid (Ab w (w.alloc (.cells #[.slice (some ⟨bb, bo, none⟩) M cb, .slice (some ⟨wb, wo, none⟩) M cw, .slice pt lt ct, .slice ps ls cs, .int .i64 sky, .int .i64 st] 25))) := bl1 _ _
  have RO : Hid ((w.alloc (.cells #[.slice (some ⟨bb, bo, none⟩) M cb, .slice (some ⟨wb, wo, none⟩) M cw, .slice pt lt ct, .slice ps ls cs, .int .i64 sky, .int .i64 st] 25)).heap[w.heap.size]? = some (.cells #[.slice (some ⟨bb, bo, none⟩) M cb, .slice (some ⟨wb, wo, none⟩) M cw, .slice pt lt ct, .slice ps ls cs, .int .i64 sky, .int .i64 st] 25)) := heap_alloc_new _ _
  go_enter Tryd.func11, Tryd.ntmps11
  have s0 := cell_of_row _ _ 0 _ _ _ RO.out
  have s1 := cell_of_row _ _ 1 _ _ _ RO.out
  have s2 := cell_of_row _ _ 2 _ _ _ RO.out
  have s3 := cell_of_row _ _ 3 _ _ _ RO.out
  have s4 := cell_of_row _ _ 4 _ _ _ RO.out
  have s5 := cell_of_row _ _ 5 _ _ _ RO.out
  go_wp2_with fail
  clear s0 s1 s2 s3 s4 s5
  refine (CF.out _ A0.out).mono ?_
  rintro e9 v1 ⟨rfl, b1⟩
  have A1 : Hid (Ab w v1) := A0.out.call b1
  have RO1 : Hid (v1.heap[w.heap.size]? = some (.cells #[.slice (some ⟨bb, bo, none⟩) M cb, .slice (some ⟨wb, wo, none⟩) M cw, .slice pt lt ct, .slice ps ls cs, .int .i64 sky, .int .i64 st] 25)) := Ab.heap b1 RO.out
  clear b1 A0 RO
  go_wp2_with fail
  refine (CW.out _ A1.out).mono ?_
  rintro e9 v2 ⟨rfl, b2⟩
  have A2 : Hid (Ab w (v2.alloc (.cells #[.int .i64 (U : Nat), .int .i64 (D : Nat), .int .i64 (K : Nat)] 69))) := (A1.out.call b2).alloc _
  have RS : Hid ((v2.alloc (.cells #[.int .i64 (U : Nat), .int .i64 (D : Nat), .int .i64 (K : Nat)] 69)).heap[w.heap.size]? = some (.cells #[.slice (some ⟨bb, bo, none⟩) M cb, .slice (some ⟨wb, wo, none⟩) M cw, .slice pt lt ct, .slice ps ls cs, .int .i64 sky, .int .i64 st] 25)) := Ab.heap (bl1 _ _) (Ab.heap b2 RO1.out)
  have RW : Hid ((v2.alloc (.cells #[.int .i64 (U : Nat), .int .i64 (D : Nat), .int .i64 (K : Nat)] 69)).heap[v2.heap.size]? = some (.cells #[.int .i64 (U : Nat), .int .i64 (D : Nat), .int .i64 (K : Nat)] 69)) := heap_alloc_new _ _
  clear b2 A1 RO1
  go_upto_region 6 with fail
  generalize hW : World.alloc v2 _ = W at *
  obtain ⟨gs, hgs⟩ : ∃ g, w.heap.size = g := ⟨_, rfl⟩
  obtain ⟨ge, hge⟩ : ∃ g, v2.heap.size = g := ⟨_, rfl⟩
  rw [hgs] at RS
  rw [hge] at RW
  rw [hge, hgs]
  clear hW hgs hge
  obtain ⟨UU, E, hF1, hF2⟩ := cls W
  have HU := hid hF2
  have HU1 := hid hF1
  have HX : Hid (∀ u, Ab w (E u)) := fun u => Ab.trans A2.out (hF1 u)
  have s0 : ∀ u, (E u).cell? ⟨gs, 0, none⟩ = some (.slice (some ⟨bb, bo, none⟩) M cb) := fun u => cell_of_row _ _ 0 _ _ _ ((hF1 u).heap RS.out)
  have s1 : ∀ u, (E u).cell? ⟨gs, 1, none⟩ = some (.slice (some ⟨wb, wo, none⟩) M cw) := fun u => cell_of_row _ _ 1 _ _ _ ((hF1 u).heap RS.out)
  have s2 : ∀ u, (E u).cell? ⟨gs, 2, none⟩ = some (.slice pt lt ct) := fun u => cell_of_row _ _ 2 _ _ _ ((hF1 u).heap RS.out)
  have s3 : ∀ u, (E u).cell? ⟨gs, 3, none⟩ = some (.slice ps ls cs) := fun u => cell_of_row _ _ 3 _ _ _ ((hF1 u).heap RS.out)
  have s4 : ∀ u, (E u).cell? ⟨gs, 4, none⟩ = some (.int .i64 sky) := fun u => cell_of_row _ _ 4 _ _ _ ((hF1 u).heap RS.out)
  have s5 : ∀ u, (E u).cell? ⟨gs, 5, none⟩ = some (.int .i64 st) := fun u => cell_of_row _ _ 5 _ _ _ ((hF1 u).heap RS.out)
  have y0 : ∀ u, (E u).cell? ⟨ge, 0, none⟩ = some (.int .i64 (U : Nat)) := fun u => cell_of_row _ _ 0 _ _ _ ((hF1 u).heap RW.out)
  have y1 : ∀ u, (E u).cell? ⟨ge, 1, none⟩ = some (.int .i64 (D : Nat)) := fun u => cell_of_row _ _ 1 _ _ _ ((hF1 u).heap RW.out)
  have y2 : ∀ u, (E u).cell? ⟨ge, 2, none⟩ = some (.int .i64 (K : Nat)) := fun u => cell_of_row _ _ 2 _ _ _ ((hF1 u).heap RW.out)
  have DD0 := HU.out _ (Ab.refl W).drew
  clear hF1 hF2
  refine region_cls E (by kernel_rfl) (by kernel_rfl) DD0 ?_
  repeat (go_big_quiet_step (first
    | (with_reducible rfl)
    | (go_at_call 30; exact calls_cls HU HU1 (CO.out _ (HX.out _)))
    | (go_at_call 31; exact calls_cls HU HU1 (CG.out _ (HX.out _)))
    | (go_at_call 29; exact calls_cls HU HU1 (CN.out _))))
  refine wpQuiet_nil ?_
  intro z hwz
  obtain ⟨u0, hu⟩ := hwz
  have AZ : Hid (Ab w z) := by rw [hu]; exact HX.out u0
  clear hu u0
  clear HU HU1 HX DD0 s0 s1 s2 s3 s4 s5 y0 y1 y2
  clear E UU
  have AY : Hid (Ab w z) := AZ.out
  clear AZ
  cases c
  · go_wp2
    go_ret
    exact ⟨rfl, AY.out⟩
  · go_wp2
    go_ret
    exact ⟨rfl, AY.out⟩
set_option maxRecDepth 100000 in
set_option maxHeartbeats 8000000 in
theorem dp12_none (gp : Value) (bb bo wb wo M cb cw : Nat) (pt ps : Option Addr) (lt ct ls cs : Nat) (sky st : Int) (k : Int) (e : Int) (u : Nat) (w : World) (U D K vv r : Nat) (c : Bool)
    (CF : Hid (∀ v, Ab w v → Calls Tryd.prog 27 #[gp, .agg #[.slice (some ⟨bb, bo, none⟩) M cb, .slice (some ⟨wb, wo, none⟩) M cw, .slice pt lt ct, .slice ps ls cs, .int .i64 sky, .int .i64 st]] v fun e w' => e = .returned (.bool true) ∧ Below v.heap.size v w'))
    (CW : Hid (∀ v, Ab w v → Calls Tryd.prog 28 #[gp, .int .i64 e, .float .f64 u] v fun e w' => e = .returned (.tuple #[.agg #[.int .i64 (U : Nat), .int .i64 (D : Nat), .int .i64 (K : Nat)], .bool true]) ∧ Below v.heap.size v w'))
    (CO : Hid (∀ v, Ab w v → Calls Tryd.prog 30 #[.agg #[.int .i64 (U : Nat), .int .i64 (D : Nat), .int .i64 (K : Nat)], gp, .int .i64 k, .agg #[.slice (some ⟨bb, bo, none⟩) M cb, .slice (some ⟨wb, wo, none⟩) M cw, .slice pt lt ct, .slice ps ls cs, .int .i64 sky, .int .i64 st]] v fun e w' => e = .returned (.float .f64 vv) ∧ Below v.heap.size v w'))
    (CG : Hid (∀ v, Ab w v → Calls Tryd.prog 31 #[.agg #[.int .i64 (U : Nat), .int .i64 (D : Nat), .int .i64 (K : Nat)], gp, .agg #[.slice (some ⟨bb, bo, none⟩) M cb, .slice (some ⟨wb, wo, none⟩) M cw, .slice pt lt ct, .slice ps ls cs, .int .i64 sky, .int .i64 st]] v fun e w' => ∃ g, e = .returned (.float .f64 g) ∧ (g < 18446744073709551616 ∧ isN g = true) ∧ Below v.heap.size v w'))
    (CN : Hid (∀ g, g < 18446744073709551616 → isN g = true → ∀ v : World, Calls Tryd.prog 29 #[.float .f64 vv, .float .f64 g] v fun e w' => e = .returned (.float .f64 r) ∧ Below v.heap.size v w'))
    (hr : fgt r 0 = c) :
    Calls Tryd.prog 11 #[gp, .int .i64 k, .agg #[.slice (some ⟨bb, bo, none⟩) M cb, .slice (some ⟨wb, wo, none⟩) M cw, .slice pt lt ct, .slice ps ls cs, .int .i64 sky, .int .i64 st], .int .i64 e, .float .f64 u] w fun e w' => e = .returned (.float .f64 (if c = true then r else 0)) ∧ Below w.heap.size w w' := by
  have A0 : Hid (Ab w (w.alloc (.cells #[.slice (some ⟨bb, bo, none⟩) M cb, .slice (some ⟨wb, wo, none⟩) M cw, .slice pt lt ct, .slice ps ls cs, .int .i64 sky, .int .i64 st] 25))) := bl1 _ _
  have RO : Hid ((w.alloc (.cells #[.slice (some ⟨bb, bo, none⟩) M cb, .slice (some ⟨wb, wo, none⟩) M cw, .slice pt lt ct, .slice ps ls cs, .int .i64 sky, .int .i64 st] 25)).heap[w.heap.size]? = some (.cells #[.slice (some ⟨bb, bo, none⟩) M cb, .slice (some ⟨wb, wo, none⟩) M cw, .slice pt lt ct, .slice ps ls cs, .int .i64 sky, .int .i64 st] 25)) := heap_alloc_new _ _
  go_enter Tryd.func11, Tryd.ntmps11
  have s0 := cell_of_row _ _ 0 _ _ _ RO.out
  have s1 := cell_of_row _ _ 1 _ _ _ RO.out
  have s2 := cell_of_row _ _ 2 _ _ _ RO.out
  have s3 := cell_of_row _ _ 3 _ _ _ RO.out
  have s4 := cell_of_row _ _ 4 _ _ _ RO.out
  have s5 := cell_of_row _ _ 5 _ _ _ RO.out
  go_wp2_with fail
  clear s0 s1 s2 s3 s4 s5
  refine (CF.out _ A0.out).mono ?_
  rintro e9 v1 ⟨rfl, b1⟩
  have A1 : Hid (Ab w v1) := A0.out.call b1
  have RO1 : Hid (v1.heap[w.heap.size]? = some (.cells #[.slice (some ⟨bb, bo, none⟩) M cb, .slice (some ⟨wb, wo, none⟩) M cw, .slice pt lt ct, .slice ps ls cs, .int .i64 sky, .int .i64 st] 25)) := Ab.heap b1 RO.out
  clear b1 A0 RO
  go_wp2_with fail
  refine (CW.out _ A1.out).mono ?_
  rintro e9 v2 ⟨rfl, b2⟩
  have A2 : Hid (Ab w (v2.alloc (.cells #[.int .i64 (U : Nat), .int .i64 (D : Nat), .int .i64 (K : Nat)] 69))) := (A1.out.call b2).alloc _
  have RS : Hid ((v2.alloc (.cells #[.int .i64 (U : Nat), .int .i64 (D : Nat), .int .i64 (K : Nat)] 69)).heap[w.heap.size]? = some (.cells #[.slice (some ⟨bb, bo, none⟩) M cb, .slice (some ⟨wb, wo, none⟩) M cw, .slice pt lt ct, .slice ps ls cs, .int .i64 sky, .int .i64 st] 25)) := Ab.heap (bl1 _ _) (Ab.heap b2 RO1.out)
  have RW : Hid ((v2.alloc (.cells #[.int .i64 (U : Nat), .int .i64 (D : Nat), .int .i64 (K : Nat)] 69)).heap[v2.heap.size]? = some (.cells #[.int .i64 (U : Nat), .int .i64 (D : Nat), .int .i64 (K : Nat)] 69)) := heap_alloc_new _ _
  clear b2 A1 RO1
  go_upto_region 6 with fail
  generalize hW : World.alloc v2 _ = W at *
  obtain ⟨gs, hgs⟩ : ∃ g, w.heap.size = g := ⟨_, rfl⟩
  obtain ⟨ge, hge⟩ : ∃ g, v2.heap.size = g := ⟨_, rfl⟩
  rw [hgs] at RS
  rw [hge] at RW
  rw [hge, hgs]
  clear hW hgs hge
  obtain ⟨UU, E, hF1, hF2⟩ := cls W
  have HU := hid hF2
  have HU1 := hid hF1
  have HX : Hid (∀ u, Ab w (E u)) := fun u => Ab.trans A2.out (hF1 u)
  have s0 : ∀ u, (E u).cell? ⟨gs, 0, none⟩ = some (.slice (some ⟨bb, bo, none⟩) M cb) := fun u => cell_of_row _ _ 0 _ _ _ ((hF1 u).heap RS.out)
  have s1 : ∀ u, (E u).cell? ⟨gs, 1, none⟩ = some (.slice (some ⟨wb, wo, none⟩) M cw) := fun u => cell_of_row _ _ 1 _ _ _ ((hF1 u).heap RS.out)
  have s2 : ∀ u, (E u).cell? ⟨gs, 2, none⟩ = some (.slice pt lt ct) := fun u => cell_of_row _ _ 2 _ _ _ ((hF1 u).heap RS.out)
  have s3 : ∀ u, (E u).cell? ⟨gs, 3, none⟩ = some (.slice ps ls cs) := fun u => cell_of_row _ _ 3 _ _ _ ((hF1 u).heap RS.out)
  have s4 : ∀ u, (E u).cell? ⟨gs, 4, none⟩ = some (.int .i64 sky) := fun u => cell_of_row _ _ 4 _ _ _ ((hF1 u).heap RS.out)
  have s5 : ∀ u, (E u).cell? ⟨gs, 5, none⟩ = some (.int .i64 st) := fun u => cell_of_row _ _ 5 _ _ _ ((hF1 u).heap RS.out)
  have y0 : ∀ u, (E u).cell? ⟨ge, 0, none⟩ = some (.int .i64 (U : Nat)) := fun u => cell_of_row _ _ 0 _ _ _ ((hF1 u).heap RW.out)
  have y1 : ∀ u, (E u).cell? ⟨ge, 1, none⟩ = some (.int .i64 (D : Nat)) := fun u => cell_of_row _ _ 1 _ _ _ ((hF1 u).heap RW.out)
  have y2 : ∀ u, (E u).cell? ⟨ge, 2, none⟩ = some (.int .i64 (K : Nat)) := fun u => cell_of_row _ _ 2 _ _ _ ((hF1 u).heap RW.out)
  have DD0 := HU.out _ (Ab.refl W).drew
  clear hF1 hF2
  refine region_tail 8 E (by kernel_rfl) (by kernel_rfl) (by kernel_rfl) DD0 ?_
  simp only [List.take_succ_cons, List.take_zero, List.drop_succ_cons, List.drop_zero]
  repeat (go_big_quiet_step (first
    | (with_reducible rfl)
    | (go_at_call 30; exact calls_cls HU HU1 (CO.out _ (HX.out _)))))
  refine wpQuiet_nil ?_
  intro z hwz
  obtain ⟨u0, hu⟩ := hwz
  have AZ : Hid (Ab w z) := by rw [hu]; exact HX.out u0
  clear hu u0
  clear HU HU1 HX DD0 s0 s1 s2 s3 s4 s5 y0 y1 y2
  clear E UU
  go_wp2_with fail
  refine (CG.out _ AZ.out).mono ?_
  rintro e9 v3 ⟨g, rfl, hg, b3⟩
  have A3 : Hid (Ab w v3) := AZ.out.call b3
  have HG := hid hg
  clear b3 hg AZ
  go_wp2_with fail
  refine (CN.out g HG.out.1 HG.out.2 _).mono ?_
  rintro e9 v4 ⟨rfl, b4⟩
  have AZ : Hid (Ab w v4) := A3.out.call b4
  clear b4 A3 HG
  have AY : Hid (Ab w v4) := AZ.out
  clear AZ
  cases c
  · go_wp2
    go_ret
    exact ⟨rfl, AY.out⟩
  · go_wp2
    go_ret
    exact ⟨rfl, AY.out⟩
end Go.Proofs.YtjgbaenihkplpaaDoor

/-
  A cell that is filled comes to its level: by plain numbers (no program).
-/
namespace Go.Proofs.YtjgbaenihkplpaaDoor
open Tf Ieee
theorem rE (V : Nat) : 9007199254740992 * V ≤ 9007199254740993 * mv (rung 52 0 V) ∧ 9007199254740991 * mv (rung 52 0 V) ≤ 9007199254740992 * V := by
  by_cases c : 4503599627370496 ≤ rung 52 0 V
  · have h := near_err (d := 0) (V := V) rfl c
    rwa [Nat.pow_zero, Nat.mul_one] at h
  · have hV : V < 4503599627370496 := by
      rcases Nat.lt_or_ge V 4503599627370496 with k | k
      · exact k
      · have := rung_ge2 (d := 0) (r := 4503599627370496) (V := V) (by rw [Nat.pow_zero, Nat.mul_one, mv_sm (by omega)]; exact k)
        omega
    have e : mv V = V := mv_sm (by omega)
    have e2 : rung 52 0 V = V := by
      have := rung_mv V
      rwa [e] at this
    rw [e2, e]
    omega
theorem rd_err (v : Int) : 9007199254740992 * (rd v - v) ≤ (rd v).natAbs ∧ 9007199254740992 * (v - rd v) ≤ (rd v).natAbs := by
  have h := rE v.natAbs
  have a := rd_abs v
  rw [← a] at h
  have s : (0 ≤ v → 0 ≤ rd v) ∧ (v < 0 → rd v ≤ 0) := by unfold rd; constructor <;> intro h <;> split <;> omega
  generalize rd v = r at *
  omega
theorem mv_fw {n : Int} (h0 : 1 ≤ n) (h1 : n ≤ 9007199254740992) : (mv (fw n) : Int) = n * one := by
  have hi := fw_in h0 (by omega)
  have hm : mg (fw n) = fw n := mg_of_lt (by omega)
  have e := rn_fin' false (n * one) (by show mg (fw n) < _; omega)
  have d : isD (n * one) := isD_of (n * one) n 0 K (by rw [Nat.pow_zero, one_pow]; simp) (by
    have e : (2 : Nat) ^ 53 = 9007199254740992 := by decide
    rw [e]; omega)
  rw [rd_exact d] at e
  have s : sv (fw n) = (mv (fw n) : Nat) := sv_nn (by omega)
  rw [← s]
  exact e
/-- the sum of all that is off, times the area -/
theorem comes_lin (u uA bA lA HA P wu DA LA QA CA : Int) (hu : 0 < u) (h9 : u ≤ uA) (b1 : -(1048576 * uA) ≤ bA) (b2 : bA ≤ 1048576 * uA) (l1 : -(1048576 * uA) ≤ lA) (l2 : lA ≤ 1048576 * uA)
    (e1 : 9007199254740992 * (HA - (lA - bA)) ≤ HA) (e2 : 9007199254740992 * ((lA - bA) - HA) ≤ HA) (e3 : 9007199254740992 * HA ≤ 9007199254740993 * P) (e4 : 9007199254740991 * P ≤ 9007199254740992 * HA)
    (e5 : 2 * (P - wu) ≤ u) (e6 : -u ≤ 2 * (P - wu)) (e7 : 9007199254740992 * wu ≤ 9007199254740993 * DA) (e8 : 9007199254740991 * DA ≤ 9007199254740992 * wu)
    (e9 : 9007199254740992 * (LA - (bA + DA)) ≤ LA.natAbs) (e10 : 9007199254740992 * ((bA + DA) - LA) ≤ LA.natAbs) (e11 : 9007199254740992 * u ≤ 9007199254740993 * QA) (e12 : 536870912 * CA = uA) :
    LA - lA ≤ QA + CA ∧ -(QA + CA) ≤ LA - lA := by
  have q : u ≤ 2 * QA := by omega
  have ha : HA ≤ 2097153 * uA := by omega
  have x1 : 4294967296 * (HA - (lA - bA)) ≤ 2 * uA ∧ -(2 * uA) ≤ 4294967296 * (HA - (lA - bA)) := by omega
  have pa : P ≤ 2097154 * uA := by omega
  have x2 : 4294967296 * (P - HA) ≤ 2 * uA ∧ -(2 * uA) ≤ 4294967296 * (P - HA) := by omega
  have wa : wu ≤ 2097155 * uA := by omega
  have da : DA ≤ 2097156 * uA := by omega
  have x3 : 4294967296 * (DA - wu) ≤ 2 * uA ∧ -(2 * uA) ≤ 4294967296 * (DA - wu) := by omega
  have sa : LA.natAbs ≤ 4194304 * uA := by omega
  have x4 : 4294967296 * (LA - (bA + DA)) ≤ 2 * uA ∧ -(2 * uA) ≤ 4294967296 * (LA - (bA + DA)) := by omega
  clear e1 e2 e3 e4 e7 e8 e9 e10 e11 ha pa wa da sa b1 b2 l1 l2
  omega
end Go.Proofs.YtjgbaenihkplpaaDoor

/-
  A cell that is filled comes to its level: the floats (no program).
-/
namespace Go.Proofs.YtjgbaenihkplpaaDoor
open Tf Ieee
def Ec : Nat := 993
theorem mv_c29 : 536870912 * mv 4476578029606273024 = one := by
  have h := mv_two_pow Ec 4476578029606273024 (by decide)
  have k : K = 52 + Ec + 29 := by decide
  rw [h, one_pow, k, Nat.pow_add 2 (52 + Ec) 29, Nat.mul_comm]
theorem mv_w20 : mv 4697254411347427328 = 1048576 * one := by
  have h := mv_from_one 20 4697254411347427328 (by decide)
  have e : (2 : Nat) ^ 20 = 1048576 := by decide
  rw [e] at h; exact h
theorem mv_w22 : mv 4706261610602168320 = 4194304 * one := by
  have h := mv_from_one 22 4706261610602168320 (by decide)
  have e : (2 : Nat) ^ 22 = 4194304 := by decide
  rw [e] at h; exact h
theorem mv_w53 : mv 4845873199050653696 = 9007199254740992 * one := by
  have h := mv_from_one 53 4845873199050653696 (by decide)
  have e : (2 : Nat) ^ 53 = 9007199254740992 := by decide
  rw [e] at h; exact h
theorem sv_20 {b : Nat} (h1 : rk b ≤ 4697254411347427328) (h2 : -4697254411347427328 ≤ rk b) : -(1048576 * (one : Int)) ≤ sv b ∧ sv b ≤ 1048576 * (one : Int) := by
  have a := (sv_le_iff b 4697254411347427328).2 (by rw [show rk 4697254411347427328 = 4697254411347427328 by decide]; exact h1)
  have c := (sv_le_iff 13920626448202203136 b).2 (by rw [show rk 13920626448202203136 = -4697254411347427328 by decide]; exact h2)
  have e1 : sv 4697254411347427328 = (mv 4697254411347427328 : Nat) := sv_nn (by decide)
  have e2 : sv 13920626448202203136 = -((mv 4697254411347427328 : Nat) : Int) := by
    unfold sv
    rw [show ng 13920626448202203136 = true by decide, show mg 13920626448202203136 = 4697254411347427328 by decide]; rfl
  rw [e1, mv_w20] at a
  rw [e2, mv_w20] at c
  rw [Int.natCast_mul] at a c
  exact ⟨c, a⟩
theorem rn_le {z : Bool} {v : Int} {r : Nat} (h : v.natAbs ≤ mv r) (hr : r < 9218868437227405312) : mg (rn z v) ≤ r ∧ mg (rn z v) < 9218868437227405312 ∧ sv (rn z v) = rd v := by
  have a : rung 52 0 v.natAbs ≤ r := rung_le2 (d := 0) (by rw [Nat.pow_zero, Nat.mul_one]; exact h)
  have b : mg (rn z v) ≤ r := by rw [rn_mg]; omega
  exact ⟨b, by omega, rn_fin' z v (by omega)⟩
theorem up_le {m n a b c d : Nat} {M N : Int} (hM : (m : Int) = M) (hN : (n : Int) = N) (h : m * (a * b) ≤ n * (c * d)) : M * ((a : Int) * b) ≤ N * ((c : Int) * d) := by
  have := Int.ofNat_le.2 h
  rwa [Int.natCast_mul, Int.natCast_mul, Int.natCast_mul, Int.natCast_mul, hM, hN] at this
theorem up_le1 {m n a b c : Nat} {M N : Int} (hM : (m : Int) = M) (hN : (n : Int) = N) (h : m * (a * b) ≤ n * c) : M * ((a : Int) * b) ≤ N * (c : Int) := by
  have := Int.ofNat_le.2 h
  rwa [Int.natCast_mul, Int.natCast_mul, Int.natCast_mul, hM, hN] at this
theorem up_le2 {m n a c d : Nat} {M N : Int} (hM : (m : Int) = M) (hN : (n : Int) = N) (h : m * a ≤ n * (c * d)) : M * (a : Int) ≤ N * ((c : Int) * d) := by
  have := Int.ofNat_le.2 h
  rwa [Int.natCast_mul, Int.natCast_mul, Int.natCast_mul, hM, hN] at this
theorem up_eq {m a b : Nat} {M : Int} (hM : (m : Int) = M) (h : m * a = b) : M * (a : Int) = b := by
  rw [← h, Int.natCast_mul, hM]
theorem mv_1 : mv 4607182418800017408 = one := rfl
theorem comes {b l : Nat} {A : Int} (hb : b < 18446744073709551616) (hl : l < 18446744073709551616) (nb : isN b = false) (nl : isN l = false)
    (b1 : rk b ≤ 4697254411347427328) (b2 : -4697254411347427328 ≤ rk b) (l1 : rk l ≤ 4697254411347427328) (l2 : -4697254411347427328 ≤ rk l) (A1 : 1 ≤ A) (A2 : A ≤ 2147483648) (w0 : fil b A l ≠ 0) (w1 : fil b A l ≠ 4503599627370496) :
    mg (lvl b (fil b A l) A) < 9218868437227405312 ∧ sv (lvl b (fil b A l) A) - sv l ≤ (mv (dvB 4607182418800017408 (fw A)) : Int) + (mv 4476578029606273024 : Nat) ∧ -((mv (dvB 4607182418800017408 (fw A)) : Int) + (mv 4476578029606273024 : Nat)) ≤ sv (lvl b (fil b A l) A) - sv l := by
  have win := fil_in (a := A) hl hb (by omega)
  have g : fgt l b = true := by
    cases k : fgt l b
    · exact absurd (fil_no (.inl k)) w0
    · rfl
  have k := ((fgt_iff hl hb).1 g).2.2
  have fb : mg b < 9218868437227405312 := by
    have := isN_false.1 nb
    unfold rk at b1 b2
    split at b1 <;> split at b2 <;> omega
  have fl : mg l < 9218868437227405312 := by
    have := isN_false.1 nl
    unfold rk at l1 l2
    split at l1 <;> split at l2 <;> omega
  have sb := sv_20 b1 b2
  have sl := sv_20 l1 l2
  have k2 := (sv_lt_iff b l).2 k
  have hu := onep
  -- how high
  have hv : sbB l b = rn false (sv l - sv b) := by
    have hn := negB_lt' hb
    unfold sbB
    rw [addB_fin l (negB b) hl hn fl (by rw [negB_mg hb]; exact fb), negB_sv hb]
    rfl
  have h22 : (mv 4706261610602168320 : Int) = 4194304 * one := by rw [mv_w22, Int.natCast_mul]; rfl
  have hh := rn_le (z := false) (v := sv l - sv b) (r := 4706261610602168320) (by omega) (by decide)
  have hnn : rn false (sv l - sv b) < 9223372036854775808 := by rw [rn_nn (by omega)]; have := R_top (sv l - sv b); omega
  have he := rd_err (sv l - sv b)
  rw [← hh.2.2, sv_nn hnn] at he
  have hle : rn false (sv l - sv b) ≤ 4706261610602168320 := by have := hh.1; rwa [mg_of_lt hnn] at this
  rw [← hv] at he hle
  have hpos := (hi_in hl hb nl nb k).1
  have hcomes := w0
  rw [fil_yes g A1] at w0 w1 win ⊢
  clear hv hh hnn hcomes
  generalize sbB l b = h at *
  -- the product
  obtain ⟨a, ea⟩ := Int.eq_ofNat_of_zero_le (show 0 ≤ A by omega)
  have fA := fw_in A1 (by omega)
  have mA := mv_fw A1 (by omega)
  have mA' : mv (fw A) = a * one := by
    rw [ea, ← Int.natCast_mul] at mA
    rw [ea]
    exact Int.ofNat.inj mA
  have pw : mlB h (fw A) = min (rung 52 0 (mv h * a)) 9218868437227405312 := by
    rw [ml_word (by omega) (by omega), mA', ← Nat.mul_assoc, one_pow]
    have s := rung_scale 52 0 K (mv h * a)
    rw [Nat.zero_add] at s
    exact congrArg (min · 9218868437227405312) s
  have pE := rE (mv h * a)
  have pr : rung 52 0 (mv h * a) ≤ 4845873199050653696 := by
    refine rung_le2 (d := 0) ?_
    rw [Nat.pow_zero, Nat.mul_one, mv_w53]
    have m1 : mv h ≤ 4194304 * one := by have := mv_le.2 hle; rwa [mv_w22] at this
    have m2 := Nat.mul_le_mul m1 (show a ≤ 2147483648 by omega)
    refine Nat.le_trans m2 ?_
    rw [Nat.mul_right_comm]
    exact Nat.mul_le_mul_right one (by decide)
  rw [Nat.min_eq_left (by omega)] at pw
  rw [pw] at w0 w1 win ⊢
  generalize rung 52 0 (mv h * a) = P at *
  -- the whole number
  have nP : isN P = false := isN_false.2 (by rw [mg_of_lt (by omega)]; omega)
  have rP : rk P = P := rk_pos P (by omega)
  have cw := clampB_num P 4503599627370496 (by omega) nP
  rw [rP, if_neg (by omega), if_pos (by omega), show clampM 4503599627370496 = 4503599627370496 by decide] at cw
  have cq : cq .even P = clampB P 4503599627370496 := by omega
  have ev := even_near P
  rw [cq, sv_nn (d := P) (by omega)] at ev
  clear cw cq
  generalize clampB P 4503599627370496 = w at *
  have w2 : 1 ≤ w := by omega
  have mw := mv_fw w2 (by omega)
  -- the depth
  have dE := dv_err (fw_Qn w2 (by omega) A1 (by omega))
  have dI := dq_in (fw_Qn w2 (by omega) A1 (by omega))
  have f1 : fw 1 = 4607182418800017408 := by rw [fw_R (by omega), Int.one_mul, R_one]; rfl
  have qE := (dv_err (fw_Qn (n := 1) (by omega) (by omega) A1 (by omega))).1
  rw [f1, mv_1] at qE
  unfold lvl
  rw [dp_of w2 A1]
  generalize dvB (fw w) (fw A) = D at *
  generalize dvB 4607182418800017408 (fw A) = Q at *
  -- the level
  have hL := addB_fin b D hb (by omega) fb (by rw [mg_of_lt (by omega)]; omega)
  rw [sv_nn (d := D) (by omega)] at hL
  have m17 : mv 9151314442816847872 = 2 * mv 9146810843189477376 := mv_dbl (r := 9146810843189477376) (by decide)
  have dle := mv_le.2 dI.2
  have wle : mv 4697254411347427328 ≤ mv 9146810843189477376 := mv_le.2 (by decide)
  have w20 : (mv 4697254411347427328 : Int) = 1048576 * one := by rw [mv_w20, Int.natCast_mul]; rfl
  have hLL := rn_le (z := false) (v := sv b + (mv D : Nat)) (r := 9151314442816847872) (by rw [m17]; omega) (by decide)
  have lE := rd_err (sv b + (mv D : Nat))
  rw [← hLL.2.2] at lE
  rw [hL]
  refine ⟨hLL.2.1, ?_⟩
  clear hL m17 dle wle w20 hLL
  generalize sv (rn false (sv b + (mv D : Nat))) = L at *
  have a1 : (1 : Int) ≤ a := by omega
  have a0 : (0 : Int) ≤ a := by omega
  have ma : ∀ x y : Int, x ≤ y → x * a ≤ y * a := fun x y h => Int.mul_le_mul_of_nonneg_right h a0
  have cu : ∀ x y : Int, x * one ≤ y * one → x ≤ y := fun x y h => Int.le_of_mul_le_mul_right h hu
  rw [Int.natAbs_natCast] at he
  have e1 := ma _ _ he.1
  have e2 := ma _ _ he.2
  have e9 := ma _ _ lE.1
  have e10 := ma _ _ lE.2
  have p1 := ma _ _ sb.1
  have p2 := ma _ _ sb.2
  have p3 := ma _ _ sl.1
  have p4 := ma _ _ sl.2
  have e3 : 9007199254740992 * ((mv h : Int) * a) ≤ 9007199254740993 * (mv P : Int) := up_le1 rfl rfl pE.1
  have e4 : 9007199254740991 * (mv P : Int) ≤ 9007199254740992 * ((mv h : Int) * a) := up_le2 rfl rfl pE.2
  have k1 : (mv (fw A) : Int) = (a : Int) * one := by rw [mA', Int.natCast_mul]
  have pk : ((2 ^ K : Nat) : Int) = one := by rw [one_pow]
  have e7 : 9007199254740992 * (w * one) ≤ 9007199254740993 * ((mv D : Int) * a) := by
    have h : 9007199254740992 * ((mv (fw w) : Int) * ((2 ^ K : Nat) : Int)) ≤ 9007199254740993 * ((mv D : Int) * (mv (fw A) : Int)) := up_le rfl rfl dE.1
    rw [mw, k1, pk, ← Int.mul_assoc, ← Int.mul_assoc (mv D : Int), ← Int.mul_assoc 9007199254740993] at h
    exact cu _ _ h
  have e8 : 9007199254740991 * ((mv D : Int) * a) ≤ 9007199254740992 * (w * one) := by
    have h : 9007199254740991 * ((mv D : Int) * (mv (fw A) : Int)) ≤ 9007199254740992 * ((mv (fw w) : Int) * ((2 ^ K : Nat) : Int)) := up_le rfl rfl dE.2
    rw [mw, k1, pk, ← Int.mul_assoc 9007199254740992, ← Int.mul_assoc (mv D : Int), ← Int.mul_assoc 9007199254740991] at h
    exact cu _ _ h
  have e11 : 9007199254740992 * (one : Int) ≤ 9007199254740993 * ((mv Q : Int) * a) := by
    have h : 9007199254740992 * ((one : Int) * ((2 ^ K : Nat) : Int)) ≤ 9007199254740993 * ((mv Q : Int) * (mv (fw A) : Int)) := by
      generalize hone : one = o at qE ⊢
      generalize 2 ^ K = kk at qE ⊢
      exact up_le rfl rfl qE
    rw [k1, pk, ← Int.mul_assoc, ← Int.mul_assoc (mv Q : Int), ← Int.mul_assoc 9007199254740993] at h
    exact cu _ _ h
  have e12 : 536870912 * ((mv 4476578029606273024 : Int) * a) = (one : Int) * a := by
    rw [← Int.mul_assoc]
    have hc := mv_c29
    generalize mv 4476578029606273024 = cc at hc ⊢
    generalize one = o at hc ⊢
    rw [up_eq (M := 536870912) rfl hc]
  have h9 : (one : Int) ≤ one * a := by
    have := Int.mul_le_mul_of_nonneg_left a1 (Int.le_of_lt hu)
    rwa [Int.mul_one] at this
  have na : (L.natAbs : Int) * a = ((L * a).natAbs : Int) := by rw [Int.natAbs_mul, Int.natAbs_natCast, Int.natCast_mul]
  rw [na] at e9 e10
  simp only [Int.neg_mul, Int.mul_assoc, Int.sub_mul, Int.add_mul] at e1 e2 e9 e10 p1 p2 p3 p4
  have fin := comes_lin one (one * a) (sv b * a) (sv l * a) (mv h * a) (mv P) (w * one) (mv D * a) (L * a) (mv Q * a) (mv 4476578029606273024 * a) hu h9 p1 p2 p3 p4 e1 e2 e3 e4 ev.1 ev.2.1 e7 e8 e9 e10 e11 e12
  have pa : (0 : Int) < a := by omega
  constructor
  · refine Int.le_of_mul_le_mul_right (a := (a : Int)) ?_ pa
    rw [Int.sub_mul, Int.add_mul]
    exact fin.1
  · refine Int.le_of_mul_le_mul_right (a := (a : Int)) ?_ pa
    rw [Int.sub_mul, Int.neg_mul, Int.add_mul]
    exact fin.2
theorem R_neg11 (v : Int) : R (-v) = -R v := by
  by_cases z : v = 0
  · subst z
    have e : R 0 = 0 := by
      unfold R
      rw [if_neg (by decide), show (0 : Int).natAbs = 0 from rfl, rung_none, Nat.zero_min]
      rfl
    rw [Int.neg_zero, e, Int.neg_zero]
  · unfold R
    rw [Int.natAbs_neg]
    generalize min (rung 52 0 v.natAbs) 9218868437227405312 = m
    by_cases c : v < 0
    · rw [if_pos c, if_neg (by omega), Int.neg_neg]
    · rw [if_neg c, if_pos (by omega)]
theorem rn_N (z : Bool) (v : Int) : isN (rn z v) = false := isN_false.2 (by rw [rn_mg]; exact Nat.min_le_right _ _)
/-- what is at most that far off is at most that far off when rounded -/
theorem near_cmp (z z' : Bool) {v m : Int} (h1 : v ≤ m) (h2 : -m ≤ v) : (flt (rn z v) (rn z' m) || feq (rn z v) (rn z' m)) = true ∧ (fgt (rn z v) (negB (rn z' m)) || feq (rn z v) (negB (rn z' m))) = true := by
  have hl := rn_lt z v
  have hl' := rn_lt z' m
  rw [fle_of hl hl' (rn_N z v) (rn_N z' m), fge_of hl (negB_lt' hl') (rn_N z v) (by rw [isN_neg]; exact rn_N z' m), rk_negB _ hl', rk_rn, rk_rn]
  have r1 := R_mono h1
  have r2 := R_mono h2
  have e : R (-m) = -R m := R_neg11 m
  exact ⟨decide_eq_true r1, decide_eq_true (by omega)⟩
end Go.Proofs.YtjgbaenihkplpaaDoor

/-
  Depths, levels and fills: what the program returns (walks), and that it is awake.
-/
namespace Go.Proofs.YtjgbaenihkplpaaDoor
open Go.RowKit Tf
attribute [local go_sem] run_bits run_from raw_feq raw_fne raw_flt raw_fgt run_neg
theorem isC_eq {r c : Nat} (h : IsC r c) (c0 : 0 < c) (c1 : c ≤ 9218868437227405312) : r = c := by
  have e := h.2
  unfold canonB at e
  split at e
  · unfold quiet at e; omega
  · split at e
    · omega
    · exact e
theorem isQ_eq {r c : Nat} (h : IsQ r c) (c1 : c ≤ 9218868437227405312) : r = c := by
  have e := h.2
  unfold qB at e
  split at e
  · unfold quiet at e; omega
  · exact e
theorem mg_nn11 {x : Nat} (h : x ≤ 9218868437227405312) : mg x ≤ 9218868437227405312 := by unfold mg; omega
theorem add_can {P : Program} (w : World) (s x : Nat) (hs : s < 18446744073709551616) (hx : x < 18446744073709551616) :
    ∃ r n, (∀ t, (binOp .add t (.float .f64 s) (.float .f64 x)).run P w = .ok (.float .f64 r) (w.drewN n)) ∧ IsC r (addB s x) := by
  cases e : Ieee.double.add s x with
  | none => exact ⟨nanOf w s x, 1, fun t => run_nan_add w t s x e, nanOf_lt _ _ _, by rw [addB_none e]; unfold canonB; rw [if_pos (isN_nanOf _ _ _)]⟩
  | some r => exact ⟨r, 0, fun t => run_float_arith w .add t .f64 s x r e, by
      have q := IsQ.add (IsQ.self hs) (IsQ.self hx) e
      exact q.1, by rw [addB_some e]⟩
theorem depth_no (n a : Int) (w : World) (h : n < 1 ∨ a < 1) :
    Calls Tryd.prog 16 #[.int .i64 n, .int .i64 a] w fun e w' => e = .returned (.float .f64 0) ∧ w' = w := by
  by_cases c : n < 1
  · go_enter Tryd.func16, Tryd.ntmps16
    go_wp2
    go_ret
    exact ⟨rfl, rfl⟩
  · have d : a < 1 := by omega
    clear h
    go_enter Tryd.func16, Tryd.ntmps16
    go_wp2
    go_ret
    exact ⟨rfl, rfl⟩
theorem depth_yes (n a : Int) (w : World) (h1 : 1 ≤ n) (h2 : 1 ≤ a) (n2 : n ≤ 9223372036854775807) (a2 : a ≤ 9223372036854775807) :
    Calls Tryd.prog 16 #[.int .i64 n, .int .i64 a] w fun e w' => e = .returned (.float .f64 (dpB n a)) ∧ ∃ k, w' = w.drewN k := by
  obtain ⟨r, k, hr, hc⟩ := div_any (P := Tryd.prog) w (fw n) (fw a)
  have e := isC_eq hc (by rw [← dp_of h1 h2]; have := dp_in h1 h2 n2 a2; omega) (by rw [← dp_of h1 h2]; have := dp_in h1 h2 n2 a2; omega)
  rw [dp_of h1 h2, ← e]
  clear e hc
  have F1 := hid (fromInt_any n w)
  have F2 := hid (fromInt_any a w)
  rw [show rn false (n * one) = fw n from rfl] at F1
  rw [show rn false (a * one) = fw a from rfl] at F2
  generalize fw n = x at *
  generalize fw a = y at *
  go_enter Tryd.func16, Tryd.ntmps16
  go_wp2_with fail
  refine F1.out.mono ?_
  rintro e w' ⟨rfl, rfl⟩
  go_wp2_with fail
  refine F2.out.mono ?_
  rintro e w' ⟨rfl, rfl⟩
  go_wp2
  go_ret
  exact ⟨rfl, k, rfl⟩
theorem depth_at (n a : Int) (w : World) (n2 : n ≤ 9223372036854775807) (a2 : a ≤ 9223372036854775807) :
    Calls Tryd.prog 16 #[.int .i64 n, .int .i64 a] w fun e w' => e = .returned (.float .f64 (dpB n a)) ∧ ∃ k, w' = w.drewN k := by
  by_cases c : n < 1 ∨ a < 1
  · rw [dp_zero c]
    exact (depth_no n a w c).mono fun _ _ h => ⟨h.1, 0, h.2⟩
  · exact depth_yes n a w (by omega) (by omega) n2 a2
theorem level_at (b : Nat) (n a : Int) (w : World) (hb : b < 18446744073709551616) (n2 : n ≤ 9223372036854775807) (a2 : a ≤ 9223372036854775807) :
    Calls Tryd.prog 19 #[.float .f64 b, .int .i64 n, .int .i64 a] w fun e w' => e = .returned (.float .f64 (lvl b n a)) ∧ ∃ k, w' = w.drewN k := by
  have D := hid (depth_at n a w n2 a2)
  have e0 : lvl b n a = addB b (dpB n a) := rfl
  rw [e0]
  have hd : dpB n a < 18446744073709551616 := by have := dp_le n2 a2; omega
  clear e0
  generalize dpB n a = d at *
  have AD : Hid (∀ k : Nat, ∃ r m, (∀ t, (binOp .add t (.float .f64 b) (.float .f64 d)).run Tryd.prog (w.drewN k) = .ok (.float .f64 r) ((w.drewN k).drewN m)) ∧ IsC r (addB b d)) := fun k => add_can _ b d hb hd
  generalize addB b d = y at *
  go_enter Tryd.func19, Tryd.ntmps19
  go_wp2_with fail
  refine D.out.mono ?_
  rintro e w' ⟨rfl, k, rfl⟩
  obtain ⟨r, m, hr, hc⟩ := AD.out k
  have C := hid (canon_any r (w.drewN (k + m)) hc.1)
  rw [hc.2] at C
  go_wp2_with fail
  refine C.out.mono ?_
  rintro e w' ⟨rfl, rfl⟩
  go_wp2
  go_ret
  exact ⟨rfl, k + m, rfl⟩
theorem aw11_1 : dpB 3 2 = 4609434218613702656 := by decide +kernel
theorem aw11_2 : lvl 13836183955189006336 3 2 = 13830554455654793216 := by decide +kernel
theorem aw11_3 : fil 0 10 4608308318706860032 = 12 := by decide +kernel
theorem aw11_4 : fil 0 10 4608758678669597082 = 14 := by decide +kernel
end Go.Proofs.YtjgbaenihkplpaaDoor
