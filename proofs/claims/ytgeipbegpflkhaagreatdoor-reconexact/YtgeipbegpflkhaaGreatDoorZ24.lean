/-
  Some of the texts of this proof, one behind the other.
-/
import Derived.Test.YtgeipbegpflkhaaGreatDoorZ03
import Derived.Test.YtgeipbegpflkhaaGreatDoorZ16
import Derived.Test.YtgeipbegpflkhaaGreatDoorZ18
import Derived.Test.YtgeipbegpflkhaaGreatDoorZ19
import Derived.Test.YtgeipbegpflkhaaGreatDoorZ23
import Derived.Test.YtgeipbegpflkhaaGreatDoorZ05
import Derived.Test.YtgeipbegpflkhaaGreatDoorZ13
import Derived.Deep.QuietTactic
/-
  The depth over an edge by the document: the reference's walk.
-/
namespace Go.Proofs.YtgeipbegpflkhaaGreatDoor
open Go.RowKit Tf Cu
attribute [local go_sem] run_bits run_from raw_feq raw_fne raw_flt raw_fgt run_neg run_store_float
set_option maxRecDepth 100000 in
set_option maxHeartbeats 16000000 in
theorem rd12_noedge (gp : Value) (k : Int) (pb pw pt ps : Option Addr) (lb cb lw cw lt ct ls cs : Nat) (sky st : Int) (e : Int) (u : Nat) (w : World)
    (CE : Hid (∀ v, Ab w v → Calls Tryz.prog 33 #[gp, .int .i64 e] v fun e w' => e = .returned (.tuple #[.agg #[.int .i64 0, .int .i64 0, .int .i64 0, .int .i64 0], .bool false]) ∧ Below v.heap.size v w')) :
    Calls Tryz.prog 10 #[gp, .int .i64 k, .agg #[.slice pb lb cb, .slice pw lw cw, .slice pt lt ct, .slice ps ls cs, .int .i64 sky, .int .i64 st], .int .i64 e, .float .f64 u] w fun e w' => e = .returned (.float .f64 0) ∧ Below w.heap.size w w' := by
  have AS : Hid (Ab w (w.alloc (.cells #[.slice pb lb cb, .slice pw lw cw, .slice pt lt ct, .slice ps ls cs, .int .i64 sky, .int .i64 st] 25))) := bl1 _ _
  go_enter Tryz.func10, Tryz.ntmps10
  go_wp2_with fail
  refine (CE.out _ AS.out).mono ?_
  rintro e0 w1 ⟨rfl, b1⟩
  have A1 : Hid (Ab w w1) := AS.out.call b1
  have SR1 : Hid (w1.heap[w.heap.size]? = some (.cells #[.slice pb lb cb, .slice pw lw cw, .slice pt lt ct, .slice ps ls cs, .int .i64 sky, .int .i64 st] 25)) := Ab.heap b1 (heap_alloc_new _ _)
  clear b1 AS
  go_upto_region 2 with fail
  generalize hW : World.alloc w1 _ = W
  obtain ⟨gs, hgs⟩ : ∃ g, w.heap.size = g := ⟨_, rfl⟩
  obtain ⟨ge, hge⟩ : ∃ g, w1.heap.size = g := ⟨_, rfl⟩
  have SR : Hid (W.heap[gs]? = some (.cells #[.slice pb lb cb, .slice pw lw cw, .slice pt lt ct, .slice ps ls cs, .int .i64 sky, .int .i64 st] 25)) := by rw [← hW, ← hgs]; exact Ab.heap (bl1 _ _) SR1.out
  have ER : Hid (W.heap[ge]? = some (.cells #[.int .i64 0, .int .i64 0, .int .i64 0, .int .i64 0] 70)) := by rw [← hW, ← hge]; exact heap_alloc_new _ _
  have AW : Hid (Ab w W) := by rw [← hW]; exact A1.out.alloc _
  rw [hge]
  rw [hgs]
  clear hW hgs hge A1 SR1
  obtain ⟨UU, E, hF1, hF2⟩ := cls W
  have HU := hid hF2
  have HU1 := hid hF1
  have HW : Hid (∀ u, Ab W (E u)) := fun u => hF1 u
  have HX : Hid (∀ u, Ab w (E u)) := fun u => AW.out.trans (HW.out u)
  have xs0 : ∀ u, (E u).cell? ⟨gs, 0, none⟩ = some (.slice pb lb cb) := fun u => cell_of_row _ _ 0 _ _ _ ((HW.out u).heap SR.out)
  have xs1 : ∀ u, (E u).cell? ⟨gs, 1, none⟩ = some (.slice pw lw cw) := fun u => cell_of_row _ _ 1 _ _ _ ((HW.out u).heap SR.out)
  have DD0 := HU.out _ (Ab.refl W).drew
  clear hF1 hF2
  refine region_cls E (by kernel_rfl) (by kernel_rfl) DD0 ?_
  repeat (go_big_quiet_step (first
    | (with_reducible rfl)
  ))
  refine wpQuiet_nil ?_
  intro v1 hwz
  obtain ⟨u0, hu⟩ := hwz
  have AV1 : Hid (Ab W v1) := by rw [hu]; exact HW.out u0
  clear hu u0
  clear HU HU1 HW HX DD0 xs0 xs1
  clear E UU
  go_wp2
  go_ret
  exact ⟨rfl, AW.out.trans AV1.out⟩
set_option maxRecDepth 100000 in
set_option maxHeartbeats 16000000 in
theorem rd12_nolen (gp : Value) (k : Int) (pb pw pt ps : Option Addr) (lb cb lw cw lt ct ls cs : Nat) (sky st : Int) (e : Int) (u : Nat) (w : World)
    (M L S R Q : Nat) (hne : lb ≠ M ∨ lw ≠ M)
    (CE : Hid (∀ v, Ab w v → Calls Tryz.prog 33 #[gp, .int .i64 e] v fun e w' => e = .returned (.tuple #[.agg #[.int .i64 (L : Nat), .int .i64 (S : Nat), .int .i64 (R : Nat), .int .i64 (Q : Nat)], .bool true]) ∧ Below v.heap.size v w'))
    (CC : Hid (∀ v, Ab w v → Calls Tryz.prog 34 #[gp] v fun e w' => e = .returned (.int .i64 (M : Nat)) ∧ Below v.heap.size v w')) :
    Calls Tryz.prog 10 #[gp, .int .i64 k, .agg #[.slice pb lb cb, .slice pw lw cw, .slice pt lt ct, .slice ps ls cs, .int .i64 sky, .int .i64 st], .int .i64 e, .float .f64 u] w fun e w' => e = .returned (.float .f64 0) ∧ Below w.heap.size w w' := by
  have AS : Hid (Ab w (w.alloc (.cells #[.slice pb lb cb, .slice pw lw cw, .slice pt lt ct, .slice ps ls cs, .int .i64 sky, .int .i64 st] 25))) := bl1 _ _
  go_enter Tryz.func10, Tryz.ntmps10
  go_wp2_with fail
  refine (CE.out _ AS.out).mono ?_
  rintro e0 w1 ⟨rfl, b1⟩
  have A1 : Hid (Ab w w1) := AS.out.call b1
  have SR1 : Hid (w1.heap[w.heap.size]? = some (.cells #[.slice pb lb cb, .slice pw lw cw, .slice pt lt ct, .slice ps ls cs, .int .i64 sky, .int .i64 st] 25)) := Ab.heap b1 (heap_alloc_new _ _)
  clear b1 AS
  go_upto_region 2 with fail
  generalize hW : World.alloc w1 _ = W
  obtain ⟨gs, hgs⟩ : ∃ g, w.heap.size = g := ⟨_, rfl⟩
  obtain ⟨ge, hge⟩ : ∃ g, w1.heap.size = g := ⟨_, rfl⟩
  have SR : Hid (W.heap[gs]? = some (.cells #[.slice pb lb cb, .slice pw lw cw, .slice pt lt ct, .slice ps ls cs, .int .i64 sky, .int .i64 st] 25)) := by rw [← hW, ← hgs]; exact Ab.heap (bl1 _ _) SR1.out
  have ER : Hid (W.heap[ge]? = some (.cells #[.int .i64 (L : Nat), .int .i64 (S : Nat), .int .i64 (R : Nat), .int .i64 (Q : Nat)] 70)) := by rw [← hW, ← hge]; exact heap_alloc_new _ _
  have AW : Hid (Ab w W) := by rw [← hW]; exact A1.out.alloc _
  rw [hge]
  rw [hgs]
  clear hW hgs hge A1 SR1
  by_cases c1 : lb = M
  · subst c1
    have c2 : lw ≠ lb := by simpa using hne
    have c3 : ((lw : Int) != (lb : Int)) = true := by rw [bne_iff_ne]; omega
    have c4 : ((lb : Int) != (lb : Int)) = false := by simp
    clear hne
    obtain ⟨UU, E, hF1, hF2⟩ := cls W
    have HU := hid hF2
    have HU1 := hid hF1
    have HW : Hid (∀ u, Ab W (E u)) := fun u => hF1 u
    have HX : Hid (∀ u, Ab w (E u)) := fun u => AW.out.trans (HW.out u)
    have xs0 : ∀ u, (E u).cell? ⟨gs, 0, none⟩ = some (.slice pb lb cb) := fun u => cell_of_row _ _ 0 _ _ _ ((HW.out u).heap SR.out)
    have xs1 : ∀ u, (E u).cell? ⟨gs, 1, none⟩ = some (.slice pw lw cw) := fun u => cell_of_row _ _ 1 _ _ _ ((HW.out u).heap SR.out)
    have DD0 := HU.out _ (Ab.refl W).drew
    clear hF1 hF2
    refine region_cls E (by kernel_rfl) (by kernel_rfl) DD0 ?_
    repeat (go_big_quiet_step (first
      | (with_reducible rfl)
      | (go_at_call 34; exact calls_cls HU HU1 (CC.out _ (HX.out _)))))
    refine wpQuiet_nil ?_
    intro v1 hwz
    obtain ⟨u0, hu⟩ := hwz
    have AV1 : Hid (Ab W v1) := by rw [hu]; exact HW.out u0
    clear hu u0
    clear HU HU1 HW HX DD0 xs0 xs1
    clear E UU
    go_wp2
    go_ret
    exact ⟨rfl, AW.out.trans AV1.out⟩
  · have c3 : ((lb : Int) != (M : Int)) = true := by rw [bne_iff_ne]; omega
    clear hne
    obtain ⟨UU, E, hF1, hF2⟩ := cls W
    have HU := hid hF2
    have HU1 := hid hF1
    have HW : Hid (∀ u, Ab W (E u)) := fun u => hF1 u
    have HX : Hid (∀ u, Ab w (E u)) := fun u => AW.out.trans (HW.out u)
    have xs0 : ∀ u, (E u).cell? ⟨gs, 0, none⟩ = some (.slice pb lb cb) := fun u => cell_of_row _ _ 0 _ _ _ ((HW.out u).heap SR.out)
    have xs1 : ∀ u, (E u).cell? ⟨gs, 1, none⟩ = some (.slice pw lw cw) := fun u => cell_of_row _ _ 1 _ _ _ ((HW.out u).heap SR.out)
    have DD0 := HU.out _ (Ab.refl W).drew
    clear hF1 hF2
    refine region_cls E (by kernel_rfl) (by kernel_rfl) DD0 ?_
    repeat (go_big_quiet_step (first
      | (with_reducible rfl)
      | (go_at_call 34; exact calls_cls HU HU1 (CC.out _ (HX.out _)))))
    refine wpQuiet_nil ?_
    intro v1 hwz
    obtain ⟨u0, hu⟩ := hwz
    have AV1 : Hid (Ab W v1) := by rw [hu]; exact HW.out u0
    clear hu u0
    clear HU HU1 HW HX DD0 xs0 xs1
    clear E UU
    go_wp2
    go_ret
    exact ⟨rfl, AW.out.trans AV1.out⟩
set_option maxRecDepth 100000 in
set_option maxHeartbeats 16000000 in
theorem rd12_still (gp : Value) (k : Int) (bb bo wb wo M cb cw : Nat) (pt ps : Option Addr) (lt ct ls cs : Nat) (sky st : Int) (e : Int) (u : Nat) (w : World)
    (L S R Q p q : Nat) (hu1 : fgt u 0 = false) (hu2 : flt u 0 = false)
    (CE : Hid (∀ v, Ab w v → Calls Tryz.prog 33 #[gp, .int .i64 e] v fun e w' => e = .returned (.tuple #[.agg #[.int .i64 (L : Nat), .int .i64 (S : Nat), .int .i64 (R : Nat), .int .i64 (Q : Nat)], .bool true]) ∧ Below v.heap.size v w'))
    (CC : Hid (∀ v, Ab w v → Calls Tryz.prog 34 #[gp] v fun e w' => e = .returned (.int .i64 (M : Nat)) ∧ Below v.heap.size v w'))
    (CB : Hid (∀ v, Ab w v → Calls Tryz.prog 35 #[gp, .int .i64 e] v fun e w' => e = .returned (.tuple #[.int .i64 (p : Nat), .int .i64 (q : Nat), .bool true]) ∧ Below v.heap.size v w')) :
    Calls Tryz.prog 10 #[gp, .int .i64 k, .agg #[.slice (some ⟨bb, bo, none⟩) M cb, .slice (some ⟨wb, wo, none⟩) M cw, .slice pt lt ct, .slice ps ls cs, .int .i64 sky, .int .i64 st], .int .i64 e, .float .f64 u] w fun e w' => e = .returned (.float .f64 0) ∧ Below w.heap.size w w' := by
  have AS : Hid (Ab w (w.alloc (.cells #[.slice (some ⟨bb, bo, none⟩) M cb, .slice (some ⟨wb, wo, none⟩) M cw, .slice pt lt ct, .slice ps ls cs, .int .i64 sky, .int .i64 st] 25))) := bl1 _ _
  go_enter Tryz.func10, Tryz.ntmps10
  go_wp2_with fail
  refine (CE.out _ AS.out).mono ?_
  rintro e0 w1 ⟨rfl, b1⟩
  have A1 : Hid (Ab w w1) := AS.out.call b1
  have SR1 : Hid (w1.heap[w.heap.size]? = some (.cells #[.slice (some ⟨bb, bo, none⟩) M cb, .slice (some ⟨wb, wo, none⟩) M cw, .slice pt lt ct, .slice ps ls cs, .int .i64 sky, .int .i64 st] 25)) := Ab.heap b1 (heap_alloc_new _ _)
  clear b1 AS
  go_upto_region 2 with fail
  generalize hW : World.alloc w1 _ = W
  obtain ⟨gs, hgs⟩ : ∃ g, w.heap.size = g := ⟨_, rfl⟩
  obtain ⟨ge, hge⟩ : ∃ g, w1.heap.size = g := ⟨_, rfl⟩
  have SR : Hid (W.heap[gs]? = some (.cells #[.slice (some ⟨bb, bo, none⟩) M cb, .slice (some ⟨wb, wo, none⟩) M cw, .slice pt lt ct, .slice ps ls cs, .int .i64 sky, .int .i64 st] 25)) := by rw [← hW, ← hgs]; exact Ab.heap (bl1 _ _) SR1.out
  have ER : Hid (W.heap[ge]? = some (.cells #[.int .i64 (L : Nat), .int .i64 (S : Nat), .int .i64 (R : Nat), .int .i64 (Q : Nat)] 70)) := by rw [← hW, ← hge]; exact heap_alloc_new _ _
  have AW : Hid (Ab w W) := by rw [← hW]; exact A1.out.alloc _
  rw [hge]
  rw [hgs]
  clear hW hgs hge A1 SR1
  obtain ⟨UU, E, hF1, hF2⟩ := cls W
  have HU := hid hF2
  have HU1 := hid hF1
  have HW : Hid (∀ u, Ab W (E u)) := fun u => hF1 u
  have HX : Hid (∀ u, Ab w (E u)) := fun u => AW.out.trans (HW.out u)
  have xs0 : ∀ u, (E u).cell? ⟨gs, 0, none⟩ = some (.slice (some ⟨bb, bo, none⟩) M cb) := fun u => cell_of_row _ _ 0 _ _ _ ((HW.out u).heap SR.out)
  have xs1 : ∀ u, (E u).cell? ⟨gs, 1, none⟩ = some (.slice (some ⟨wb, wo, none⟩) M cw) := fun u => cell_of_row _ _ 1 _ _ _ ((HW.out u).heap SR.out)
  have DD0 := HU.out _ (Ab.refl W).drew
  clear hF1 hF2
  refine region_cls E (by kernel_rfl) (by kernel_rfl) DD0 ?_
  repeat (go_big_quiet_step (first
    | (with_reducible rfl)
    | (go_at_call 34; exact calls_cls HU HU1 (CC.out _ (HX.out _)))))
  refine wpQuiet_nil ?_
  intro v1 hwz
  obtain ⟨u0, hu⟩ := hwz
  have AV1 : Hid (Ab W v1) := by rw [hu]; exact HW.out u0
  clear hu u0
  clear HU HU1 HW HX DD0 xs0 xs1
  clear E UU
  have e0 := cell_of_row _ _ 0 _ _ _ (AV1.out.heap ER.out)
  have e2 := cell_of_row _ _ 2 _ _ _ (AV1.out.heap ER.out)
  go_wp2_with fail
  refine (CB.out _ (AW.out.trans AV1.out)).mono ?_
  rintro e9 w2 ⟨rfl, b2⟩
  clear e0 e2
  have AV2 : Hid (Ab W w2) := AV1.out.call b2
  clear b2
  go_wp2
  go_ret
  exact ⟨rfl, AW.out.trans AV2.out⟩
end Go.Proofs.YtgeipbegpflkhaaGreatDoor

/-
  The depth over an edge by the document: the reference's walk.
-/
namespace Go.Proofs.YtgeipbegpflkhaaGreatDoor
open Go.RowKit Tf Cu
attribute [local go_sem] run_bits run_from raw_feq raw_fne raw_flt raw_fgt run_neg run_store_float
set_option maxRecDepth 100000 in
set_option maxHeartbeats 16000000 in
theorem rd12_pos_some (gp : Value) (k : Int) (bb bo wb wo M cb cw : Nat) (pt ps : Option Addr) (lt ct ls cs : Nat) (sky st : Int) (e : Int) (u : Nat) (w : World)
    (L S R Q p q : Nat) (wU wK wD aU aK aD : Int) (bU bD h hk hd x y s f vv l m r : Nat) (c : Bool)
    (hu1 : fgt u 0 = true) (hu2 : flt u 0 = false)
    (hU : L < M) (hD : R < M) (hK : p < M)
    (CE : Hid (∀ v, Ab w v → Calls Tryz.prog 33 #[gp, .int .i64 e] v fun e w' => e = .returned (.tuple #[.agg #[.int .i64 (L : Nat), .int .i64 (S : Nat), .int .i64 (R : Nat), .int .i64 (Q : Nat)], .bool true]) ∧ Below v.heap.size v w'))
    (CC : Hid (∀ v, Ab w v → Calls Tryz.prog 34 #[gp] v fun e w' => e = .returned (.int .i64 (M : Nat)) ∧ Below v.heap.size v w'))
    (CB : Hid (∀ v, Ab w v → Calls Tryz.prog 35 #[gp, .int .i64 e] v fun e w' => e = .returned (.tuple #[.int .i64 (p : Nat), .int .i64 (q : Nat), .bool true]) ∧ Below v.heap.size v w'))
    (AU : Hid (∀ v, Ab w v → Calls Tryz.prog 37 #[gp, .int .i64 (L : Nat)] v fun e w' => e = .returned (.int .i64 aU) ∧ Below v.heap.size v w'))
    (AK : Hid (∀ v, Ab w v → Calls Tryz.prog 37 #[gp, .int .i64 (p : Nat)] v fun e w' => e = .returned (.int .i64 aK) ∧ Below v.heap.size v w'))
    (AD : Hid (∀ v, Ab w v → Calls Tryz.prog 37 #[gp, .int .i64 (R : Nat)] v fun e w' => e = .returned (.int .i64 aD) ∧ Below v.heap.size v w'))
    (DU : Hid (∀ v : World, Calls Tryz.prog 36 #[.int .i64 wU, .int .i64 aU] v fun e w' => e = .returned (.float .f64 h) ∧ Below v.heap.size v w'))
    (DK : Hid (∀ v : World, Calls Tryz.prog 36 #[.int .i64 wK, .int .i64 aK] v fun e w' => e = .returned (.float .f64 hk) ∧ Below v.heap.size v w'))
    (DD : Hid (∀ v : World, Calls Tryz.prog 36 #[.int .i64 wD, .int .i64 aD] v fun e w' => e = .returned (.float .f64 hd) ∧ Below v.heap.size v w'))
    (CS : Hid (∀ v : World, Calls Tryz.prog 38 #[.int .i64 k, .float .f64 x, .float .f64 y] v fun e w' => e = .returned (.float .f64 s) ∧ Below v.heap.size v w'))
    (CL : Hid (∀ v : World, Calls Tryz.prog 39 #[.float .f64 bU, .int .i64 wU, .int .i64 aU] v fun e w' => e = .returned (.float .f64 l) ∧ Below v.heap.size v w'))
    (CM : Hid (∀ v : World, Calls Tryz.prog 40 #[.float .f64 bU, .float .f64 bD] v fun e w' => e = .returned (.float .f64 m) ∧ Below v.heap.size v w'))
    (FW : Hid (∀ v, Ab w v → v.cell? ⟨wb, wo + L, none⟩ = some (.int .i64 wU) ∧ v.cell? ⟨wb, wo + p, none⟩ = some (.int .i64 wK) ∧ v.cell? ⟨wb, wo + R, none⟩ = some (.int .i64 wD) ∧ v.cell? ⟨bb, bo + L, none⟩ = some (.float .f64 bU) ∧ v.cell? ⟨bb, bo + R, none⟩ = some (.float .f64 bD)))
    (hx : ∀ (t : TypeId) (w : World), (binOp .sub t (.float .f64 h) (.float .f64 hk)).run Tryz.prog w = .ok (.float .f64 x) w)
    (hy : ∀ (t : TypeId) (w : World), (binOp .sub t (.float .f64 hd) (.float .f64 h)).run Tryz.prog w = .ok (.float .f64 y) w)
    (hm : ∀ (t : TypeId) (w : World), (binOp .mul t (.float .f64 4602678819172646912) (.float .f64 s)).run Tryz.prog w = .ok (.float .f64 f) w)
    (hv : ∀ (t : TypeId) (w : World), (binOp .add t (.float .f64 h) (.float .f64 f)).run Tryz.prog w = .ok (.float .f64 vv) w)
    (g : Nat)
    (hg : ∀ (t : TypeId) (w : World), (binOp .sub t (.float .f64 l) (.float .f64 m)).run Tryz.prog w = .ok (.float .f64 g) w)
    (CN : Hid (∀ v : World, Calls Tryz.prog 41 #[.float .f64 vv, .float .f64 g] v fun e w' => e = .returned (.float .f64 r) ∧ Below v.heap.size v w'))
    (hr : fgt r 0 = c) :
    Calls Tryz.prog 10 #[gp, .int .i64 k, .agg #[.slice (some ⟨bb, bo, none⟩) M cb, .slice (some ⟨wb, wo, none⟩) M cw, .slice pt lt ct, .slice ps ls cs, .int .i64 sky, .int .i64 st], .int .i64 e, .float .f64 u] w fun e w' => e = .returned (.float .f64 (if c = true then r else 0)) ∧ Below w.heap.size w w' := by
  have AS : Hid (Ab w (w.alloc (.cells #[.slice (some ⟨bb, bo, none⟩) M cb, .slice (some ⟨wb, wo, none⟩) M cw, .slice pt lt ct, .slice ps ls cs, .int .i64 sky, .int .i64 st] 25))) := bl1 _ _
  go_enter Tryz.func10, Tryz.ntmps10
  go_wp2_with fail
  refine (CE.out _ AS.out).mono ?_
  rintro e0 w1 ⟨rfl, b1⟩
  have A1 : Hid (Ab w w1) := AS.out.call b1
  have SR1 : Hid (w1.heap[w.heap.size]? = some (.cells #[.slice (some ⟨bb, bo, none⟩) M cb, .slice (some ⟨wb, wo, none⟩) M cw, .slice pt lt ct, .slice ps ls cs, .int .i64 sky, .int .i64 st] 25)) := Ab.heap b1 (heap_alloc_new _ _)
  clear b1 AS
  go_upto_region 2 with fail
  generalize hW : World.alloc w1 _ = W
  obtain ⟨gs, hgs⟩ : ∃ g, w.heap.size = g := ⟨_, rfl⟩
  obtain ⟨ge, hge⟩ : ∃ g, w1.heap.size = g := ⟨_, rfl⟩
  have SR : Hid (W.heap[gs]? = some (.cells #[.slice (some ⟨bb, bo, none⟩) M cb, .slice (some ⟨wb, wo, none⟩) M cw, .slice pt lt ct, .slice ps ls cs, .int .i64 sky, .int .i64 st] 25)) := by rw [← hW, ← hgs]; exact Ab.heap (bl1 _ _) SR1.out
  have ER : Hid (W.heap[ge]? = some (.cells #[.int .i64 (L : Nat), .int .i64 (S : Nat), .int .i64 (R : Nat), .int .i64 (Q : Nat)] 70)) := by rw [← hW, ← hge]; exact heap_alloc_new _ _
  have AW : Hid (Ab w W) := by rw [← hW]; exact A1.out.alloc _
  rw [hge]
  rw [hgs]
  clear hW hgs hge A1 SR1
  have hU' : ((L : Nat) : Int) < M := by omega
  have hD' : ((R : Nat) : Int) < M := by omega
  have hK' : ((p : Nat) : Int) < M := by omega
  obtain ⟨UU, E, hF1, hF2⟩ := cls W
  have HU := hid hF2
  have HU1 := hid hF1
  have HW : Hid (∀ u, Ab W (E u)) := fun u => hF1 u
  have HX : Hid (∀ u, Ab w (E u)) := fun u => AW.out.trans (HW.out u)
  have xs0 : ∀ u, (E u).cell? ⟨gs, 0, none⟩ = some (.slice (some ⟨bb, bo, none⟩) M cb) := fun u => cell_of_row _ _ 0 _ _ _ ((HW.out u).heap SR.out)
  have xs1 : ∀ u, (E u).cell? ⟨gs, 1, none⟩ = some (.slice (some ⟨wb, wo, none⟩) M cw) := fun u => cell_of_row _ _ 1 _ _ _ ((HW.out u).heap SR.out)
  have DD0 := HU.out _ (Ab.refl W).drew
  clear hF1 hF2
  refine region_cls E (by kernel_rfl) (by kernel_rfl) DD0 ?_
  repeat (go_big_quiet_step (first
    | (with_reducible rfl)
    | (go_at_call 34; exact calls_cls HU HU1 (CC.out _ (HX.out _)))))
  refine wpQuiet_nil ?_
  intro v1 hwz
  obtain ⟨u0, hu⟩ := hwz
  have AV1 : Hid (Ab W v1) := by rw [hu]; exact HW.out u0
  clear hu u0
  clear HU HU1 HW HX DD0 xs0 xs1
  clear E UU
  have e0 := cell_of_row _ _ 0 _ _ _ (AV1.out.heap ER.out)
  have e2 := cell_of_row _ _ 2 _ _ _ (AV1.out.heap ER.out)
  go_wp2_with fail
  refine (CB.out _ (AW.out.trans AV1.out)).mono ?_
  rintro e9 w2 ⟨rfl, b2⟩
  clear e0 e2
  have AV2 : Hid (Ab W w2) := AV1.out.call b2
  clear b2
  have e0 := cell_of_row _ _ 0 _ _ _ (AV2.out.heap ER.out)
  have e2 := cell_of_row _ _ 2 _ _ _ (AV2.out.heap ER.out)
  go_upto_region 13 with fail
  obtain ⟨UU, E, hF1, hF2⟩ := cls w2
  have HU := hid hF2
  have HU1 := hid hF1
  have HW : Hid (∀ u, Ab W (E u)) := fun u => AV2.out.trans (hF1 u)
  have HX : Hid (∀ u, Ab w (E u)) := fun u => AW.out.trans (HW.out u)
  have xs1 : ∀ u, (E u).cell? ⟨gs, 1, none⟩ = some (.slice (some ⟨wb, wo, none⟩) M cw) := fun u => cell_of_row _ _ 1 _ _ _ ((HW.out u).heap SR.out)
  have xw : ∀ u, (E u).cell? ⟨wb, wo + L, none⟩ = some (.int .i64 wU) := fun u => (FW.out _ (HX.out u)).1
  have DD0 := HU.out _ (Ab.refl w2).drew
  clear hF1 hF2
  refine region_cls E (by kernel_rfl) (by kernel_rfl) DD0 ?_
  repeat (go_big_quiet_step (first
    | (with_reducible rfl)
    | (go_at_call 37; exact calls_cls HU HU1 (AU.out _ (HX.out _)))
    | (go_at_call 36; exact calls_cls HU HU1 (DU.out _))))
  refine wpQuiet_nil ?_
  intro v3 hwz
  obtain ⟨u0, hu⟩ := hwz
  have AV3 : Hid (Ab W v3) := by rw [hu]; exact HW.out u0
  clear hu u0
  clear HU HU1 HW HX DD0 xs1 xw
  clear E UU
  clear e0 e2
  go_upto_region 14 with fail
  obtain ⟨UU, E, hF1, hF2⟩ := cls v3
  have HU := hid hF2
  have HU1 := hid hF1
  have HW : Hid (∀ u, Ab W (E u)) := fun u => AV3.out.trans (hF1 u)
  have HX : Hid (∀ u, Ab w (E u)) := fun u => AW.out.trans (HW.out u)
  have xs1 : ∀ u, (E u).cell? ⟨gs, 1, none⟩ = some (.slice (some ⟨wb, wo, none⟩) M cw) := fun u => cell_of_row _ _ 1 _ _ _ ((HW.out u).heap SR.out)
  have xw : ∀ u, (E u).cell? ⟨wb, wo + p, none⟩ = some (.int .i64 wK) := fun u => (FW.out _ (HX.out u)).2.1
  have DD0 := HU.out _ (Ab.refl v3).drew
  clear hF1 hF2
  refine region_cls E (by kernel_rfl) (by kernel_rfl) DD0 ?_
  repeat (go_big_quiet_step (first
    | (with_reducible rfl)
    | (go_at_call 37; exact calls_cls HU HU1 (AK.out _ (HX.out _)))
    | (go_at_call 36; exact calls_cls HU HU1 (DK.out _))))
  refine wpQuiet_nil ?_
  intro v4 hwz
  obtain ⟨u0, hu⟩ := hwz
  have AV4 : Hid (Ab W v4) := by rw [hu]; exact HW.out u0
  clear hu u0
  clear HU HU1 HW HX DD0 xs1 xw
  clear E UU
  go_upto_region 15 with fail
  obtain ⟨UU, E, hF1, hF2⟩ := cls v4
  have HU := hid hF2
  have HU1 := hid hF1
  have HW : Hid (∀ u, Ab W (E u)) := fun u => AV4.out.trans (hF1 u)
  have HX : Hid (∀ u, Ab w (E u)) := fun u => AW.out.trans (HW.out u)
  have xs1 : ∀ u, (E u).cell? ⟨gs, 1, none⟩ = some (.slice (some ⟨wb, wo, none⟩) M cw) := fun u => cell_of_row _ _ 1 _ _ _ ((HW.out u).heap SR.out)
  have xw : ∀ u, (E u).cell? ⟨wb, wo + R, none⟩ = some (.int .i64 wD) := fun u => (FW.out _ (HX.out u)).2.2.1
  have DD0 := HU.out _ (Ab.refl v4).drew
  clear hF1 hF2
  refine region_cls E (by kernel_rfl) (by kernel_rfl) DD0 ?_
  repeat (go_big_quiet_step (first
    | (with_reducible rfl)
    | (go_at_call 37; exact calls_cls HU HU1 (AD.out _ (HX.out _)))
    | (go_at_call 36; exact calls_cls HU HU1 (DD.out _))))
  refine wpQuiet_nil ?_
  intro v5 hwz
  obtain ⟨u0, hu⟩ := hwz
  have AV5 : Hid (Ab W v5) := by rw [hu]; exact HW.out u0
  clear hu u0
  clear HU HU1 HW HX DD0 xs1 xw
  clear E UU
  go_wp2_with fail
  refine (CS.out _).mono ?_
  rintro e9 w3 ⟨rfl, b3⟩
  have AV6 : Hid (Ab W w3) := AV5.out.call b3
  clear b3
  go_upto_region 18 with fail
  obtain ⟨UU, E, hF1, hF2⟩ := cls w3
  have HU := hid hF2
  have HU1 := hid hF1
  have HW : Hid (∀ u, Ab W (E u)) := fun u => AV6.out.trans (hF1 u)
  have HX : Hid (∀ u, Ab w (E u)) := fun u => AW.out.trans (HW.out u)
  have xs0 : ∀ u, (E u).cell? ⟨gs, 0, none⟩ = some (.slice (some ⟨bb, bo, none⟩) M cb) := fun u => cell_of_row _ _ 0 _ _ _ ((HW.out u).heap SR.out)
  have xs1 : ∀ u, (E u).cell? ⟨gs, 1, none⟩ = some (.slice (some ⟨wb, wo, none⟩) M cw) := fun u => cell_of_row _ _ 1 _ _ _ ((HW.out u).heap SR.out)
  have xw : ∀ u, (E u).cell? ⟨wb, wo + L, none⟩ = some (.int .i64 wU) := fun u => (FW.out _ (HX.out u)).1
  have xb1 : ∀ u, (E u).cell? ⟨bb, bo + L, none⟩ = some (.float .f64 bU) := fun u => (FW.out _ (HX.out u)).2.2.2.1
  have xb2 : ∀ u, (E u).cell? ⟨bb, bo + R, none⟩ = some (.float .f64 bD) := fun u => (FW.out _ (HX.out u)).2.2.2.2
  have DD0 := HU.out _ (Ab.refl w3).drew
  clear hF1 hF2
  refine region_cls E (by kernel_rfl) (by kernel_rfl) DD0 ?_
  repeat (go_big_quiet_step (first
    | (with_reducible rfl)
    | (go_at_call 37; exact calls_cls HU HU1 (AU.out _ (HX.out _)))
    | (go_at_call 39; exact calls_cls HU HU1 (CL.out _))
    | (go_at_call 40; exact calls_cls HU HU1 (CM.out _))))
  refine wpQuiet_nil ?_
  intro v7 hwz
  obtain ⟨u0, hu⟩ := hwz
  have AV7 : Hid (Ab W v7) := by rw [hu]; exact HW.out u0
  clear hu u0
  clear HU HU1 HW HX DD0 xs0 xs1 xw xb1 xb2
  clear E UU
  go_wp2_with fail
  refine (CN.out _).mono ?_
  rintro e9 w4 ⟨rfl, b4⟩
  have AZ : Hid (Ab w w4) := ((AW.out.trans AV7.out)).call b4
  clear b4
  cases c
  · go_wp2
    go_ret
    exact ⟨rfl, AZ.out⟩
  · go_wp2
    go_ret
    exact ⟨rfl, AZ.out⟩
end Go.Proofs.YtgeipbegpflkhaaGreatDoor

/-
  The depth over an edge by the document: the reference's walk.
-/
namespace Go.Proofs.YtgeipbegpflkhaaGreatDoor
open Go.RowKit Tf Cu
attribute [local go_sem] run_bits run_from raw_feq raw_fne raw_flt raw_fgt run_neg run_store_float
set_option maxRecDepth 100000 in
set_option maxHeartbeats 16000000 in
theorem rd12_pos_none (gp : Value) (k : Int) (bb bo wb wo M cb cw : Nat) (pt ps : Option Addr) (lt ct ls cs : Nat) (sky st : Int) (e : Int) (u : Nat) (w : World)
    (L S R Q p q : Nat) (wU wK wD aU aK aD : Int) (bU bD h hk hd x y s f vv l m r : Nat) (c : Bool)
    (hu1 : fgt u 0 = true) (hu2 : flt u 0 = false)
    (hU : L < M) (hD : R < M) (hK : p < M)
    (CE : Hid (∀ v, Ab w v → Calls Tryz.prog 33 #[gp, .int .i64 e] v fun e w' => e = .returned (.tuple #[.agg #[.int .i64 (L : Nat), .int .i64 (S : Nat), .int .i64 (R : Nat), .int .i64 (Q : Nat)], .bool true]) ∧ Below v.heap.size v w'))
    (CC : Hid (∀ v, Ab w v → Calls Tryz.prog 34 #[gp] v fun e w' => e = .returned (.int .i64 (M : Nat)) ∧ Below v.heap.size v w'))
    (CB : Hid (∀ v, Ab w v → Calls Tryz.prog 35 #[gp, .int .i64 e] v fun e w' => e = .returned (.tuple #[.int .i64 (p : Nat), .int .i64 (q : Nat), .bool true]) ∧ Below v.heap.size v w'))
    (AU : Hid (∀ v, Ab w v → Calls Tryz.prog 37 #[gp, .int .i64 (L : Nat)] v fun e w' => e = .returned (.int .i64 aU) ∧ Below v.heap.size v w'))
    (AK : Hid (∀ v, Ab w v → Calls Tryz.prog 37 #[gp, .int .i64 (p : Nat)] v fun e w' => e = .returned (.int .i64 aK) ∧ Below v.heap.size v w'))
    (AD : Hid (∀ v, Ab w v → Calls Tryz.prog 37 #[gp, .int .i64 (R : Nat)] v fun e w' => e = .returned (.int .i64 aD) ∧ Below v.heap.size v w'))
    (DU : Hid (∀ v : World, Calls Tryz.prog 36 #[.int .i64 wU, .int .i64 aU] v fun e w' => e = .returned (.float .f64 h) ∧ Below v.heap.size v w'))
    (DK : Hid (∀ v : World, Calls Tryz.prog 36 #[.int .i64 wK, .int .i64 aK] v fun e w' => e = .returned (.float .f64 hk) ∧ Below v.heap.size v w'))
    (DD : Hid (∀ v : World, Calls Tryz.prog 36 #[.int .i64 wD, .int .i64 aD] v fun e w' => e = .returned (.float .f64 hd) ∧ Below v.heap.size v w'))
    (CS : Hid (∀ v : World, Calls Tryz.prog 38 #[.int .i64 k, .float .f64 x, .float .f64 y] v fun e w' => e = .returned (.float .f64 s) ∧ Below v.heap.size v w'))
    (CL : Hid (∀ v : World, Calls Tryz.prog 39 #[.float .f64 bU, .int .i64 wU, .int .i64 aU] v fun e w' => e = .returned (.float .f64 l) ∧ Below v.heap.size v w'))
    (CM : Hid (∀ v : World, Calls Tryz.prog 40 #[.float .f64 bU, .float .f64 bD] v fun e w' => e = .returned (.float .f64 m) ∧ Below v.heap.size v w'))
    (FW : Hid (∀ v, Ab w v → v.cell? ⟨wb, wo + L, none⟩ = some (.int .i64 wU) ∧ v.cell? ⟨wb, wo + p, none⟩ = some (.int .i64 wK) ∧ v.cell? ⟨wb, wo + R, none⟩ = some (.int .i64 wD) ∧ v.cell? ⟨bb, bo + L, none⟩ = some (.float .f64 bU) ∧ v.cell? ⟨bb, bo + R, none⟩ = some (.float .f64 bD)))
    (hx : ∀ (t : TypeId) (w : World), (binOp .sub t (.float .f64 h) (.float .f64 hk)).run Tryz.prog w = .ok (.float .f64 x) w)
    (hy : ∀ (t : TypeId) (w : World), (binOp .sub t (.float .f64 hd) (.float .f64 h)).run Tryz.prog w = .ok (.float .f64 y) w)
    (hm : ∀ (t : TypeId) (w : World), (binOp .mul t (.float .f64 4602678819172646912) (.float .f64 s)).run Tryz.prog w = .ok (.float .f64 f) w)
    (hv : ∀ (t : TypeId) (w : World), (binOp .add t (.float .f64 h) (.float .f64 f)).run Tryz.prog w = .ok (.float .f64 vv) w)
    (hg : ∀ (t : TypeId) (w : World), (binOp .sub t (.float .f64 l) (.float .f64 m)).run Tryz.prog w = .ok (.float .f64 (nanOf w l m)) (w.drewN 1))
    (CN : Hid (∀ (w0 v : World), Calls Tryz.prog 41 #[.float .f64 vv, .float .f64 (nanOf w0 l m)] v fun e w' => e = .returned (.float .f64 r) ∧ Below v.heap.size v w'))
    (hr : fgt r 0 = c) :
    Calls Tryz.prog 10 #[gp, .int .i64 k, .agg #[.slice (some ⟨bb, bo, none⟩) M cb, .slice (some ⟨wb, wo, none⟩) M cw, .slice pt lt ct, .slice ps ls cs, .int .i64 sky, .int .i64 st], .int .i64 e, .float .f64 u] w fun e w' => e = .returned (.float .f64 (if c = true then r else 0)) ∧ Below w.heap.size w w' := by
  have AS : Hid (Ab w (w.alloc (.cells #[.slice (some ⟨bb, bo, none⟩) M cb, .slice (some ⟨wb, wo, none⟩) M cw, .slice pt lt ct, .slice ps ls cs, .int .i64 sky, .int .i64 st] 25))) := bl1 _ _
  go_enter Tryz.func10, Tryz.ntmps10
  go_wp2_with fail
  refine (CE.out _ AS.out).mono ?_
  rintro e0 w1 ⟨rfl, b1⟩
  have A1 : Hid (Ab w w1) := AS.out.call b1
  have SR1 : Hid (w1.heap[w.heap.size]? = some (.cells #[.slice (some ⟨bb, bo, none⟩) M cb, .slice (some ⟨wb, wo, none⟩) M cw, .slice pt lt ct, .slice ps ls cs, .int .i64 sky, .int .i64 st] 25)) := Ab.heap b1 (heap_alloc_new _ _)
  clear b1 AS
  go_upto_region 2 with fail
  generalize hW : World.alloc w1 _ = W
  obtain ⟨gs, hgs⟩ : ∃ g, w.heap.size = g := ⟨_, rfl⟩
  obtain ⟨ge, hge⟩ : ∃ g, w1.heap.size = g := ⟨_, rfl⟩
  have SR : Hid (W.heap[gs]? = some (.cells #[.slice (some ⟨bb, bo, none⟩) M cb, .slice (some ⟨wb, wo, none⟩) M cw, .slice pt lt ct, .slice ps ls cs, .int .i64 sky, .int .i64 st] 25)) := by rw [← hW, ← hgs]; exact Ab.heap (bl1 _ _) SR1.out
  have ER : Hid (W.heap[ge]? = some (.cells #[.int .i64 (L : Nat), .int .i64 (S : Nat), .int .i64 (R : Nat), .int .i64 (Q : Nat)] 70)) := by rw [← hW, ← hge]; exact heap_alloc_new _ _
  have AW : Hid (Ab w W) := by rw [← hW]; exact A1.out.alloc _
  rw [hge]
  rw [hgs]
  clear hW hgs hge A1 SR1
  have hU' : ((L : Nat) : Int) < M := by omega
  have hD' : ((R : Nat) : Int) < M := by omega
  have hK' : ((p : Nat) : Int) < M := by omega
  obtain ⟨UU, E, hF1, hF2⟩ := cls W
  have HU := hid hF2
  have HU1 := hid hF1
  have HW : Hid (∀ u, Ab W (E u)) := fun u => hF1 u
  have HX : Hid (∀ u, Ab w (E u)) := fun u => AW.out.trans (HW.out u)
  have xs0 : ∀ u, (E u).cell? ⟨gs, 0, none⟩ = some (.slice (some ⟨bb, bo, none⟩) M cb) := fun u => cell_of_row _ _ 0 _ _ _ ((HW.out u).heap SR.out)
  have xs1 : ∀ u, (E u).cell? ⟨gs, 1, none⟩ = some (.slice (some ⟨wb, wo, none⟩) M cw) := fun u => cell_of_row _ _ 1 _ _ _ ((HW.out u).heap SR.out)
  have DD0 := HU.out _ (Ab.refl W).drew
  clear hF1 hF2
  refine region_cls E (by kernel_rfl) (by kernel_rfl) DD0 ?_
  repeat (go_big_quiet_step (first
    | (with_reducible rfl)
    | (go_at_call 34; exact calls_cls HU HU1 (CC.out _ (HX.out _)))))
  refine wpQuiet_nil ?_
  intro v1 hwz
  obtain ⟨u0, hu⟩ := hwz
  have AV1 : Hid (Ab W v1) := by rw [hu]; exact HW.out u0
  clear hu u0
  clear HU HU1 HW HX DD0 xs0 xs1
  clear E UU
  have e0 := cell_of_row _ _ 0 _ _ _ (AV1.out.heap ER.out)
  have e2 := cell_of_row _ _ 2 _ _ _ (AV1.out.heap ER.out)
  go_wp2_with fail
  refine (CB.out _ (AW.out.trans AV1.out)).mono ?_
  rintro e9 w2 ⟨rfl, b2⟩
  clear e0 e2
  have AV2 : Hid (Ab W w2) := AV1.out.call b2
  clear b2
  have e0 := cell_of_row _ _ 0 _ _ _ (AV2.out.heap ER.out)
  have e2 := cell_of_row _ _ 2 _ _ _ (AV2.out.heap ER.out)
  go_upto_region 13 with fail
  obtain ⟨UU, E, hF1, hF2⟩ := cls w2
  have HU := hid hF2
  have HU1 := hid hF1
  have HW : Hid (∀ u, Ab W (E u)) := fun u => AV2.out.trans (hF1 u)
  have HX : Hid (∀ u, Ab w (E u)) := fun u => AW.out.trans (HW.out u)
  have xs1 : ∀ u, (E u).cell? ⟨gs, 1, none⟩ = some (.slice (some ⟨wb, wo, none⟩) M cw) := fun u => cell_of_row _ _ 1 _ _ _ ((HW.out u).heap SR.out)
  have xw : ∀ u, (E u).cell? ⟨wb, wo + L, none⟩ = some (.int .i64 wU) := fun u => (FW.out _ (HX.out u)).1
  have DD0 := HU.out _ (Ab.refl w2).drew
  clear hF1 hF2
  refine region_cls E (by kernel_rfl) (by kernel_rfl) DD0 ?_
  repeat (go_big_quiet_step (first
    | (with_reducible rfl)
    | (go_at_call 37; exact calls_cls HU HU1 (AU.out _ (HX.out _)))
    | (go_at_call 36; exact calls_cls HU HU1 (DU.out _))))
  refine wpQuiet_nil ?_
  intro v3 hwz
  obtain ⟨u0, hu⟩ := hwz
  have AV3 : Hid (Ab W v3) := by rw [hu]; exact HW.out u0
  clear hu u0
  clear HU HU1 HW HX DD0 xs1 xw
  clear E UU
  clear e0 e2
  go_upto_region 14 with fail
  obtain ⟨UU, E, hF1, hF2⟩ := cls v3
  have HU := hid hF2
  have HU1 := hid hF1
  have HW : Hid (∀ u, Ab W (E u)) := fun u => AV3.out.trans (hF1 u)
  have HX : Hid (∀ u, Ab w (E u)) := fun u => AW.out.trans (HW.out u)
  have xs1 : ∀ u, (E u).cell? ⟨gs, 1, none⟩ = some (.slice (some ⟨wb, wo, none⟩) M cw) := fun u => cell_of_row _ _ 1 _ _ _ ((HW.out u).heap SR.out)
  have xw : ∀ u, (E u).cell? ⟨wb, wo + p, none⟩ = some (.int .i64 wK) := fun u => (FW.out _ (HX.out u)).2.1
  have DD0 := HU.out _ (Ab.refl v3).drew
  clear hF1 hF2
  refine region_cls E (by kernel_rfl) (by kernel_rfl) DD0 ?_
  repeat (go_big_quiet_step (first
    | (with_reducible rfl)
    | (go_at_call 37; exact calls_cls HU HU1 (AK.out _ (HX.out _)))
    | (go_at_call 36; exact calls_cls HU HU1 (DK.out _))))
  refine wpQuiet_nil ?_
  intro v4 hwz
  obtain ⟨u0, hu⟩ := hwz
  have AV4 : Hid (Ab W v4) := by rw [hu]; exact HW.out u0
  clear hu u0
  clear HU HU1 HW HX DD0 xs1 xw
  clear E UU
  go_upto_region 15 with fail
  obtain ⟨UU, E, hF1, hF2⟩ := cls v4
  have HU := hid hF2
  have HU1 := hid hF1
  have HW : Hid (∀ u, Ab W (E u)) := fun u => AV4.out.trans (hF1 u)
  have HX : Hid (∀ u, Ab w (E u)) := fun u => AW.out.trans (HW.out u)
  have xs1 : ∀ u, (E u).cell? ⟨gs, 1, none⟩ = some (.slice (some ⟨wb, wo, none⟩) M cw) := fun u => cell_of_row _ _ 1 _ _ _ ((HW.out u).heap SR.out)
  have xw : ∀ u, (E u).cell? ⟨wb, wo + R, none⟩ = some (.int .i64 wD) := fun u => (FW.out _ (HX.out u)).2.2.1
  have DD0 := HU.out _ (Ab.refl v4).drew
  clear hF1 hF2
  refine region_cls E (by kernel_rfl) (by kernel_rfl) DD0 ?_
  repeat (go_big_quiet_step (first
    | (with_reducible rfl)
    | (go_at_call 37; exact calls_cls HU HU1 (AD.out _ (HX.out _)))
    | (go_at_call 36; exact calls_cls HU HU1 (DD.out _))))
  refine wpQuiet_nil ?_
  intro v5 hwz
  obtain ⟨u0, hu⟩ := hwz
  have AV5 : Hid (Ab W v5) := by rw [hu]; exact HW.out u0
  clear hu u0
  clear HU HU1 HW HX DD0 xs1 xw
  clear E UU
  go_wp2_with fail
  refine (CS.out _).mono ?_
  rintro e9 w3 ⟨rfl, b3⟩
  have AV6 : Hid (Ab W w3) := AV5.out.call b3
  clear b3
  go_upto_region 18 with fail
  obtain ⟨UU, E, hF1, hF2⟩ := cls w3
  have HU := hid hF2
  have HU1 := hid hF1
  have HW : Hid (∀ u, Ab W (E u)) := fun u => AV6.out.trans (hF1 u)
  have HX : Hid (∀ u, Ab w (E u)) := fun u => AW.out.trans (HW.out u)
  have xs0 : ∀ u, (E u).cell? ⟨gs, 0, none⟩ = some (.slice (some ⟨bb, bo, none⟩) M cb) := fun u => cell_of_row _ _ 0 _ _ _ ((HW.out u).heap SR.out)
  have xs1 : ∀ u, (E u).cell? ⟨gs, 1, none⟩ = some (.slice (some ⟨wb, wo, none⟩) M cw) := fun u => cell_of_row _ _ 1 _ _ _ ((HW.out u).heap SR.out)
  have xw : ∀ u, (E u).cell? ⟨wb, wo + L, none⟩ = some (.int .i64 wU) := fun u => (FW.out _ (HX.out u)).1
  have xb1 : ∀ u, (E u).cell? ⟨bb, bo + L, none⟩ = some (.float .f64 bU) := fun u => (FW.out _ (HX.out u)).2.2.2.1
  have xb2 : ∀ u, (E u).cell? ⟨bb, bo + R, none⟩ = some (.float .f64 bD) := fun u => (FW.out _ (HX.out u)).2.2.2.2
  have DD0 := HU.out _ (Ab.refl w3).drew
  clear hF1 hF2
  refine region_tail 25 E (by kernel_rfl) (by kernel_rfl) (by kernel_rfl) DD0 ?_
  simp only [List.take_succ_cons, List.take_zero, List.drop_succ_cons, List.drop_zero]
  repeat (go_big_quiet_step (first
    | (with_reducible rfl)
    | (go_at_call 37; exact calls_cls HU HU1 (AU.out _ (HX.out _)))
    | (go_at_call 39; exact calls_cls HU HU1 (CL.out _))
    | (go_at_call 40; exact calls_cls HU HU1 (CM.out _))))
  refine wpQuiet_nil ?_
  intro v7 hwz
  obtain ⟨u0, hu⟩ := hwz
  have AV7 : Hid (Ab W v7) := by rw [hu]; exact HW.out u0
  clear hu u0
  clear HU HU1 HW HX DD0 xs0 xs1 xw xb1 xb2
  clear E UU
  go_wp2_with fail
  refine (CN.out _ _).mono ?_
  rintro e9 w4 ⟨rfl, b4⟩
  have AZ : Hid (Ab w w4) := (Ab.drewN (AW.out.trans AV7.out) 1).call b4
  clear b4
  cases c
  · go_wp2
    go_ret
    exact ⟨rfl, AZ.out⟩
  · go_wp2
    go_ret
    exact ⟨rfl, AZ.out⟩
end Go.Proofs.YtgeipbegpflkhaaGreatDoor

/-
  The depth over an edge by the document: the reference's walk.
-/
namespace Go.Proofs.YtgeipbegpflkhaaGreatDoor
open Go.RowKit Tf Cu
attribute [local go_sem] run_bits run_from raw_feq raw_fne raw_flt raw_fgt run_neg run_store_float
set_option maxRecDepth 100000 in
set_option maxHeartbeats 16000000 in
theorem rd12_neg_some (gp : Value) (k : Int) (bb bo wb wo M cb cw : Nat) (pt ps : Option Addr) (lt ct ls cs : Nat) (sky st : Int) (e : Int) (u : Nat) (w : World)
    (L S R Q p q : Nat) (wU wK wD aU aK aD : Int) (bU bD h hk hd x y s f vv l m r : Nat) (c : Bool)
    (hu1 : fgt u 0 = false) (hu2 : flt u 0 = true)
    (hU : R < M) (hD : L < M) (hK : q < M)
    (CE : Hid (∀ v, Ab w v → Calls Tryz.prog 33 #[gp, .int .i64 e] v fun e w' => e = .returned (.tuple #[.agg #[.int .i64 (L : Nat), .int .i64 (S : Nat), .int .i64 (R : Nat), .int .i64 (Q : Nat)], .bool true]) ∧ Below v.heap.size v w'))
    (CC : Hid (∀ v, Ab w v → Calls Tryz.prog 34 #[gp] v fun e w' => e = .returned (.int .i64 (M : Nat)) ∧ Below v.heap.size v w'))
    (CB : Hid (∀ v, Ab w v → Calls Tryz.prog 35 #[gp, .int .i64 e] v fun e w' => e = .returned (.tuple #[.int .i64 (p : Nat), .int .i64 (q : Nat), .bool true]) ∧ Below v.heap.size v w'))
    (AU : Hid (∀ v, Ab w v → Calls Tryz.prog 37 #[gp, .int .i64 (R : Nat)] v fun e w' => e = .returned (.int .i64 aU) ∧ Below v.heap.size v w'))
    (AK : Hid (∀ v, Ab w v → Calls Tryz.prog 37 #[gp, .int .i64 (q : Nat)] v fun e w' => e = .returned (.int .i64 aK) ∧ Below v.heap.size v w'))
    (AD : Hid (∀ v, Ab w v → Calls Tryz.prog 37 #[gp, .int .i64 (L : Nat)] v fun e w' => e = .returned (.int .i64 aD) ∧ Below v.heap.size v w'))
    (DU : Hid (∀ v : World, Calls Tryz.prog 36 #[.int .i64 wU, .int .i64 aU] v fun e w' => e = .returned (.float .f64 h) ∧ Below v.heap.size v w'))
    (DK : Hid (∀ v : World, Calls Tryz.prog 36 #[.int .i64 wK, .int .i64 aK] v fun e w' => e = .returned (.float .f64 hk) ∧ Below v.heap.size v w'))
    (DD : Hid (∀ v : World, Calls Tryz.prog 36 #[.int .i64 wD, .int .i64 aD] v fun e w' => e = .returned (.float .f64 hd) ∧ Below v.heap.size v w'))
    (CS : Hid (∀ v : World, Calls Tryz.prog 38 #[.int .i64 k, .float .f64 x, .float .f64 y] v fun e w' => e = .returned (.float .f64 s) ∧ Below v.heap.size v w'))
    (CL : Hid (∀ v : World, Calls Tryz.prog 39 #[.float .f64 bU, .int .i64 wU, .int .i64 aU] v fun e w' => e = .returned (.float .f64 l) ∧ Below v.heap.size v w'))
    (CM : Hid (∀ v : World, Calls Tryz.prog 40 #[.float .f64 bU, .float .f64 bD] v fun e w' => e = .returned (.float .f64 m) ∧ Below v.heap.size v w'))
    (FW : Hid (∀ v, Ab w v → v.cell? ⟨wb, wo + R, none⟩ = some (.int .i64 wU) ∧ v.cell? ⟨wb, wo + q, none⟩ = some (.int .i64 wK) ∧ v.cell? ⟨wb, wo + L, none⟩ = some (.int .i64 wD) ∧ v.cell? ⟨bb, bo + R, none⟩ = some (.float .f64 bU) ∧ v.cell? ⟨bb, bo + L, none⟩ = some (.float .f64 bD)))
    (hx : ∀ (t : TypeId) (w : World), (binOp .sub t (.float .f64 h) (.float .f64 hk)).run Tryz.prog w = .ok (.float .f64 x) w)
    (hy : ∀ (t : TypeId) (w : World), (binOp .sub t (.float .f64 hd) (.float .f64 h)).run Tryz.prog w = .ok (.float .f64 y) w)
    (hm : ∀ (t : TypeId) (w : World), (binOp .mul t (.float .f64 4602678819172646912) (.float .f64 s)).run Tryz.prog w = .ok (.float .f64 f) w)
    (hv : ∀ (t : TypeId) (w : World), (binOp .add t (.float .f64 h) (.float .f64 f)).run Tryz.prog w = .ok (.float .f64 vv) w)
    (g : Nat)
    (hg : ∀ (t : TypeId) (w : World), (binOp .sub t (.float .f64 l) (.float .f64 m)).run Tryz.prog w = .ok (.float .f64 g) w)
    (CN : Hid (∀ v : World, Calls Tryz.prog 41 #[.float .f64 vv, .float .f64 g] v fun e w' => e = .returned (.float .f64 r) ∧ Below v.heap.size v w'))
    (hr : fgt r 0 = c) :
    Calls Tryz.prog 10 #[gp, .int .i64 k, .agg #[.slice (some ⟨bb, bo, none⟩) M cb, .slice (some ⟨wb, wo, none⟩) M cw, .slice pt lt ct, .slice ps ls cs, .int .i64 sky, .int .i64 st], .int .i64 e, .float .f64 u] w fun e w' => e = .returned (.float .f64 (if c = true then r else 0)) ∧ Below w.heap.size w w' := by
  have AS : Hid (Ab w (w.alloc (.cells #[.slice (some ⟨bb, bo, none⟩) M cb, .slice (some ⟨wb, wo, none⟩) M cw, .slice pt lt ct, .slice ps ls cs, .int .i64 sky, .int .i64 st] 25))) := bl1 _ _
  go_enter Tryz.func10, Tryz.ntmps10
  go_wp2_with fail
  refine (CE.out _ AS.out).mono ?_
  rintro e0 w1 ⟨rfl, b1⟩
  have A1 : Hid (Ab w w1) := AS.out.call b1
  have SR1 : Hid (w1.heap[w.heap.size]? = some (.cells #[.slice (some ⟨bb, bo, none⟩) M cb, .slice (some ⟨wb, wo, none⟩) M cw, .slice pt lt ct, .slice ps ls cs, .int .i64 sky, .int .i64 st] 25)) := Ab.heap b1 (heap_alloc_new _ _)
  clear b1 AS
  go_upto_region 2 with fail
  generalize hW : World.alloc w1 _ = W
  obtain ⟨gs, hgs⟩ : ∃ g, w.heap.size = g := ⟨_, rfl⟩
  obtain ⟨ge, hge⟩ : ∃ g, w1.heap.size = g := ⟨_, rfl⟩
  have SR : Hid (W.heap[gs]? = some (.cells #[.slice (some ⟨bb, bo, none⟩) M cb, .slice (some ⟨wb, wo, none⟩) M cw, .slice pt lt ct, .slice ps ls cs, .int .i64 sky, .int .i64 st] 25)) := by rw [← hW, ← hgs]; exact Ab.heap (bl1 _ _) SR1.out
  have ER : Hid (W.heap[ge]? = some (.cells #[.int .i64 (L : Nat), .int .i64 (S : Nat), .int .i64 (R : Nat), .int .i64 (Q : Nat)] 70)) := by rw [← hW, ← hge]; exact heap_alloc_new _ _
  have AW : Hid (Ab w W) := by rw [← hW]; exact A1.out.alloc _
  rw [hge]
  rw [hgs]
  clear hW hgs hge A1 SR1
  have hU' : ((R : Nat) : Int) < M := by omega
  have hD' : ((L : Nat) : Int) < M := by omega
  have hK' : ((q : Nat) : Int) < M := by omega
  obtain ⟨UU, E, hF1, hF2⟩ := cls W
  have HU := hid hF2
  have HU1 := hid hF1
  have HW : Hid (∀ u, Ab W (E u)) := fun u => hF1 u
  have HX : Hid (∀ u, Ab w (E u)) := fun u => AW.out.trans (HW.out u)
  have xs0 : ∀ u, (E u).cell? ⟨gs, 0, none⟩ = some (.slice (some ⟨bb, bo, none⟩) M cb) := fun u => cell_of_row _ _ 0 _ _ _ ((HW.out u).heap SR.out)
  have xs1 : ∀ u, (E u).cell? ⟨gs, 1, none⟩ = some (.slice (some ⟨wb, wo, none⟩) M cw) := fun u => cell_of_row _ _ 1 _ _ _ ((HW.out u).heap SR.out)
  have DD0 := HU.out _ (Ab.refl W).drew
  clear hF1 hF2
  refine region_cls E (by kernel_rfl) (by kernel_rfl) DD0 ?_
  repeat (go_big_quiet_step (first
    | (with_reducible rfl)
    | (go_at_call 34; exact calls_cls HU HU1 (CC.out _ (HX.out _)))))
  refine wpQuiet_nil ?_
  intro v1 hwz
  obtain ⟨u0, hu⟩ := hwz
  have AV1 : Hid (Ab W v1) := by rw [hu]; exact HW.out u0
  clear hu u0
  clear HU HU1 HW HX DD0 xs0 xs1
  clear E UU
  have e0 := cell_of_row _ _ 0 _ _ _ (AV1.out.heap ER.out)
  have e2 := cell_of_row _ _ 2 _ _ _ (AV1.out.heap ER.out)
  go_wp2_with fail
  refine (CB.out _ (AW.out.trans AV1.out)).mono ?_
  rintro e9 w2 ⟨rfl, b2⟩
  clear e0 e2
  have AV2 : Hid (Ab W w2) := AV1.out.call b2
  clear b2
  have e0 := cell_of_row _ _ 0 _ _ _ (AV2.out.heap ER.out)
  have e2 := cell_of_row _ _ 2 _ _ _ (AV2.out.heap ER.out)
  go_upto_region 13 with fail
  obtain ⟨UU, E, hF1, hF2⟩ := cls w2
  have HU := hid hF2
  have HU1 := hid hF1
  have HW : Hid (∀ u, Ab W (E u)) := fun u => AV2.out.trans (hF1 u)
  have HX : Hid (∀ u, Ab w (E u)) := fun u => AW.out.trans (HW.out u)
  have xs1 : ∀ u, (E u).cell? ⟨gs, 1, none⟩ = some (.slice (some ⟨wb, wo, none⟩) M cw) := fun u => cell_of_row _ _ 1 _ _ _ ((HW.out u).heap SR.out)
  have xw : ∀ u, (E u).cell? ⟨wb, wo + R, none⟩ = some (.int .i64 wU) := fun u => (FW.out _ (HX.out u)).1
  have DD0 := HU.out _ (Ab.refl w2).drew
  clear hF1 hF2
  refine region_cls E (by kernel_rfl) (by kernel_rfl) DD0 ?_
  repeat (go_big_quiet_step (first
    | (with_reducible rfl)
    | (go_at_call 37; exact calls_cls HU HU1 (AU.out _ (HX.out _)))
    | (go_at_call 36; exact calls_cls HU HU1 (DU.out _))))
  refine wpQuiet_nil ?_
  intro v3 hwz
  obtain ⟨u0, hu⟩ := hwz
  have AV3 : Hid (Ab W v3) := by rw [hu]; exact HW.out u0
  clear hu u0
  clear HU HU1 HW HX DD0 xs1 xw
  clear E UU
  clear e0 e2
  go_upto_region 14 with fail
  obtain ⟨UU, E, hF1, hF2⟩ := cls v3
  have HU := hid hF2
  have HU1 := hid hF1
  have HW : Hid (∀ u, Ab W (E u)) := fun u => AV3.out.trans (hF1 u)
  have HX : Hid (∀ u, Ab w (E u)) := fun u => AW.out.trans (HW.out u)
  have xs1 : ∀ u, (E u).cell? ⟨gs, 1, none⟩ = some (.slice (some ⟨wb, wo, none⟩) M cw) := fun u => cell_of_row _ _ 1 _ _ _ ((HW.out u).heap SR.out)
  have xw : ∀ u, (E u).cell? ⟨wb, wo + q, none⟩ = some (.int .i64 wK) := fun u => (FW.out _ (HX.out u)).2.1
  have DD0 := HU.out _ (Ab.refl v3).drew
  clear hF1 hF2
  refine region_cls E (by kernel_rfl) (by kernel_rfl) DD0 ?_
  repeat (go_big_quiet_step (first
    | (with_reducible rfl)
    | (go_at_call 37; exact calls_cls HU HU1 (AK.out _ (HX.out _)))
    | (go_at_call 36; exact calls_cls HU HU1 (DK.out _))))
  refine wpQuiet_nil ?_
  intro v4 hwz
  obtain ⟨u0, hu⟩ := hwz
  have AV4 : Hid (Ab W v4) := by rw [hu]; exact HW.out u0
  clear hu u0
  clear HU HU1 HW HX DD0 xs1 xw
  clear E UU
  go_upto_region 15 with fail
  obtain ⟨UU, E, hF1, hF2⟩ := cls v4
  have HU := hid hF2
  have HU1 := hid hF1
  have HW : Hid (∀ u, Ab W (E u)) := fun u => AV4.out.trans (hF1 u)
  have HX : Hid (∀ u, Ab w (E u)) := fun u => AW.out.trans (HW.out u)
  have xs1 : ∀ u, (E u).cell? ⟨gs, 1, none⟩ = some (.slice (some ⟨wb, wo, none⟩) M cw) := fun u => cell_of_row _ _ 1 _ _ _ ((HW.out u).heap SR.out)
  have xw : ∀ u, (E u).cell? ⟨wb, wo + L, none⟩ = some (.int .i64 wD) := fun u => (FW.out _ (HX.out u)).2.2.1
  have DD0 := HU.out _ (Ab.refl v4).drew
  clear hF1 hF2
  refine region_cls E (by kernel_rfl) (by kernel_rfl) DD0 ?_
  repeat (go_big_quiet_step (first
    | (with_reducible rfl)
    | (go_at_call 37; exact calls_cls HU HU1 (AD.out _ (HX.out _)))
    | (go_at_call 36; exact calls_cls HU HU1 (DD.out _))))
  refine wpQuiet_nil ?_
  intro v5 hwz
  obtain ⟨u0, hu⟩ := hwz
  have AV5 : Hid (Ab W v5) := by rw [hu]; exact HW.out u0
  clear hu u0
  clear HU HU1 HW HX DD0 xs1 xw
  clear E UU
  go_wp2_with fail
  refine (CS.out _).mono ?_
  rintro e9 w3 ⟨rfl, b3⟩
  have AV6 : Hid (Ab W w3) := AV5.out.call b3
  clear b3
  go_upto_region 18 with fail
  obtain ⟨UU, E, hF1, hF2⟩ := cls w3
  have HU := hid hF2
  have HU1 := hid hF1
  have HW : Hid (∀ u, Ab W (E u)) := fun u => AV6.out.trans (hF1 u)
  have HX : Hid (∀ u, Ab w (E u)) := fun u => AW.out.trans (HW.out u)
  have xs0 : ∀ u, (E u).cell? ⟨gs, 0, none⟩ = some (.slice (some ⟨bb, bo, none⟩) M cb) := fun u => cell_of_row _ _ 0 _ _ _ ((HW.out u).heap SR.out)
  have xs1 : ∀ u, (E u).cell? ⟨gs, 1, none⟩ = some (.slice (some ⟨wb, wo, none⟩) M cw) := fun u => cell_of_row _ _ 1 _ _ _ ((HW.out u).heap SR.out)
  have xw : ∀ u, (E u).cell? ⟨wb, wo + R, none⟩ = some (.int .i64 wU) := fun u => (FW.out _ (HX.out u)).1
  have xb1 : ∀ u, (E u).cell? ⟨bb, bo + R, none⟩ = some (.float .f64 bU) := fun u => (FW.out _ (HX.out u)).2.2.2.1
  have xb2 : ∀ u, (E u).cell? ⟨bb, bo + L, none⟩ = some (.float .f64 bD) := fun u => (FW.out _ (HX.out u)).2.2.2.2
  have DD0 := HU.out _ (Ab.refl w3).drew
  clear hF1 hF2
  refine region_cls E (by kernel_rfl) (by kernel_rfl) DD0 ?_
  repeat (go_big_quiet_step (first
    | (with_reducible rfl)
    | (go_at_call 37; exact calls_cls HU HU1 (AU.out _ (HX.out _)))
    | (go_at_call 39; exact calls_cls HU HU1 (CL.out _))
    | (go_at_call 40; exact calls_cls HU HU1 (CM.out _))))
  refine wpQuiet_nil ?_
  intro v7 hwz
  obtain ⟨u0, hu⟩ := hwz
  have AV7 : Hid (Ab W v7) := by rw [hu]; exact HW.out u0
  clear hu u0
  clear HU HU1 HW HX DD0 xs0 xs1 xw xb1 xb2
  clear E UU
  go_wp2_with fail
  refine (CN.out _).mono ?_
  rintro e9 w4 ⟨rfl, b4⟩
  have AZ : Hid (Ab w w4) := ((AW.out.trans AV7.out)).call b4
  clear b4
  cases c
  · go_wp2
    go_ret
    exact ⟨rfl, AZ.out⟩
  · go_wp2
    go_ret
    exact ⟨rfl, AZ.out⟩
end Go.Proofs.YtgeipbegpflkhaaGreatDoor
