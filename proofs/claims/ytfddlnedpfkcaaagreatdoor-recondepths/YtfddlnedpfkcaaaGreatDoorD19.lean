/-
  Some of the texts of this proof, one behind the other.
-/
import Derived.Deep.QuietTactic
import Derived.Test.YtfddlnedpfkcaaaGreatDoorD18
namespace Go.Proofs.YtfddlnedpfkcaaaGreatDoor
open Go.RowKit Tf Cu
attribute [local go_sem] run_bits run_from raw_feq raw_fne raw_flt raw_fgt run_neg run_store_float
set_option maxRecDepth 100000 in
set_option maxHeartbeats 16000000 in
theorem rd12_neg_some (gp : Value) (k : Int) (bb bo wb wo M cb cw : Nat) (pt ps : Option Addr) (lt ct ls cs : Nat) (sky st : Int) (e : Int) (u : Nat) (w : World)
    (L S R Q p q : Nat) (wU wK wD aU aK aD : Int) (bU bD h hk hd x y s f vv l m r : Nat) (c : Bool)
    (hu1 : fgt u 0 = false) (hu2 : flt u 0 = true)
    (hU : R < M) (hD : L < M) (hK : q < M)
    (CE : Hid (∀ v, Ab w v → Calls Tryz.prog 53 #[gp, .int .i64 e] v fun e w' => e = .returned (.tuple #[.agg #[.int .i64 (L : Nat), .int .i64 (S : Nat), .int .i64 (R : Nat), .int .i64 (Q : Nat)], .bool true]) ∧ Below v.heap.size v w'))
    (CC : Hid (∀ v, Ab w v → Calls Tryz.prog 27 #[gp] v fun e w' => e = .returned (.int .i64 (M : Nat)) ∧ Below v.heap.size v w'))
    (CB : Hid (∀ v, Ab w v → Calls Tryz.prog 54 #[gp, .int .i64 e] v fun e w' => e = .returned (.tuple #[.int .i64 (p : Nat), .int .i64 (q : Nat), .bool true]) ∧ Below v.heap.size v w'))
    (AU : Hid (∀ v, Ab w v → Calls Tryz.prog 56 #[gp, .int .i64 (R : Nat)] v fun e w' => e = .returned (.int .i64 aU) ∧ Below v.heap.size v w'))
    (AK : Hid (∀ v, Ab w v → Calls Tryz.prog 56 #[gp, .int .i64 (q : Nat)] v fun e w' => e = .returned (.int .i64 aK) ∧ Below v.heap.size v w'))
    (AD : Hid (∀ v, Ab w v → Calls Tryz.prog 56 #[gp, .int .i64 (L : Nat)] v fun e w' => e = .returned (.int .i64 aD) ∧ Below v.heap.size v w'))
    (DU : Hid (∀ v : World, Calls Tryz.prog 55 #[.int .i64 wU, .int .i64 aU] v fun e w' => e = .returned (.float .f64 h) ∧ Below v.heap.size v w'))
    (DK : Hid (∀ v : World, Calls Tryz.prog 55 #[.int .i64 wK, .int .i64 aK] v fun e w' => e = .returned (.float .f64 hk) ∧ Below v.heap.size v w'))
    (DD : Hid (∀ v : World, Calls Tryz.prog 55 #[.int .i64 wD, .int .i64 aD] v fun e w' => e = .returned (.float .f64 hd) ∧ Below v.heap.size v w'))
    (CS : Hid (∀ v : World, Calls Tryz.prog 57 #[.int .i64 k, .float .f64 x, .float .f64 y] v fun e w' => e = .returned (.float .f64 s) ∧ Below v.heap.size v w'))
    (CL : Hid (∀ v : World, Calls Tryz.prog 58 #[.float .f64 bU, .int .i64 wU, .int .i64 aU] v fun e w' => e = .returned (.float .f64 l) ∧ Below v.heap.size v w'))
    (CM : Hid (∀ v : World, Calls Tryz.prog 59 #[.float .f64 bU, .float .f64 bD] v fun e w' => e = .returned (.float .f64 m) ∧ Below v.heap.size v w'))
    (FW : Hid (∀ v, Ab w v → v.cell? ⟨wb, wo + R, none⟩ = some (.int .i64 wU) ∧ v.cell? ⟨wb, wo + q, none⟩ = some (.int .i64 wK) ∧ v.cell? ⟨wb, wo + L, none⟩ = some (.int .i64 wD) ∧ v.cell? ⟨bb, bo + R, none⟩ = some (.float .f64 bU) ∧ v.cell? ⟨bb, bo + L, none⟩ = some (.float .f64 bD)))
    (hx : ∀ (t : TypeId) (w : World), (binOp .sub t (.float .f64 h) (.float .f64 hk)).run Tryz.prog w = .ok (.float .f64 x) w)
    (hy : ∀ (t : TypeId) (w : World), (binOp .sub t (.float .f64 hd) (.float .f64 h)).run Tryz.prog w = .ok (.float .f64 y) w)
    (hm : ∀ (t : TypeId) (w : World), (binOp .mul t (.float .f64 4602678819172646912) (.float .f64 s)).run Tryz.prog w = .ok (.float .f64 f) w)
    (hv : ∀ (t : TypeId) (w : World), (binOp .add t (.float .f64 h) (.float .f64 f)).run Tryz.prog w = .ok (.float .f64 vv) w)
    (g : Nat)
    (hg : ∀ (t : TypeId) (w : World), (binOp .sub t (.float .f64 l) (.float .f64 m)).run Tryz.prog w = .ok (.float .f64 g) w)
    (CN : Hid (∀ v : World, Calls Tryz.prog 60 #[.float .f64 vv, .float .f64 g] v fun e w' => e = .returned (.float .f64 r) ∧ Below v.heap.size v w'))
    (hr : fgt r 0 = c) :
    Calls Tryz.prog 30 #[gp, .int .i64 k, .agg #[.slice (some ⟨bb, bo, none⟩) M cb, .slice (some ⟨wb, wo, none⟩) M cw, .slice pt lt ct, .slice ps ls cs, .int .i64 sky, .int .i64 st], .int .i64 e, .float .f64 u] w fun e w' => e = .returned (.float .f64 (if c = true then r else 0)) ∧ Below w.heap.size w w' := by
  have AS : Hid (Ab w (w.alloc (.cells #[.slice (some ⟨bb, bo, none⟩) M cb, .slice (some ⟨wb, wo, none⟩) M cw, .slice pt lt ct, .slice ps ls cs, .int .i64 sky, .int .i64 st] 25))) := bl1 _ _
  go_enter Tryz.func30, Tryz.ntmps30
  go_wp2_with fail
  refine (CE.out _ AS.out).mono ?_
  rintro e0 w1 ⟨rfl, b1⟩
  have A1 : Hid (Ab w w1) := AS.out.call b1
  have SR1 : Hid (w1.heap[w.heap.size]? = some (.cells #[.slice (some ⟨bb, bo, none⟩) M cb, .slice (some ⟨wb, wo, none⟩) M cw, .slice pt lt ct, .slice ps ls cs, .int .i64 sky, .int .i64 st] 25)) := Ab.heap b1 (heap_alloc_new _ _)
  clear b1 AS
  go_upto_region 2 with fail
  generalize hW : World.alloc w1 _ = W
  obtain ⟨gs, hgs⟩ : ∃ g, w.heap.size = g := ⟨_, rfl⟩
  obtain ⟨ge, hge⟩ : ∃ g, w1.heap.size = g := ⟨_, rfl⟩
  have SR : Hid (W.heap[gs]? = some (.cells #[.slice (some ⟨bb, bo, none⟩) M cb, .slice (some ⟨wb, wo, none⟩) M cw, .slice pt lt ct, .slice ps ls cs, .int .i64 sky, .int .i64 st] 25)) := by rw [← hW, ← hgs]; exact Ab.heap (bl1 _ _) SR1.out
  have ER : Hid (W.heap[ge]? = some (.cells #[.int .i64 (L : Nat), .int .i64 (S : Nat), .int .i64 (R : Nat), .int .i64 (Q : Nat)] 70)) := by rw [← hW, ← hge]; exact heap_alloc_new _ _
  have AW : Hid (Ab w W) := by rw [← hW]; exact A1.out.alloc _
  rw [hge]
  rw [hgs]
  clear hW hgs hge A1 SR1
  have hU' : ((R : Nat) : Int) < M := by omega
  have hD' : ((L : Nat) : Int) < M := by omega
  have hK' : ((q : Nat) : Int) < M := by omega
  obtain ⟨UU, E, hF1, hF2⟩ := cls W
  have HU := hid hF2
  have HU1 := hid hF1
  have HW : Hid (∀ u, Ab W (E u)) := fun u => hF1 u
  have HX : Hid (∀ u, Ab w (E u)) := fun u => AW.out.trans (HW.out u)
  have xs0 : ∀ u, (E u).cell? ⟨gs, 0, none⟩ = some (.slice (some ⟨bb, bo, none⟩) M cb) := fun u => cell_of_row _ _ 0 _ _ _ ((HW.out u).heap SR.out)
  have xs1 : ∀ u, (E u).cell? ⟨gs, 1, none⟩ = some (.slice (some ⟨wb, wo, none⟩) M cw) := fun u => cell_of_row _ _ 1 _ _ _ ((HW.out u).heap SR.out)
  have DD0 := HU.out _ (Ab.refl W).drew
  clear hF1 hF2
  refine region_cls E (by kernel_rfl) (by kernel_rfl) DD0 ?_
  repeat (go_big_quiet_step (first
    | (with_reducible rfl)
    | (go_at_call 27; exact calls_cls HU HU1 (CC.out _ (HX.out _)))))
  refine wpQuiet_nil ?_
  intro v1 hwz
  obtain ⟨u0, hu⟩ := hwz
  have AV1 : Hid (Ab W v1) := by rw [hu]; exact HW.out u0
  clear hu u0
  clear HU HU1 HW HX DD0 xs0 xs1
  clear E UU
  have e0 := cell_of_row _ _ 0 _ _ _ (AV1.out.heap ER.out)
  have e2 := cell_of_row _ _ 2 _ _ _ (AV1.out.heap ER.out)
  go_wp2_with fail
  refine (CB.out _ (AW.out.trans AV1.out)).mono ?_
  rintro e9 w2 ⟨rfl, b2⟩
  clear e0 e2
  have AV2 : Hid (Ab W w2) := AV1.out.call b2
  clear b2
  have e0 := cell_of_row _ _ 0 _ _ _ (AV2.out.heap ER.out)
  have e2 := cell_of_row _ _ 2 _ _ _ (AV2.out.heap ER.out)
  go_upto_region 13 with fail
  obtain ⟨UU, E, hF1, hF2⟩ := cls w2
  have HU := hid hF2
  have HU1 := hid hF1
  have HW : Hid (∀ u, Ab W (E u)) := fun u => AV2.out.trans (hF1 u)
  have HX : Hid (∀ u, Ab w (E u)) := fun u => AW.out.trans (HW.out u)
  have xs1 : ∀ u, (E u).cell? ⟨gs, 1, none⟩ = some (.slice (some ⟨wb, wo, none⟩) M cw) := fun u => cell_of_row _ _ 1 _ _ _ ((HW.out u).heap SR.out)
  have xw : ∀ u, (E u).cell? ⟨wb, wo + R, none⟩ = some (.int .i64 wU) := fun u => (FW.out _ (HX.out u)).1
  have DD0 := HU.out _ (Ab.refl w2).drew
  clear hF1 hF2
  refine region_cls E (by kernel_rfl) (by kernel_rfl) DD0 ?_
  repeat (go_big_quiet_step (first
    | (with_reducible rfl)
    | (go_at_call 56; exact calls_cls HU HU1 (AU.out _ (HX.out _)))
    | (go_at_call 55; exact calls_cls HU HU1 (DU.out _))))
  refine wpQuiet_nil ?_
  intro v3 hwz
  obtain ⟨u0, hu⟩ := hwz
  have AV3 : Hid (Ab W v3) := by rw [hu]; exact HW.out u0
  clear hu u0
  clear HU HU1 HW HX DD0 xs1 xw
  clear E UU
  clear e0 e2
  go_upto_region 14 with fail
  obtain ⟨UU, E, hF1, hF2⟩ := cls v3
  have HU := hid hF2
  have HU1 := hid hF1
  have HW : Hid (∀ u, Ab W (E u)) := fun u => AV3.out.trans (hF1 u)
  have HX : Hid (∀ u, Ab w (E u)) := fun u => AW.out.trans (HW.out u)
  have xs1 : ∀ u, (E u).cell? ⟨gs, 1, none⟩ = some (.slice (some ⟨wb, wo, none⟩) M cw) := fun u => cell_of_row _ _ 1 _ _ _ ((HW.out u).heap SR.out)
  have xw : ∀ u, (E u).cell? ⟨wb, wo + q, none⟩ = some (.int .i64 wK) := fun u => (FW.out _ (HX.out u)).2.1
  have DD0 := HU.out _ (Ab.refl v3).drew
  clear hF1 hF2
  refine region_cls E (by kernel_rfl) (by kernel_rfl) DD0 ?_
  repeat (go_big_quiet_step (first
    | (with_reducible rfl)
    | (go_at_call 56; exact calls_cls HU HU1 (AK.out _ (HX.out _)))
    | (go_at_call 55; exact calls_cls HU HU1 (DK.out _))))
  refine wpQuiet_nil ?_
  intro v4 hwz
  obtain ⟨u0, hu⟩ := hwz
  have AV4 : Hid (Ab W v4) := by rw [hu]; exact HW.out u0
  clear hu u0
  clear HU HU1 HW HX DD0 xs1 xw
  clear E UU
  go_upto_region 15 with fail
  obtain ⟨UU, E, hF1, hF2⟩ := cls v4
  have HU := hid hF2
  have HU1 := hid hF1
  have HW : Hid (∀ u, Ab W (E u)) := fun u => AV4.out.trans (hF1 u)
  have HX : Hid (∀ u, Ab w (E u)) := fun u => AW.out.trans (HW.out u)
  have xs1 : ∀ u, (E u).cell? ⟨gs, 1, none⟩ = some (.slice (some ⟨wb, wo, none⟩) M cw) := fun u => cell_of_row _ _ 1 _ _ _ ((HW.out u).heap SR.out)
  have xw : ∀ u, (E u).cell? ⟨wb, wo + L, none⟩ = some (.int .i64 wD) := fun u => (FW.out _ (HX.out u)).2.2.1
  have DD0 := HU.out _ (Ab.refl v4).drew
  clear hF1 hF2
  refine region_cls E (by kernel_rfl) (by kernel_rfl) DD0 ?_
  repeat (go_big_quiet_step (first
    | (with_reducible rfl)
    | (go_at_call 56; exact calls_cls HU HU1 (AD.out _ (HX.out _)))
    | (go_at_call 55; exact calls_cls HU HU1 (DD.out _))))
  refine wpQuiet_nil ?_
  intro v5 hwz
  obtain ⟨u0, hu⟩ := hwz
  have AV5 : Hid (Ab W v5) := by rw [hu]; exact HW.out u0
  clear hu u0
  clear HU HU1 HW HX DD0 xs1 xw
  clear E UU
  go_wp2_with fail
  refine (CS.out _).mono ?_
  rintro e9 w3 ⟨rfl, b3⟩
  have AV6 : Hid (Ab W w3) := AV5.out.call b3
  clear b3
  go_upto_region 18 with fail
  obtain ⟨UU, E, hF1, hF2⟩ := cls w3
  have HU := hid hF2
  have HU1 := hid hF1
  have HW : Hid (∀ u, Ab W (E u)) := fun u => AV6.out.trans (hF1 u)
  have HX : Hid (∀ u, Ab w (E u)) := fun u => AW.out.trans (HW.out u)
  have xs0 : ∀ u, (E u).cell? ⟨gs, 0, none⟩ = some (.slice (some ⟨bb, bo, none⟩) M cb) := fun u => cell_of_row _ _ 0 _ _ _ ((HW.out u).heap SR.out)
  have xs1 : ∀ u, (E u).cell? ⟨gs, 1, none⟩ = some (.slice (some ⟨wb, wo, none⟩) M cw) := fun u => cell_of_row _ _ 1 _ _ _ ((HW.out u).heap SR.out)
  have xw : ∀ u, (E u).cell? ⟨wb, wo + R, none⟩ = some (.int .i64 wU) := fun u => (FW.out _ (HX.out u)).1
  have xb1 : ∀ u, (E u).cell? ⟨bb, bo + R, none⟩ = some (.float .f64 bU) := fun u => (FW.out _ (HX.out u)).2.2.2.1
  have xb2 : ∀ u, (E u).cell? ⟨bb, bo + L, none⟩ = some (.float .f64 bD) := fun u => (FW.out _ (HX.out u)).2.2.2.2
  have DD0 := HU.out _ (Ab.refl w3).drew
  clear hF1 hF2
  refine region_cls E (by kernel_rfl) (by kernel_rfl) DD0 ?_
  repeat (go_big_quiet_step (first
    | (with_reducible rfl)
    | (go_at_call 56; exact calls_cls HU HU1 (AU.out _ (HX.out _)))
    | (go_at_call 58; exact calls_cls HU HU1 (CL.out _))
    | (go_at_call 59; exact calls_cls HU HU1 (CM.out _))))
  refine wpQuiet_nil ?_
  intro v7 hwz
  obtain ⟨u0, hu⟩ := hwz
  have AV7 : Hid (Ab W v7) := by rw [hu]; exact HW.out u0
  clear hu u0
  clear HU HU1 HW HX DD0 xs0 xs1 xw xb1 xb2
  clear E UU
  go_wp2_with fail
  refine (CN.out _).mono ?_
  rintro e9 w4 ⟨rfl, b4⟩
  have AZ : Hid (Ab w w4) := ((AW.out.trans AV7.out)).call b4
  clear b4
  cases c
  · go_wp2
    go_ret
    exact ⟨rfl, AZ.out⟩
  · go_wp2
    go_ret
    exact ⟨rfl, AZ.out⟩
end Go.Proofs.YtfddlnedpfkcaaaGreatDoor

namespace Go.Proofs.YtfddlnedpfkcaaaGreatDoor
open Go.RowKit Tf Cu
attribute [local go_sem] run_bits run_from raw_feq raw_fne raw_flt raw_fgt run_neg run_store_float
set_option maxRecDepth 100000 in
set_option maxHeartbeats 16000000 in
theorem rd12_neg_none (gp : Value) (k : Int) (bb bo wb wo M cb cw : Nat) (pt ps : Option Addr) (lt ct ls cs : Nat) (sky st : Int) (e : Int) (u : Nat) (w : World)
    (L S R Q p q : Nat) (wU wK wD aU aK aD : Int) (bU bD h hk hd x y s f vv l m r : Nat) (c : Bool)
    (hu1 : fgt u 0 = false) (hu2 : flt u 0 = true)
    (hU : R < M) (hD : L < M) (hK : q < M)
    (CE : Hid (∀ v, Ab w v → Calls Tryz.prog 53 #[gp, .int .i64 e] v fun e w' => e = .returned (.tuple #[.agg #[.int .i64 (L : Nat), .int .i64 (S : Nat), .int .i64 (R : Nat), .int .i64 (Q : Nat)], .bool true]) ∧ Below v.heap.size v w'))
    (CC : Hid (∀ v, Ab w v → Calls Tryz.prog 27 #[gp] v fun e w' => e = .returned (.int .i64 (M : Nat)) ∧ Below v.heap.size v w'))
    (CB : Hid (∀ v, Ab w v → Calls Tryz.prog 54 #[gp, .int .i64 e] v fun e w' => e = .returned (.tuple #[.int .i64 (p : Nat), .int .i64 (q : Nat), .bool true]) ∧ Below v.heap.size v w'))
    (AU : Hid (∀ v, Ab w v → Calls Tryz.prog 56 #[gp, .int .i64 (R : Nat)] v fun e w' => e = .returned (.int .i64 aU) ∧ Below v.heap.size v w'))
    (AK : Hid (∀ v, Ab w v → Calls Tryz.prog 56 #[gp, .int .i64 (q : Nat)] v fun e w' => e = .returned (.int .i64 aK) ∧ Below v.heap.size v w'))
    (AD : Hid (∀ v, Ab w v → Calls Tryz.prog 56 #[gp, .int .i64 (L : Nat)] v fun e w' => e = .returned (.int .i64 aD) ∧ Below v.heap.size v w'))
    (DU : Hid (∀ v : World, Calls Tryz.prog 55 #[.int .i64 wU, .int .i64 aU] v fun e w' => e = .returned (.float .f64 h) ∧ Below v.heap.size v w'))
    (DK : Hid (∀ v : World, Calls Tryz.prog 55 #[.int .i64 wK, .int .i64 aK] v fun e w' => e = .returned (.float .f64 hk) ∧ Below v.heap.size v w'))
    (DD : Hid (∀ v : World, Calls Tryz.prog 55 #[.int .i64 wD, .int .i64 aD] v fun e w' => e = .returned (.float .f64 hd) ∧ Below v.heap.size v w'))
    (CS : Hid (∀ v : World, Calls Tryz.prog 57 #[.int .i64 k, .float .f64 x, .float .f64 y] v fun e w' => e = .returned (.float .f64 s) ∧ Below v.heap.size v w'))
    (CL : Hid (∀ v : World, Calls Tryz.prog 58 #[.float .f64 bU, .int .i64 wU, .int .i64 aU] v fun e w' => e = .returned (.float .f64 l) ∧ Below v.heap.size v w'))
    (CM : Hid (∀ v : World, Calls Tryz.prog 59 #[.float .f64 bU, .float .f64 bD] v fun e w' => e = .returned (.float .f64 m) ∧ Below v.heap.size v w'))
    (FW : Hid (∀ v, Ab w v → v.cell? ⟨wb, wo + R, none⟩ = some (.int .i64 wU) ∧ v.cell? ⟨wb, wo + q, none⟩ = some (.int .i64 wK) ∧ v.cell? ⟨wb, wo + L, none⟩ = some (.int .i64 wD) ∧ v.cell? ⟨bb, bo + R, none⟩ = some (.float .f64 bU) ∧ v.cell? ⟨bb, bo + L, none⟩ = some (.float .f64 bD)))
    (hx : ∀ (t : TypeId) (w : World), (binOp .sub t (.float .f64 h) (.float .f64 hk)).run Tryz.prog w = .ok (.float .f64 x) w)
    (hy : ∀ (t : TypeId) (w : World), (binOp .sub t (.float .f64 hd) (.float .f64 h)).run Tryz.prog w = .ok (.float .f64 y) w)
    (hm : ∀ (t : TypeId) (w : World), (binOp .mul t (.float .f64 4602678819172646912) (.float .f64 s)).run Tryz.prog w = .ok (.float .f64 f) w)
    (hv : ∀ (t : TypeId) (w : World), (binOp .add t (.float .f64 h) (.float .f64 f)).run Tryz.prog w = .ok (.float .f64 vv) w)
    (hg : ∀ (t : TypeId) (w : World), (binOp .sub t (.float .f64 l) (.float .f64 m)).run Tryz.prog w = .ok (.float .f64 (nanOf w l m)) (w.drewN 1))
    (CN : Hid (∀ (w0 v : World), Calls Tryz.prog 60 #[.float .f64 vv, .float .f64 (nanOf w0 l m)] v fun e w' => e = .returned (.float .f64 r) ∧ Below v.heap.size v w'))
    (hr : fgt r 0 = c) :
    Calls Tryz.prog 30 #[gp, .int .i64 k, .agg #[.slice (some ⟨bb, bo, none⟩) M cb, .slice (some ⟨wb, wo, none⟩) M cw, .slice pt lt ct, .slice ps ls cs, .int .i64 sky, .int .i64 st], .int .i64 e, .float .f64 u] w fun e w' => e = .returned (.float .f64 (if c = true then r else 0)) ∧ Below w.heap.size w w' := by
  have AS : Hid (Ab w (w.alloc (.cells #[.slice (some ⟨bb, bo, none⟩) M cb, .slice (some ⟨wb, wo, none⟩) M cw, .slice pt lt ct, .slice ps ls cs, .int .i64 sky, .int .i64 st] 25))) := bl1 _ _
  go_enter Tryz.func30, Tryz.ntmps30
  go_wp2_with fail
  refine (CE.out _ AS.out).mono ?_
  rintro e0 w1 ⟨rfl, b1⟩
  have A1 : Hid (Ab w w1) := AS.out.call b1
  have SR1 : Hid (w1.heap[w.heap.size]? = some (.cells #[.slice (some ⟨bb, bo, none⟩) M cb, .slice (some ⟨wb, wo, none⟩) M cw, .slice pt lt ct, .slice ps ls cs, .int .i64 sky, .int .i64 st] 25)) := Ab.heap b1 (heap_alloc_new _ _)
  clear b1 AS
  go_upto_region 2 with fail
  generalize hW : World.alloc w1 _ = W
  obtain ⟨gs, hgs⟩ : ∃ g, w.heap.size = g := ⟨_, rfl⟩
  obtain ⟨ge, hge⟩ : ∃ g, w1.heap.size = g := ⟨_, rfl⟩
  have SR : Hid (W.heap[gs]? = some (.cells #[.slice (some ⟨bb, bo, none⟩) M cb, .slice (some ⟨wb, wo, none⟩) M cw, .slice pt lt ct, .slice ps ls cs, .int .i64 sky, .int .i64 st] 25)) := by rw [← hW, ← hgs]; exact Ab.heap (bl1 _ _) SR1.out
  have ER : Hid (W.heap[ge]? = some (.cells #[.int .i64 (L : Nat), .int .i64 (S : Nat), .int .i64 (R : Nat), .int .i64 (Q : Nat)] 70)) := by rw [← hW, ← hge]; exact heap_alloc_new _ _
  have AW : Hid (Ab w W) := by rw [← hW]; exact A1.out.alloc _
  rw [hge]
  rw [hgs]
  clear hW hgs hge A1 SR1
  have hU' : ((R : Nat) : Int) < M := by omega
  have hD' : ((L : Nat) : Int) < M := by omega
  have hK' : ((q : Nat) : Int) < M := by omega
  obtain ⟨UU, E, hF1, hF2⟩ := cls W
  have HU := hid hF2
  have HU1 := hid hF1
  have HW : Hid (∀ u, Ab W (E u)) := fun u => hF1 u
  have HX : Hid (∀ u, Ab w (E u)) := fun u => AW.out.trans (HW.out u)
  have xs0 : ∀ u, (E u).cell? ⟨gs, 0, none⟩ = some (.slice (some ⟨bb, bo, none⟩) M cb) := fun u => cell_of_row _ _ 0 _ _ _ ((HW.out u).heap SR.out)
  have xs1 : ∀ u, (E u).cell? ⟨gs, 1, none⟩ = some (.slice (some ⟨wb, wo, none⟩) M cw) := fun u => cell_of_row _ _ 1 _ _ _ ((HW.out u).heap SR.out)
  have DD0 := HU.out _ (Ab.refl W).drew
  clear hF1 hF2
  refine region_cls E (by kernel_rfl) (by kernel_rfl) DD0 ?_
  repeat (go_big_quiet_step (first
    | (with_reducible rfl)
    | (go_at_call 27; exact calls_cls HU HU1 (CC.out _ (HX.out _)))))
  refine wpQuiet_nil ?_
  intro v1 hwz
  obtain ⟨u0, hu⟩ := hwz
  have AV1 : Hid (Ab W v1) := by rw [hu]; exact HW.out u0
  clear hu u0
  clear HU HU1 HW HX DD0 xs0 xs1
  clear E UU
  have e0 := cell_of_row _ _ 0 _ _ _ (AV1.out.heap ER.out)
  have e2 := cell_of_row _ _ 2 _ _ _ (AV1.out.heap ER.out)
  go_wp2_with fail
  refine (CB.out _ (AW.out.trans AV1.out)).mono ?_
  rintro e9 w2 ⟨rfl, b2⟩
  clear e0 e2
  have AV2 : Hid (Ab W w2) := AV1.out.call b2
  clear b2
  have e0 := cell_of_row _ _ 0 _ _ _ (AV2.out.heap ER.out)
  have e2 := cell_of_row _ _ 2 _ _ _ (AV2.out.heap ER.out)
  go_upto_region 13 with fail
  obtain ⟨UU, E, hF1, hF2⟩ := cls w2
  have HU := hid hF2
  have HU1 := hid hF1
  have HW : Hid (∀ u, Ab W (E u)) := fun u => AV2.out.trans (hF1 u)
  have HX : Hid (∀ u, Ab w (E u)) := fun u => AW.out.trans (HW.out u)
  have xs1 : ∀ u, (E u).cell? ⟨gs, 1, none⟩ = some (.slice (some ⟨wb, wo, none⟩) M cw) := fun u => cell_of_row _ _ 1 _ _ _ ((HW.out u).heap SR.out)
  have xw : ∀ u, (E u).cell? ⟨wb, wo + R, none⟩ = some (.int .i64 wU) := fun u => (FW.out _ (HX.out u)).1
  have DD0 := HU.out _ (Ab.refl w2).drew
  clear hF1 hF2
  refine region_cls E (by kernel_rfl) (by kernel_rfl) DD0 ?_
  repeat (go_big_quiet_step (first
    | (with_reducible rfl)
    | (go_at_call 56; exact calls_cls HU HU1 (AU.out _ (HX.out _)))
    | (go_at_call 55; exact calls_cls HU HU1 (DU.out _))))
  refine wpQuiet_nil ?_
  intro v3 hwz
  obtain ⟨u0, hu⟩ := hwz
  have AV3 : Hid (Ab W v3) := by rw [hu]; exact HW.out u0
  clear hu u0
  clear HU HU1 HW HX DD0 xs1 xw
  clear E UU
  clear e0 e2
  go_upto_region 14 with fail
  obtain ⟨UU, E, hF1, hF2⟩ := cls v3
  have HU := hid hF2
  have HU1 := hid hF1
  have HW : Hid (∀ u, Ab W (E u)) := fun u => AV3.out.trans (hF1 u)
  have HX : Hid (∀ u, Ab w (E u)) := fun u => AW.out.trans (HW.out u)
  have xs1 : ∀ u, (E u).cell? ⟨gs, 1, none⟩ = some (.slice (some ⟨wb, wo, none⟩) M cw) := fun u => cell_of_row _ _ 1 _ _ _ ((HW.out u).heap SR.out)
  have xw : ∀ u, (E u).cell? ⟨wb, wo + q, none⟩ = some (.int .i64 wK) := fun u => (FW.out _ (HX.out u)).2.1
  have DD0 := HU.out _ (Ab.refl v3).drew
  clear hF1 hF2
  refine region_cls E (by kernel_rfl) (by kernel_rfl) DD0 ?_
  repeat (go_big_quiet_step (first
    | (with_reducible rfl)
    | (go_at_call 56; exact calls_cls HU HU1 (AK.out _ (HX.out _)))
    | (go_at_call 55; exact calls_cls HU HU1 (DK.out _))))
  refine wpQuiet_nil ?_
  intro v4 hwz
  obtain ⟨u0, hu⟩ := hwz
  have AV4 : Hid (Ab W v4) := by rw [hu]; exact HW.out u0
  clear hu u0
  clear HU HU1 HW HX DD0 xs1 xw
  clear E UU
  go_upto_region 15 with fail
  obtain ⟨UU, E, hF1, hF2⟩ := cls v4
  have HU := hid hF2
  have HU1 := hid hF1
  have HW : Hid (∀ u, Ab W (E u)) := fun u => AV4.out.trans (hF1 u)
  have HX : Hid (∀ u, Ab w (E u)) := fun u => AW.out.trans (HW.out u)
  have xs1 : ∀ u, (E u).cell? ⟨gs, 1, none⟩ = some (.slice (some ⟨wb, wo, none⟩) M cw) := fun u => cell_of_row _ _ 1 _ _ _ ((HW.out u).heap SR.out)
  have xw : ∀ u, (E u).cell? ⟨wb, wo + L, none⟩ = some (.int .i64 wD) := fun u => (FW.out _ (HX.out u)).2.2.1
  have DD0 := HU.out _ (Ab.refl v4).drew
  clear hF1 hF2
  refine region_cls E (by kernel_rfl) (by kernel_rfl) DD0 ?_
  repeat (go_big_quiet_step (first
    | (with_reducible rfl)
    | (go_at_call 56; exact calls_cls HU HU1 (AD.out _ (HX.out _)))
    | (go_at_call 55; exact calls_cls HU HU1 (DD.out _))))
  refine wpQuiet_nil ?_
  intro v5 hwz
  obtain ⟨u0, hu⟩ := hwz
  have AV5 : Hid (Ab W v5) := by rw [hu]; exact HW.out u0
  clear hu u0
  clear HU HU1 HW HX DD0 xs1 xw
  clear E UU
  go_wp2_with fail
  refine (CS.out _).mono ?_
  rintro e9 w3 ⟨rfl, b3⟩
  have AV6 : Hid (Ab W w3) := AV5.out.call b3
  clear b3
  go_upto_region 18 with fail
  obtain ⟨UU, E, hF1, hF2⟩ := cls w3
  have HU := hid hF2
  have HU1 := hid hF1
  have HW : Hid (∀ u, Ab W (E u)) := fun u => AV6.out.trans (hF1 u)
  have HX : Hid (∀ u, Ab w (E u)) := fun u => AW.out.trans (HW.out u)
  have xs0 : ∀ u, (E u).cell? ⟨gs, 0, none⟩ = some (.slice (some ⟨bb, bo, none⟩) M cb) := fun u => cell_of_row _ _ 0 _ _ _ ((HW.out u).heap SR.out)
  have xs1 : ∀ u, (E u).cell? ⟨gs, 1, none⟩ = some (.slice (some ⟨wb, wo, none⟩) M cw) := fun u => cell_of_row _ _ 1 _ _ _ ((HW.out u).heap SR.out)
  have xw : ∀ u, (E u).cell? ⟨wb, wo + R, none⟩ = some (.int .i64 wU) := fun u => (FW.out _ (HX.out u)).1
  have xb1 : ∀ u, (E u).cell? ⟨bb, bo + R, none⟩ = some (.float .f64 bU) := fun u => (FW.out _ (HX.out u)).2.2.2.1
  have xb2 : ∀ u, (E u).cell? ⟨bb, bo + L, none⟩ = some (.float .f64 bD) := fun u => (FW.out _ (HX.out u)).2.2.2.2
  have DD0 := HU.out _ (Ab.refl w3).drew
  clear hF1 hF2
  refine region_tail 25 E (by kernel_rfl) (by kernel_rfl) (by kernel_rfl) DD0 ?_
  simp only [List.take_succ_cons, List.take_zero, List.drop_succ_cons, List.drop_zero]
  repeat (go_big_quiet_step (first
    | (with_reducible rfl)
    | (go_at_call 56; exact calls_cls HU HU1 (AU.out _ (HX.out _)))
    | (go_at_call 58; exact calls_cls HU HU1 (CL.out _))
    | (go_at_call 59; exact calls_cls HU HU1 (CM.out _))))
  refine wpQuiet_nil ?_
  intro v7 hwz
  obtain ⟨u0, hu⟩ := hwz
  have AV7 : Hid (Ab W v7) := by rw [hu]; exact HW.out u0
  clear hu u0
  clear HU HU1 HW HX DD0 xs0 xs1 xw xb1 xb2
  clear E UU
  go_wp2_with fail
  refine (CN.out _ _).mono ?_
  rintro e9 w4 ⟨rfl, b4⟩
  have AZ : Hid (Ab w w4) := (Ab.drewN (AW.out.trans AV7.out) 1).call b4
  clear b4
  cases c
  · go_wp2
    go_ret
    exact ⟨rfl, AZ.out⟩
  · go_wp2
    go_ret
    exact ⟨rfl, AZ.out⟩
end Go.Proofs.YtfddlnedpfkcaaaGreatDoor

namespace Go.Proofs.YtfddlnedpfkcaaaGreatDoor
open Go.RowKit Tf Cu
set_option maxRecDepth 100000 in
theorem rd12_pos {n rb : Nat} (k : Int) (bb bo wb wo cb cw : Nat) (pt ps : Option Addr) (lt ct ls cs : Nat) (sky st : Int) {B : Nat → Nat} {Wt : Nat → Int} {t : Nat} (u : Nat) (w : World) (hn : 1 ≤ n ∧ n ≤ 32) (ht : t < 24 * n * n) (hl : isL n t = true) (g : RefOf n rb w)
    (hB : IsFl w (some ⟨bb, bo, none⟩) (6 * n * n) B) (hW : IsIn w (some ⟨wb, wo, none⟩) (6 * n * n) Wt) (hu1 : fgt u 0 = true) (hu2 : flt u 0 = false) :
    Calls Tryz.prog 30 #[.pointer (some ⟨rb, 0, none⟩), .int .i64 k, .agg #[.slice (some ⟨bb, bo, none⟩) (6 * n * n) cb, .slice (some ⟨wb, wo, none⟩) (6 * n * n) cw, .slice pt lt ct, .slice ps ls cs, .int .i64 sky, .int .i64 st], .int .i64 (eN n t : Nat), .float .f64 u] w fun e w' => e = .returned (.float .f64 (sdD n k (arC n) B Wt t)) ∧ Below w.heap.size w w' := by
  have mtd := mt_dec hn.1 ht
  have cL : t / 4 < 6 * n * n := t_cell ht
  have cR : bsC n (t / 4) (t % 4) < 6 * n * n := by rw [← mtd.1]; exact t_cell (mt_lt hn.1 ht)
  have cp : (bsC n (t / 4) ((t % 4 + 2) % 4)) < 6 * n * n := bk_lt hn.1 ht
  have cq : (bsC n (bsC n (t / 4) (t % 4)) ((bsS n (t / 4) (t % 4) + 2) % 4)) < 6 * n * n := by
    have := bk_lt hn.1 (mt_lt hn.1 ht)
    unfold bkC at this
    rwa [mtd.1, mtd.2] at this
  have cU := cL
  have cD := cR
  have cK := cp
  have bU := hB.at0 cU
  have bD := hB.at0 cD
  have wU := hW.at0 cU
  have wD := hW.at0 cD
  have wK := hW.at0 cK
  have e : sdD n k (arC n) B Wt t = ovC k (arC n) B Wt (t / 4) (bsC n (t / 4) (t % 4)) (bsC n (t / 4) ((t % 4 + 2) % 4)) := by
    unfold sdD
    rw [mtd.1]; rfl
  rw [e]
  unfold ovC rcR
  have FW : Hid (∀ v, Ab w v → v.cell? ⟨wb, wo + (t / 4), none⟩ = some (.int .i64 (Wt (t / 4))) ∧ v.cell? ⟨wb, wo + (bsC n (t / 4) ((t % 4 + 2) % 4)), none⟩ = some (.int .i64 (Wt (bsC n (t / 4) ((t % 4 + 2) % 4)))) ∧ v.cell? ⟨wb, wo + (bsC n (t / 4) (t % 4)), none⟩ = some (.int .i64 (Wt (bsC n (t / 4) (t % 4)))) ∧ v.cell? ⟨bb, bo + (t / 4), none⟩ = some (.float .f64 (B (t / 4))) ∧ v.cell? ⟨bb, bo + (bsC n (t / 4) (t % 4)), none⟩ = some (.float .f64 (B (bsC n (t / 4) (t % 4))))) := fun v hv =>
    ⟨(Below.cell hv wU.2.1).trans wU.2.2, (Below.cell hv wK.2.1).trans wK.2.2, (Below.cell hv wD.2.1).trans wD.2.2, (Below.cell hv bU.2.1).trans bU.2.2, (Below.cell hv bD.2.1).trans bD.2.2⟩
  have fU : dpB (Wt (t / 4)) (arC n (t / 4)) < 9218868437227405312 := by have := dp_le wU.1 (arC_in n (t / 4)).2; omega
  have fK : dpB (Wt (bsC n (t / 4) ((t % 4 + 2) % 4))) (arC n (bsC n (t / 4) ((t % 4 + 2) % 4))) < 9218868437227405312 := by have := dp_le wK.1 (arC_in n (bsC n (t / 4) ((t % 4 + 2) % 4))).2; omega
  have fD : dpB (Wt (bsC n (t / 4) (t % 4))) (arC n (bsC n (t / 4) (t % 4))) < 9218868437227405312 := by have := dp_le wD.1 (arC_in n (bsC n (t / 4) (t % 4))).2; omega
  have hx := minus_some fU fK
  have hy := minus_some fD fU
  have lx := (sub_isC (by omega) hx (by omega)).1
  have ly := (sub_isC (by omega) hy (by omega)).1
  have sN := slp_N k (sbB (dpB (Wt (t / 4)) (arC n (t / 4))) (dpB (Wt (bsC n (t / 4) ((t % 4 + 2) % 4))) (arC n (bsC n (t / 4) ((t % 4 + 2) % 4))))) (sbB (dpB (Wt (bsC n (t / 4) (t % 4))) (arC n (bsC n (t / 4) (t % 4)))) (dpB (Wt (t / 4)) (arC n (t / 4))))
  have sl := slp_lt k (sbB (dpB (Wt (t / 4)) (arC n (t / 4))) (dpB (Wt (bsC n (t / 4) ((t % 4 + 2) % 4))) (arC n (bsC n (t / 4) ((t % 4 + 2) % 4))))) (sbB (dpB (Wt (bsC n (t / 4) (t % 4))) (arC n (bsC n (t / 4) (t % 4)))) (dpB (Wt (t / 4)) (arC n (t / 4))))
  have hm := half_some sl sN
  have hf := half_N sl sN
  have hv := plus_some fU hf.2 hf.1
  have vl := rcV_lt (k := k) (hb := dpB (Wt (bsC n (t / 4) ((t % 4 + 2) % 4))) (arC n (bsC n (t / 4) ((t % 4 + 2) % 4)))) (hd := dpB (Wt (bsC n (t / 4) (t % 4))) (arC n (bsC n (t / 4) (t % 4)))) fU
  have ll := lvl_lt (b := B (t / 4)) (w := Wt (t / 4)) (a := arC n (t / 4)) bU.1 wU.1 (arC_in n _).2
  have ml := maxB_lt (a := B (t / 4)) (b := B (bsC n (t / 4) (t % 4))) bU.1 bD.1
  cases hs : Ieee.double.sub (lvl (B (t / 4)) (Wt (t / 4)) (arC n (t / 4))) (maxB (B (t / 4)) (B (bsC n (t / 4) (t % 4)))) with
  | some z =>
    have hc := sub_isC ml hs ll
    rw [show rcG (lvl (B (t / 4)) (Wt (t / 4)) (arC n (t / 4))) (B (t / 4)) (B (bsC n (t / 4) (t % 4))) = sbB (lvl (B (t / 4)) (Wt (t / 4)) (arC n (t / 4))) (maxB (B (t / 4)) (B (bsC n (t / 4) (t % 4)))) from rfl, ← pos0_c vl hc]
    exact rd12_pos_some (.pointer (some ⟨rb, 0, none⟩)) k bb bo wb wo (6 * n * n) cb cw pt ps lt ct ls cs sky st (eN n t : Nat) u w (t / 4) (t % 4) (bsC n (t / 4) (t % 4)) (bsS n (t / 4) (t % 4)) (bsC n (t / 4) ((t % 4 + 2) % 4)) (bsC n (bsC n (t / 4) (t % 4)) ((bsS n (t / 4) (t % 4) + 2) % 4)) _ _ _ _ _ _ _ _ _ _ _ _ _ _ _ _ _ _ _ _ hu1 hu2 cU cD cK
      (fun v hv => rEdge_ok hn ht hl (g.to hv)) (fun v hv => (rCells_at hn (g.to hv)).mono fun _ _ h => ⟨h.1, by obtain ⟨_, rfl⟩ := h; exact Below.refl _ _⟩) (fun v hv => rBehind_ok hn ht hl (g.to hv))
      (fun v hv => rArea_at (fun v => rarea_ok n _ v hn cU) (g.to hv)) (fun v hv => rArea_at (fun v => rarea_ok n _ v hn cK) (g.to hv)) (fun v hv => rArea_at (fun v => rarea_ok n _ v hn cD) (g.to hv))
      (fun v => (rdepth_at11 _ _ v wU.1 (arC_in n _).2).mono fun _ _ h => ⟨h.1, by obtain ⟨_, j, rfl⟩ := h; exact below_drewN (Below.refl _ _) j⟩) (fun v => (rdepth_at11 _ _ v wK.1 (arC_in n _).2).mono fun _ _ h => ⟨h.1, by obtain ⟨_, j, rfl⟩ := h; exact below_drewN (Below.refl _ _) j⟩) (fun v => (rdepth_at11 _ _ v wD.1 (arC_in n _).2).mono fun _ _ h => ⟨h.1, by obtain ⟨_, j, rfl⟩ := h; exact below_drewN (Below.refl _ _) j⟩)
      (fun v => rslope_at k _ _ v lx ly) (fun v => (rlevel_at11 _ _ _ v bU.1 wU.1 (arC_in n _).2).mono fun _ _ h => ⟨h.1, by obtain ⟨_, j, rfl⟩ := h; exact below_drewN (Below.refl _ _) j⟩) (fun v => (refMax_any _ _ v bU.1 bD.1).mono fun _ _ h => ⟨h.1, by obtain ⟨_, rfl⟩ := h; exact Below.refl _ _⟩)
      FW (fun t w => run_float_arith w .sub t .f64 _ _ _ hx) (fun t w => run_float_arith w .sub t .f64 _ _ _ hy) (fun t w => run_float_arith w .mul t .f64 _ _ _ hm) (fun t w => run_float_arith w .add t .f64 _ _ _ hv)
      z (fun t w => run_float_arith w .sub t .f64 _ _ _ hs) (fun v => (refMin_any _ _ v vl hc.1).mono fun _ _ h => ⟨h.1, by obtain ⟨_, rfl⟩ := h; exact Below.refl _ _⟩) rfl
  | none =>
    have hN : isN (rcG (lvl (B (t / 4)) (Wt (t / 4)) (arC n (t / 4))) (B (t / 4)) (B (bsC n (t / 4) (t % 4)))) = true := by
      unfold rcG sbB
      rw [addB_none (by rw [← sub_add _ _ ml]; exact hs)]
      decide
    rw [minB_nan (.inr hN)]
    exact rd12_pos_none (.pointer (some ⟨rb, 0, none⟩)) k bb bo wb wo (6 * n * n) cb cw pt ps lt ct ls cs sky st (eN n t : Nat) u w (t / 4) (t % 4) (bsC n (t / 4) (t % 4)) (bsS n (t / 4) (t % 4)) (bsC n (t / 4) ((t % 4 + 2) % 4)) (bsC n (bsC n (t / 4) (t % 4)) ((bsS n (t / 4) (t % 4) + 2) % 4)) _ _ _ _ _ _ _ _ _ _ _ _ _ _ _ _ _ _ _ _ hu1 hu2 cU cD cK
      (fun v hv => rEdge_ok hn ht hl (g.to hv)) (fun v hv => (rCells_at hn (g.to hv)).mono fun _ _ h => ⟨h.1, by obtain ⟨_, rfl⟩ := h; exact Below.refl _ _⟩) (fun v hv => rBehind_ok hn ht hl (g.to hv))
      (fun v hv => rArea_at (fun v => rarea_ok n _ v hn cU) (g.to hv)) (fun v hv => rArea_at (fun v => rarea_ok n _ v hn cK) (g.to hv)) (fun v hv => rArea_at (fun v => rarea_ok n _ v hn cD) (g.to hv))
      (fun v => (rdepth_at11 _ _ v wU.1 (arC_in n _).2).mono fun _ _ h => ⟨h.1, by obtain ⟨_, j, rfl⟩ := h; exact below_drewN (Below.refl _ _) j⟩) (fun v => (rdepth_at11 _ _ v wK.1 (arC_in n _).2).mono fun _ _ h => ⟨h.1, by obtain ⟨_, j, rfl⟩ := h; exact below_drewN (Below.refl _ _) j⟩) (fun v => (rdepth_at11 _ _ v wD.1 (arC_in n _).2).mono fun _ _ h => ⟨h.1, by obtain ⟨_, j, rfl⟩ := h; exact below_drewN (Below.refl _ _) j⟩)
      (fun v => rslope_at k _ _ v lx ly) (fun v => (rlevel_at11 _ _ _ v bU.1 wU.1 (arC_in n _).2).mono fun _ _ h => ⟨h.1, by obtain ⟨_, j, rfl⟩ := h; exact below_drewN (Below.refl _ _) j⟩) (fun v => (refMax_any _ _ v bU.1 bD.1).mono fun _ _ h => ⟨h.1, by obtain ⟨_, rfl⟩ := h; exact Below.refl _ _⟩)
      FW (fun t w => run_float_arith w .sub t .f64 _ _ _ hx) (fun t w => run_float_arith w .sub t .f64 _ _ _ hy) (fun t w => run_float_arith w .mul t .f64 _ _ _ hm) (fun t w => run_float_arith w .add t .f64 _ _ _ hv)
      (fun t w => run_nan_sub w t _ _ hs) (fun w0 v => by
        have h := refMin_any (rcV k (dpB (Wt (t / 4)) (arC n (t / 4))) (dpB (Wt (bsC n (t / 4) ((t % 4 + 2) % 4))) (arC n (bsC n (t / 4) ((t % 4 + 2) % 4)))) (dpB (Wt (bsC n (t / 4) (t % 4))) (arC n (bsC n (t / 4) (t % 4))))) (nanOf w0 (lvl (B (t / 4)) (Wt (t / 4)) (arC n (t / 4))) (maxB (B (t / 4)) (B (bsC n (t / 4) (t % 4))))) v vl (nanOf_lt _ _ _)
        rw [minB_nan (.inr (isN_nanOf _ _ _))] at h
        exact (h).mono fun _ _ h => ⟨h.1, by obtain ⟨_, rfl⟩ := h; exact Below.refl _ _⟩) rfl
set_option maxRecDepth 100000 in
theorem rd12_neg {n rb : Nat} (k : Int) (bb bo wb wo cb cw : Nat) (pt ps : Option Addr) (lt ct ls cs : Nat) (sky st : Int) {B : Nat → Nat} {Wt : Nat → Int} {t : Nat} (u : Nat) (w : World) (hn : 1 ≤ n ∧ n ≤ 32) (ht : t < 24 * n * n) (hl : isL n t = true) (g : RefOf n rb w)
    (hB : IsFl w (some ⟨bb, bo, none⟩) (6 * n * n) B) (hW : IsIn w (some ⟨wb, wo, none⟩) (6 * n * n) Wt) (hu1 : fgt u 0 = false) (hu2 : flt u 0 = true) :
    Calls Tryz.prog 30 #[.pointer (some ⟨rb, 0, none⟩), .int .i64 k, .agg #[.slice (some ⟨bb, bo, none⟩) (6 * n * n) cb, .slice (some ⟨wb, wo, none⟩) (6 * n * n) cw, .slice pt lt ct, .slice ps ls cs, .int .i64 sky, .int .i64 st], .int .i64 (eN n t : Nat), .float .f64 u] w fun e w' => e = .returned (.float .f64 (sdD n k (arC n) B Wt (mt n t))) ∧ Below w.heap.size w w' := by
  have mtd := mt_dec hn.1 ht
  have cL : t / 4 < 6 * n * n := t_cell ht
  have cR : bsC n (t / 4) (t % 4) < 6 * n * n := by rw [← mtd.1]; exact t_cell (mt_lt hn.1 ht)
  have cp : (bsC n (t / 4) ((t % 4 + 2) % 4)) < 6 * n * n := bk_lt hn.1 ht
  have cq : (bsC n (bsC n (t / 4) (t % 4)) ((bsS n (t / 4) (t % 4) + 2) % 4)) < 6 * n * n := by
    have := bk_lt hn.1 (mt_lt hn.1 ht)
    unfold bkC at this
    rwa [mtd.1, mtd.2] at this
  have cU := cR
  have cD := cL
  have cK := cq
  have bU := hB.at0 cU
  have bD := hB.at0 cD
  have wU := hW.at0 cU
  have wD := hW.at0 cD
  have wK := hW.at0 cK
  have e : sdD n k (arC n) B Wt (mt n t) = ovC k (arC n) B Wt (bsC n (t / 4) (t % 4)) (t / 4) (bsC n (bsC n (t / 4) (t % 4)) ((bsS n (t / 4) (t % 4) + 2) % 4)) := by
    unfold sdD
    rw [mt_mt hn.1 ht, mtd.1]; unfold bkC; rw [mtd.1, mtd.2]
  rw [e]
  unfold ovC rcR
  have FW : Hid (∀ v, Ab w v → v.cell? ⟨wb, wo + (bsC n (t / 4) (t % 4)), none⟩ = some (.int .i64 (Wt (bsC n (t / 4) (t % 4)))) ∧ v.cell? ⟨wb, wo + (bsC n (bsC n (t / 4) (t % 4)) ((bsS n (t / 4) (t % 4) + 2) % 4)), none⟩ = some (.int .i64 (Wt (bsC n (bsC n (t / 4) (t % 4)) ((bsS n (t / 4) (t % 4) + 2) % 4)))) ∧ v.cell? ⟨wb, wo + (t / 4), none⟩ = some (.int .i64 (Wt (t / 4))) ∧ v.cell? ⟨bb, bo + (bsC n (t / 4) (t % 4)), none⟩ = some (.float .f64 (B (bsC n (t / 4) (t % 4)))) ∧ v.cell? ⟨bb, bo + (t / 4), none⟩ = some (.float .f64 (B (t / 4)))) := fun v hv =>
    ⟨(Below.cell hv wU.2.1).trans wU.2.2, (Below.cell hv wK.2.1).trans wK.2.2, (Below.cell hv wD.2.1).trans wD.2.2, (Below.cell hv bU.2.1).trans bU.2.2, (Below.cell hv bD.2.1).trans bD.2.2⟩
  have fU : dpB (Wt (bsC n (t / 4) (t % 4))) (arC n (bsC n (t / 4) (t % 4))) < 9218868437227405312 := by have := dp_le wU.1 (arC_in n (bsC n (t / 4) (t % 4))).2; omega
  have fK : dpB (Wt (bsC n (bsC n (t / 4) (t % 4)) ((bsS n (t / 4) (t % 4) + 2) % 4))) (arC n (bsC n (bsC n (t / 4) (t % 4)) ((bsS n (t / 4) (t % 4) + 2) % 4))) < 9218868437227405312 := by have := dp_le wK.1 (arC_in n (bsC n (bsC n (t / 4) (t % 4)) ((bsS n (t / 4) (t % 4) + 2) % 4))).2; omega
  have fD : dpB (Wt (t / 4)) (arC n (t / 4)) < 9218868437227405312 := by have := dp_le wD.1 (arC_in n (t / 4)).2; omega
  have hx := minus_some fU fK
  have hy := minus_some fD fU
  have lx := (sub_isC (by omega) hx (by omega)).1
  have ly := (sub_isC (by omega) hy (by omega)).1
  have sN := slp_N k (sbB (dpB (Wt (bsC n (t / 4) (t % 4))) (arC n (bsC n (t / 4) (t % 4)))) (dpB (Wt (bsC n (bsC n (t / 4) (t % 4)) ((bsS n (t / 4) (t % 4) + 2) % 4))) (arC n (bsC n (bsC n (t / 4) (t % 4)) ((bsS n (t / 4) (t % 4) + 2) % 4))))) (sbB (dpB (Wt (t / 4)) (arC n (t / 4))) (dpB (Wt (bsC n (t / 4) (t % 4))) (arC n (bsC n (t / 4) (t % 4)))))
  have sl := slp_lt k (sbB (dpB (Wt (bsC n (t / 4) (t % 4))) (arC n (bsC n (t / 4) (t % 4)))) (dpB (Wt (bsC n (bsC n (t / 4) (t % 4)) ((bsS n (t / 4) (t % 4) + 2) % 4))) (arC n (bsC n (bsC n (t / 4) (t % 4)) ((bsS n (t / 4) (t % 4) + 2) % 4))))) (sbB (dpB (Wt (t / 4)) (arC n (t / 4))) (dpB (Wt (bsC n (t / 4) (t % 4))) (arC n (bsC n (t / 4) (t % 4)))))
  have hm := half_some sl sN
  have hf := half_N sl sN
  have hv := plus_some fU hf.2 hf.1
  have vl := rcV_lt (k := k) (hb := dpB (Wt (bsC n (bsC n (t / 4) (t % 4)) ((bsS n (t / 4) (t % 4) + 2) % 4))) (arC n (bsC n (bsC n (t / 4) (t % 4)) ((bsS n (t / 4) (t % 4) + 2) % 4)))) (hd := dpB (Wt (t / 4)) (arC n (t / 4))) fU
  have ll := lvl_lt (b := B (bsC n (t / 4) (t % 4))) (w := Wt (bsC n (t / 4) (t % 4))) (a := arC n (bsC n (t / 4) (t % 4))) bU.1 wU.1 (arC_in n _).2
  have ml := maxB_lt (a := B (bsC n (t / 4) (t % 4))) (b := B (t / 4)) bU.1 bD.1
  cases hs : Ieee.double.sub (lvl (B (bsC n (t / 4) (t % 4))) (Wt (bsC n (t / 4) (t % 4))) (arC n (bsC n (t / 4) (t % 4)))) (maxB (B (bsC n (t / 4) (t % 4))) (B (t / 4))) with
  | some z =>
    have hc := sub_isC ml hs ll
    rw [show rcG (lvl (B (bsC n (t / 4) (t % 4))) (Wt (bsC n (t / 4) (t % 4))) (arC n (bsC n (t / 4) (t % 4)))) (B (bsC n (t / 4) (t % 4))) (B (t / 4)) = sbB (lvl (B (bsC n (t / 4) (t % 4))) (Wt (bsC n (t / 4) (t % 4))) (arC n (bsC n (t / 4) (t % 4)))) (maxB (B (bsC n (t / 4) (t % 4))) (B (t / 4))) from rfl, ← pos0_c vl hc]
    exact rd12_neg_some (.pointer (some ⟨rb, 0, none⟩)) k bb bo wb wo (6 * n * n) cb cw pt ps lt ct ls cs sky st (eN n t : Nat) u w (t / 4) (t % 4) (bsC n (t / 4) (t % 4)) (bsS n (t / 4) (t % 4)) (bsC n (t / 4) ((t % 4 + 2) % 4)) (bsC n (bsC n (t / 4) (t % 4)) ((bsS n (t / 4) (t % 4) + 2) % 4)) _ _ _ _ _ _ _ _ _ _ _ _ _ _ _ _ _ _ _ _ hu1 hu2 cU cD cK
      (fun v hv => rEdge_ok hn ht hl (g.to hv)) (fun v hv => (rCells_at hn (g.to hv)).mono fun _ _ h => ⟨h.1, by obtain ⟨_, rfl⟩ := h; exact Below.refl _ _⟩) (fun v hv => rBehind_ok hn ht hl (g.to hv))
      (fun v hv => rArea_at (fun v => rarea_ok n _ v hn cU) (g.to hv)) (fun v hv => rArea_at (fun v => rarea_ok n _ v hn cK) (g.to hv)) (fun v hv => rArea_at (fun v => rarea_ok n _ v hn cD) (g.to hv))
      (fun v => (rdepth_at11 _ _ v wU.1 (arC_in n _).2).mono fun _ _ h => ⟨h.1, by obtain ⟨_, j, rfl⟩ := h; exact below_drewN (Below.refl _ _) j⟩) (fun v => (rdepth_at11 _ _ v wK.1 (arC_in n _).2).mono fun _ _ h => ⟨h.1, by obtain ⟨_, j, rfl⟩ := h; exact below_drewN (Below.refl _ _) j⟩) (fun v => (rdepth_at11 _ _ v wD.1 (arC_in n _).2).mono fun _ _ h => ⟨h.1, by obtain ⟨_, j, rfl⟩ := h; exact below_drewN (Below.refl _ _) j⟩)
      (fun v => rslope_at k _ _ v lx ly) (fun v => (rlevel_at11 _ _ _ v bU.1 wU.1 (arC_in n _).2).mono fun _ _ h => ⟨h.1, by obtain ⟨_, j, rfl⟩ := h; exact below_drewN (Below.refl _ _) j⟩) (fun v => (refMax_any _ _ v bU.1 bD.1).mono fun _ _ h => ⟨h.1, by obtain ⟨_, rfl⟩ := h; exact Below.refl _ _⟩)
      FW (fun t w => run_float_arith w .sub t .f64 _ _ _ hx) (fun t w => run_float_arith w .sub t .f64 _ _ _ hy) (fun t w => run_float_arith w .mul t .f64 _ _ _ hm) (fun t w => run_float_arith w .add t .f64 _ _ _ hv)
      z (fun t w => run_float_arith w .sub t .f64 _ _ _ hs) (fun v => (refMin_any _ _ v vl hc.1).mono fun _ _ h => ⟨h.1, by obtain ⟨_, rfl⟩ := h; exact Below.refl _ _⟩) rfl
  | none =>
    have hN : isN (rcG (lvl (B (bsC n (t / 4) (t % 4))) (Wt (bsC n (t / 4) (t % 4))) (arC n (bsC n (t / 4) (t % 4)))) (B (bsC n (t / 4) (t % 4))) (B (t / 4))) = true := by
      unfold rcG sbB
      rw [addB_none (by rw [← sub_add _ _ ml]; exact hs)]
      decide
    rw [minB_nan (.inr hN)]
    exact rd12_neg_none (.pointer (some ⟨rb, 0, none⟩)) k bb bo wb wo (6 * n * n) cb cw pt ps lt ct ls cs sky st (eN n t : Nat) u w (t / 4) (t % 4) (bsC n (t / 4) (t % 4)) (bsS n (t / 4) (t % 4)) (bsC n (t / 4) ((t % 4 + 2) % 4)) (bsC n (bsC n (t / 4) (t % 4)) ((bsS n (t / 4) (t % 4) + 2) % 4)) _ _ _ _ _ _ _ _ _ _ _ _ _ _ _ _ _ _ _ _ hu1 hu2 cU cD cK
      (fun v hv => rEdge_ok hn ht hl (g.to hv)) (fun v hv => (rCells_at hn (g.to hv)).mono fun _ _ h => ⟨h.1, by obtain ⟨_, rfl⟩ := h; exact Below.refl _ _⟩) (fun v hv => rBehind_ok hn ht hl (g.to hv))
      (fun v hv => rArea_at (fun v => rarea_ok n _ v hn cU) (g.to hv)) (fun v hv => rArea_at (fun v => rarea_ok n _ v hn cK) (g.to hv)) (fun v hv => rArea_at (fun v => rarea_ok n _ v hn cD) (g.to hv))
      (fun v => (rdepth_at11 _ _ v wU.1 (arC_in n _).2).mono fun _ _ h => ⟨h.1, by obtain ⟨_, j, rfl⟩ := h; exact below_drewN (Below.refl _ _) j⟩) (fun v => (rdepth_at11 _ _ v wK.1 (arC_in n _).2).mono fun _ _ h => ⟨h.1, by obtain ⟨_, j, rfl⟩ := h; exact below_drewN (Below.refl _ _) j⟩) (fun v => (rdepth_at11 _ _ v wD.1 (arC_in n _).2).mono fun _ _ h => ⟨h.1, by obtain ⟨_, j, rfl⟩ := h; exact below_drewN (Below.refl _ _) j⟩)
      (fun v => rslope_at k _ _ v lx ly) (fun v => (rlevel_at11 _ _ _ v bU.1 wU.1 (arC_in n _).2).mono fun _ _ h => ⟨h.1, by obtain ⟨_, j, rfl⟩ := h; exact below_drewN (Below.refl _ _) j⟩) (fun v => (refMax_any _ _ v bU.1 bD.1).mono fun _ _ h => ⟨h.1, by obtain ⟨_, rfl⟩ := h; exact Below.refl _ _⟩)
      FW (fun t w => run_float_arith w .sub t .f64 _ _ _ hx) (fun t w => run_float_arith w .sub t .f64 _ _ _ hy) (fun t w => run_float_arith w .mul t .f64 _ _ _ hm) (fun t w => run_float_arith w .add t .f64 _ _ _ hv)
      (fun t w => run_nan_sub w t _ _ hs) (fun w0 v => by
        have h := refMin_any (rcV k (dpB (Wt (bsC n (t / 4) (t % 4))) (arC n (bsC n (t / 4) (t % 4)))) (dpB (Wt (bsC n (bsC n (t / 4) (t % 4)) ((bsS n (t / 4) (t % 4) + 2) % 4))) (arC n (bsC n (bsC n (t / 4) (t % 4)) ((bsS n (t / 4) (t % 4) + 2) % 4)))) (dpB (Wt (t / 4)) (arC n (t / 4)))) (nanOf w0 (lvl (B (bsC n (t / 4) (t % 4))) (Wt (bsC n (t / 4) (t % 4))) (arC n (bsC n (t / 4) (t % 4)))) (maxB (B (bsC n (t / 4) (t % 4))) (B (t / 4)))) v vl (nanOf_lt _ _ _)
        rw [minB_nan (.inr (isN_nanOf _ _ _))] at h
        exact (h).mono fun _ _ h => ⟨h.1, by obtain ⟨_, rfl⟩ := h; exact Below.refl _ _⟩) rfl
end Go.Proofs.YtfddlnedpfkcaaaGreatDoor

namespace Go.Proofs.YtfddlnedpfkcaaaGreatDoor
open Go.RowKit Tf Cu
theorem rdepth12_at {n rb : Nat} (k : Int) {pb : Option Addr} {lb cb : Nat} {B : Nat → Nat} {pw : Option Addr} {lw cw : Nat} {Wt : Nat → Int} (pt : Option Addr) (lt ct : Nat) (ps : Option Addr) (ls cs : Nat) (sky st e : Int) (u : Nat) (w : World) (hn : 1 ≤ n ∧ n ≤ 32) (g : RefOf n rb w) (hB : IsFl w pb lb B) (hW : IsIn w pw lw Wt) (hu : u < 18446744073709551616) :
    Calls Tryz.prog 30 #[.pointer (some ⟨rb, 0, none⟩), .int .i64 k, .agg #[.slice pb lb cb, .slice pw lw cw, .slice pt lt ct, .slice ps ls cs, .int .i64 sky, .int .i64 st], .int .i64 e, .float .f64 u] w fun e' w' => e' = .returned (.float .f64 (rdAll n k lb lw B Wt e u)) ∧ Below w.heap.size w w' := by
  cases h : inR e (12 * n * n : Nat) with
  | false =>
    rw [rdAll_no (fun q => by rw [h] at q; exact absurd q.1 (by decide))]
    exact rd12_noedge (.pointer (some ⟨rb, 0, none⟩)) k pb pw pt ps lb cb lw cw lt ct ls cs sky st e u w (fun v hv => rEdge_no h (g.to hv))
  | true =>
    obtain ⟨E, rfl, hE⟩ := inR_nat h
    obtain ⟨t1, t2, t3⟩ := edT_spec hn.1 hE
    rw [← t3]
    by_cases c : lb = 6 * n * n ∧ lw = 6 * n * n
    · obtain ⟨rfl, rfl⟩ := c
      obtain ⟨bb, bo, rfl⟩ := hB.some0 (six_pos hn.1)
      obtain ⟨wb, wo, rfl⟩ := hW.some0 (six_pos hn.1)
      rw [rdAll_eN hn.1 t1 t2]
      cases p : fgt u 0 with
      | true =>
        have q := fgt_flt hu p
        rw [rdT_p p]
        exact rd12_pos k bb bo wb wo cb cw pt ps lt ct ls cs sky st u w hn t1 t2 g hB hW p q
      | false =>
        cases q : flt u 0 with
        | true =>
          rw [rdT_n p q]
          exact rd12_neg k bb bo wb wo cb cw pt ps lt ct ls cs sky st u w hn t1 t2 g hB hW p q
        | false =>
          rw [rdT_0 p q]
          exact rd12_still (.pointer (some ⟨rb, 0, none⟩)) k bb bo wb wo (6 * n * n) cb cw pt ps lt ct ls cs sky st _ u w _ _ _ _ _ _ p q (fun v hv => rEdge_ok hn t1 t2 (g.to hv)) (fun v hv => (rCells_at hn (g.to hv)).mono fun _ _ h => ⟨h.1, by obtain ⟨_, rfl⟩ := h; exact Below.refl _ _⟩) (fun v hv => rBehind_ok hn t1 t2 (g.to hv))
    · rw [rdAll_no (fun q => c q.2)]
      exact rd12_nolen (.pointer (some ⟨rb, 0, none⟩)) k pb pw pt ps lb cb lw cw lt ct ls cs sky st _ u w (6 * n * n) _ _ _ _ (by omega) (fun v hv => rEdge_ok hn t1 t2 (g.to hv)) (fun v hv => (rCells_at hn (g.to hv)).mono fun _ _ h => ⟨h.1, by obtain ⟨_, rfl⟩ := h; exact Below.refl _ _⟩)
end Go.Proofs.YtfddlnedpfkcaaaGreatDoor
