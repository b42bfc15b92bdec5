/-
  Some of the texts of this proof, one behind the other.
-/
import Derived.ProofKit
import Derived.OpenShut
import Derived.WalkLawsBesides
import Derived.Stop.Joined
import Derived.Carry
import Derived.Lib.SmallJoins
import Derived.Deep.SlicePairs
import Derived.Deep.Slices
import Derived.Lib.SliceRun
import Derived.Test.YtdigecacmibkpaaGreatDoorSa19
namespace Go.Proofs.YtdigecacmibkpaaGreatDoor
open Go.RowKit Tf Cu Go.Deep
attribute [local go_sem] run_bits run_from raw_feq raw_fne raw_flt raw_fgt run_neg run_store_float
namespace Ss
set_option maxRecDepth 100000 in
set_option maxHeartbeats 16000000 in
theorem sturned_w (side : Int) (pb : Option Addr) (lb cb : Nat) (pw : Option Addr) (lw cw : Nat) (pt : Option Addr) (lt ct : Nat) (ps : Option Addr) (ls cs : Nat) (sky st : Int) (turn : Int) (w : World) (LV : Hid (∀ v, Ab w v → Calls Tryz.prog 9 #[] v fun e w' => e = .returned (.bool true) ∧ Below v.heap.size v w'))
    (WA : Hid (∀ v, Calls Tryz.prog 12 #[.agg #[.slice pb lb cb, .slice pw lw cw, .slice pt lt ct, .slice ps ls cs, .int .i64 sky, .int .i64 st]] v fun e w' => e = .returned (.bool true) ∧ Below v.heap.size v w')) :
    Calls Tryz.prog 6 #[.int .i64 side, .agg #[.slice pb lb cb, .slice pw lw cw, .slice pt lt ct, .slice ps ls cs, .int .i64 sky, .int .i64 st], .int .i64 turn] w fun e w' => e = .returned (.bool true) ∧ Below w.heap.size w w' := by
  have A0 : Hid (Ab w (w.alloc (.cells #[.slice pb lb cb, .slice pw lw cw, .slice pt lt ct, .slice ps ls cs, .int .i64 sky, .int .i64 st] 33))) := bl1 _ _
  have R0 : Hid ((w.alloc (.cells #[.slice pb lb cb, .slice pw lw cw, .slice pt lt ct, .slice ps ls cs, .int .i64 sky, .int .i64 st] 33)).heap[w.heap.size]? = some (.cells #[.slice pb lb cb, .slice pw lw cw, .slice pt lt ct, .slice ps ls cs, .int .i64 sky, .int .i64 st] 33)) := heap_alloc_new _ _
  go_enter Tryz.func6, Tryz.ntmps6
  go_upto_region 1 with fail
  generalize hW : World.alloc w _ = V0 at *
  obtain ⟨g0, hga⟩ : ∃ g, w.heap.size = g := ⟨_, rfl⟩
  rw [hga] at R0 ⊢
  clear hga hW
  go_wp2_with fail
  refine (LV.out _ A0.out).mono ?_
  rintro e9 v1 ⟨rfl, b1⟩
  have A1 : Hid (Ab w v1) := A0.out.trans b1
  have R1 := hid (Ab.heap b1 R0.out)
  clear b1 A0 R0  
  have x0 := cell_of_row _ _ 0 _ _ _ R1.out
  have x1 := cell_of_row _ _ 1 _ _ _ R1.out
  have x2 := cell_of_row _ _ 2 _ _ _ R1.out
  have x3 := cell_of_row _ _ 3 _ _ _ R1.out
  have x4 := cell_of_row _ _ 4 _ _ _ R1.out
  have x5 := cell_of_row _ _ 5 _ _ _ R1.out
  go_wp2_with fail
  refine (WA.out _).mono ?_
  rintro e9 v2 ⟨rfl, b2⟩
  have A2 : Hid (Ab w v2) := A1.out.trans b2
  have R2 := hid (Ab.heap b2 R1.out)
  clear b2 A1 R1  x0 x1 x2 x3 x4 x5
  go_wp2
  go_ret
  exact ⟨rfl, A2.out⟩
set_option maxRecDepth 100000 in
set_option maxHeartbeats 64000000 in
theorem sturned_bad (side : Int) (pb : Option Addr) (lb cb : Nat) (pw : Option Addr) (lw cw : Nat) (pt : Option Addr) (lt ct : Nat) (ps : Option Addr) (ls cs : Nat) (sky st : Int) (turn ce : Int) (Z0 : Nat → Nat) (Z1 : Nat → Int) (w : World) (LV : Hid (∀ v, Ab w v → Calls Tryz.prog 9 #[] v fun e w' => e = .returned (.bool true) ∧ Below v.heap.size v w'))
    (WA : Hid (∀ v, Calls Tryz.prog 12 #[.agg #[.slice pb lb cb, .slice pw lw cw, .slice pt lt ct, .slice ps ls cs, .int .i64 sky, .int .i64 st]] v fun e w' => e = .returned (.bool false) ∧ Below v.heap.size v w'))
    (T1 : Hid (∀ v, Ab w v → Calls Tryz.prog 19 #[.int .i64 side, .agg #[.slice pb lb cb, .slice pw lw cw, .slice pt lt ct, .slice ps ls cs, .int .i64 sky, .int .i64 st], .int .i64 turn] v fun e w' => ∃ vv, e = .returned (.tuple #[vv, .int .i64 ce]) ∧ Below v.heap.size v w' ∧ OwnS v.heap.size vv 0 0 0 0 Z0 Z1 Z1 Z0 0 0 w'))
    (T2 : Hid (∀ v, Ab w v → Calls Tryz.prog 20 #[.int .i64 side, .agg #[.slice pb lb cb, .slice pw lw cw, .slice pt lt ct, .slice ps ls cs, .int .i64 sky, .int .i64 st], .int .i64 turn] v fun e w' => ∃ vv, e = .returned (.tuple #[vv, .int .i64 ce]) ∧ Below v.heap.size v w' ∧ OwnS v.heap.size vv 0 0 0 0 Z0 Z1 Z1 Z0 0 0 w'))
    (HZ : Hid (0 ≤ 131072 ∧ 0 ≤ 131072 ∧ 0 ≤ 131072 ∧ 0 ≤ 131072)) (BZ : Hid (Bnd 0 0 0 0 Z0 Z1 Z1 Z0))
    (n1 : (ce != 0) = true) :
    Calls Tryz.prog 6 #[.int .i64 side, .agg #[.slice pb lb cb, .slice pw lw cw, .slice pt lt ct, .slice ps ls cs, .int .i64 sky, .int .i64 st], .int .i64 turn] w fun e w' => e = .returned (.bool true) ∧ Below w.heap.size w w' := by
  have n3 : (ce != ce) = false := by simp
  have n4 : (ce == ce) = true := by simp
  have A0 : Hid (Ab w (w.alloc (.cells #[.slice pb lb cb, .slice pw lw cw, .slice pt lt ct, .slice ps ls cs, .int .i64 sky, .int .i64 st] 33))) := bl1 _ _
  have R0 : Hid ((w.alloc (.cells #[.slice pb lb cb, .slice pw lw cw, .slice pt lt ct, .slice ps ls cs, .int .i64 sky, .int .i64 st] 33)).heap[w.heap.size]? = some (.cells #[.slice pb lb cb, .slice pw lw cw, .slice pt lt ct, .slice ps ls cs, .int .i64 sky, .int .i64 st] 33)) := heap_alloc_new _ _
  go_enter Tryz.func6, Tryz.ntmps6
  go_upto_region 1 with fail
  generalize hW : World.alloc w _ = V0 at *
  obtain ⟨g0, hga⟩ : ∃ g, w.heap.size = g := ⟨_, rfl⟩
  rw [hga] at R0 ⊢
  clear hga hW
  go_wp2_with fail
  refine (LV.out _ A0.out).mono ?_
  rintro e9 v1 ⟨rfl, b1⟩
  have A1 : Hid (Ab w v1) := A0.out.trans b1
  have R1 := hid (Ab.heap b1 R0.out)
  clear b1 A0 R0  
  have x0 := cell_of_row _ _ 0 _ _ _ R1.out
  have x1 := cell_of_row _ _ 1 _ _ _ R1.out
  have x2 := cell_of_row _ _ 2 _ _ _ R1.out
  have x3 := cell_of_row _ _ 3 _ _ _ R1.out
  have x4 := cell_of_row _ _ 4 _ _ _ R1.out
  have x5 := cell_of_row _ _ 5 _ _ _ R1.out
  go_wp2_with fail
  refine (WA.out _).mono ?_
  rintro e9 v2 ⟨rfl, b2⟩
  have A2 : Hid (Ab w v2) := A1.out.trans b2
  have R2 := hid (Ab.heap b2 R1.out)
  clear b2 A1 R1  x0 x1 x2 x3 x4 x5
  have x0 := cell_of_row _ _ 0 _ _ _ R2.out
  have x1 := cell_of_row _ _ 1 _ _ _ R2.out
  have x2 := cell_of_row _ _ 2 _ _ _ R2.out
  have x3 := cell_of_row _ _ 3 _ _ _ R2.out
  have x4 := cell_of_row _ _ 4 _ _ _ R2.out
  have x5 := cell_of_row _ _ 5 _ _ _ R2.out
  go_wp2_with fail
  refine (T1.out v2 A2.out).mono ?_
  rintro e9 u3 ⟨vv, rfl, b3, os⟩
  obtain ⟨ap1, ac1, ap2, ac2, ap3, ac3, ap4, ac4, rfl, sn⟩ := sea_new os BZ.out
  have La : Hid (v2.heap.size ≤ u3.heap.size) := Ab.size (show Ab v2 u3 from b3)
  have BB : Hid (Ab v2 (u3.alloc (.cells #[.slice ap1 0 ac1, .slice ap2 0 ac2, .slice ap3 0 ac3, .slice ap4 0 ac4, .int .i64 0, .int .i64 0] 33))) := (show Ab v2 u3 from b3).trans (bl1 _ _)
  have Sa3 := hid sn
  have Y3 : Hid (u3.heap.size + 1 ≤ (u3.alloc (.cells #[.slice ap1 0 ac1, .slice ap2 0 ac2, .slice ap3 0 ac3, .slice ap4 0 ac4, .int .i64 0, .int .i64 0] 33)).heap.size) := by show _ ≤ (u3.heap.push _).size; simp
  clear os sn b3 x0 x1 x2 x3 x4 x5
  go_upto_region 5 with fail
  generalize hW : World.alloc u3 _ = v3 at *
  obtain ⟨ga, hg⟩ : ∃ g, u3.heap.size = g := ⟨_, rfl⟩
  rw [hg] at Sa3 La Y3 ⊢
  clear hg hW
  have A3 : Hid (Ab w v3) := A2.out.trans BB.out
  have R3 := hid (Ab.heap BB.out R2.out)
  have Wa : Hid (w.heap.size ≤ v2.heap.size) := Ab.size A2.out
  obtain ⟨Ma, hM⟩ : ∃ m, v2.heap.size = m := ⟨_, rfl⟩
  rw [hM] at Sa3 La Wa
  clear hM
  clear BB A2 R2 
  have x0 := cell_of_row _ _ 0 _ _ _ R3.out
  have x1 := cell_of_row _ _ 1 _ _ _ R3.out
  have x2 := cell_of_row _ _ 2 _ _ _ R3.out
  have x3 := cell_of_row _ _ 3 _ _ _ R3.out
  have x4 := cell_of_row _ _ 4 _ _ _ R3.out
  have x5 := cell_of_row _ _ 5 _ _ _ R3.out
  go_wp2_with fail
  refine (T2.out v3 A3.out).mono ?_
  rintro e9 u4 ⟨vv, rfl, b4, os⟩
  obtain ⟨bp1, bc1, bp2, bc2, bp3, bc3, bp4, bc4, rfl, sn⟩ := sea_new os BZ.out
  have Lb : Hid (v3.heap.size ≤ u4.heap.size) := Ab.size (show Ab v3 u4 from b4)
  have BB : Hid (Ab v3 (u4.alloc (.cells #[.slice bp1 0 bc1, .slice bp2 0 bc2, .slice bp3 0 bc3, .slice bp4 0 bc4, .int .i64 0, .int .i64 0] 33))) := (show Ab v3 u4 from b4).trans (bl1 _ _)
  have Sb4 := hid sn
  have Y4 : Hid (u4.heap.size + 1 ≤ (u4.alloc (.cells #[.slice bp1 0 bc1, .slice bp2 0 bc2, .slice bp3 0 bc3, .slice bp4 0 bc4, .int .i64 0, .int .i64 0] 33)).heap.size) := by show _ ≤ (u4.heap.push _).size; simp
  clear os sn b4 x0 x1 x2 x3 x4 x5
  go_upto_region 6 with fail
  generalize hW : World.alloc u4 _ = v4 at *
  obtain ⟨gb, hg⟩ : ∃ g, u4.heap.size = g := ⟨_, rfl⟩
  rw [hg] at Sb4 Lb Y4 ⊢
  clear hg hW
  have A4 : Hid (Ab w v4) := A3.out.trans BB.out
  have R4 := hid (Ab.heap BB.out R3.out)
  have Sa4 := hid (SeaIn.to Sa3.out BB.out La.out)
  have Ob : Hid (ga + 1 ≤ v3.heap.size) := Y3.out
  have Wb : Hid (w.heap.size ≤ v3.heap.size) := Ab.size A3.out
  obtain ⟨Mb, hM⟩ : ∃ m, v3.heap.size = m := ⟨_, rfl⟩
  rw [hM] at Sb4 Lb Wb Ob
  clear hM
  clear BB A3 R3 Sa3 Y3
  have x0 := cell_of_row _ _ 0 _ _ _ Sa4.out.1
  have x1 := cell_of_row _ _ 1 _ _ _ Sa4.out.1
  have x2 := cell_of_row _ _ 2 _ _ _ Sa4.out.1
  have x3 := cell_of_row _ _ 3 _ _ _ Sa4.out.1
  have x4 := cell_of_row _ _ 4 _ _ _ Sa4.out.1
  have x5 := cell_of_row _ _ 5 _ _ _ Sa4.out.1
  have y0 := cell_of_row _ _ 0 _ _ _ Sb4.out.1
  have y1 := cell_of_row _ _ 1 _ _ _ Sb4.out.1
  have y2 := cell_of_row _ _ 2 _ _ _ Sb4.out.1
  have y3 := cell_of_row _ _ 3 _ _ _ Sb4.out.1
  have y4 := cell_of_row _ _ 4 _ _ _ Sb4.out.1
  have y5 := cell_of_row _ _ 5 _ _ _ Sb4.out.1
  have E1 := hid (rsame_at ap1 0 ac1 Z0 ap2 0 ac2 Z1 ap3 0 ac3 Z1 ap4 0 ac4 Z0 0 0 bp1 0 bc1 Z0 bp2 0 bc2 Z1 bp3 0 bc3 Z1 bp4 0 bc4 Z0 0 0 v4 HZ.out HZ.out Sa4.out.2.1.1 Sa4.out.2.1.2.1 Sa4.out.2.1.2.2.1 Sa4.out.2.1.2.2.2 Sb4.out.2.1.1 Sb4.out.2.1.2.1 Sb4.out.2.1.2.2.1 Sb4.out.2.1.2.2.2)
  rw [eqS_self] at E1
  go_wp2_with fail
  refine (E1.out).mono ?_
  rintro e9 v5 ⟨rfl, b5⟩
  have A5 : Hid (Ab w v5) := A4.out.trans b5
  have R5 := hid (Ab.heap b5 R4.out)
  have Sa5 := hid (SeaIn.to Sa4.out b5 La.out)
  have Sb5 := hid (SeaIn.to Sb4.out b5 Lb.out)
  have Y5 : Hid (gb + 1 ≤ v5.heap.size) := Nat.le_trans Y4.out (Ab.size (show Ab v4 v5 from b5))
  clear b5 A4 R4 Sa4 Sb4 Y4 x0 x1 x2 x3 x4 x5 y0 y1 y2 y3 y4 y5 E1
  have x0 := cell_of_row _ _ 0 _ _ _ Sa5.out.1
  have x1 := cell_of_row _ _ 1 _ _ _ Sa5.out.1
  have x2 := cell_of_row _ _ 2 _ _ _ Sa5.out.1
  have x3 := cell_of_row _ _ 3 _ _ _ Sa5.out.1
  have x4 := cell_of_row _ _ 4 _ _ _ Sa5.out.1
  have x5 := cell_of_row _ _ 5 _ _ _ Sa5.out.1
  go_wp2
  go_ret
  exact ⟨rfl, A5.out⟩
set_option maxRecDepth 100000 in
set_option maxHeartbeats 128000000 in
theorem sturned_go (side : Int) (pb : Option Addr) (lb cb : Nat) (B : Nat → Nat) (pw : Option Addr) (lw cw : Nat) (W : Nat → Int) (pt : Option Addr) (lt ct : Nat) (T : Nat → Int) (ps : Option Addr) (ls cs : Nat) (S : Nat → Nat) (sky st : Int) (turn : Int) (F1 : Nat → Nat) (F2 F3 : Nat → Int) (F4 : Nat → Nat) (H1 : Nat → Nat) (H2 H3 : Nat → Int) (H4 : Nat → Nat) (w : World) (LV : Hid (∀ v, Ab w v → Calls Tryz.prog 9 #[] v fun e w' => e = .returned (.bool true) ∧ Below v.heap.size v w'))
    (WA : Hid (∀ v, Calls Tryz.prog 12 #[.agg #[.slice pb lb cb, .slice pw lw cw, .slice pt lt ct, .slice ps ls cs, .int .i64 sky, .int .i64 st]] v fun e w' => e = .returned (.bool false) ∧ Below v.heap.size v w'))
    (T1 : Hid (∀ v, Ab w v → Calls Tryz.prog 19 #[.int .i64 side, .agg #[.slice pb lb cb, .slice pw lw cw, .slice pt lt ct, .slice ps ls cs, .int .i64 sky, .int .i64 st], .int .i64 turn] v fun e w' => ∃ vv, e = .returned (.tuple #[vv, .int .i64 0]) ∧ Below v.heap.size v w' ∧ OwnS v.heap.size vv lb lw lt ls F1 F2 F3 F4 sky st w'))
    (T2 : Hid (∀ v, Ab w v → Calls Tryz.prog 20 #[.int .i64 side, .agg #[.slice pb lb cb, .slice pw lw cw, .slice pt lt ct, .slice ps ls cs, .int .i64 sky, .int .i64 st], .int .i64 turn] v fun e w' => ∃ vv, e = .returned (.tuple #[vv, .int .i64 0]) ∧ Below v.heap.size v w' ∧ OwnS v.heap.size vv lb lw lt ls F1 F2 F3 F4 sky st w'))
    (T3 : Hid (∀ v, Ab w v → Calls Tryz.prog 19 #[.int .i64 side, .agg #[.slice pb lb cb, .slice pw lw cw, .slice pt lt ct, .slice ps ls cs, .int .i64 sky, .int .i64 st], .int .i64 0] v fun e w' => ∃ vv, e = .returned (.tuple #[vv, .int .i64 0]) ∧ Below v.heap.size v w' ∧ OwnS v.heap.size vv lb lw lt ls H1 H2 H3 H4 sky st w'))
    (CC : Hid (∀ v p1 c1 p2 c2 p3 c3 p4 c4, Ab w v → IsFl v p1 lb F1 → Sh.IsI v p2 lw F2 → Sh.IsI v p3 lt F3 → IsFl v p4 ls F4 → Calls Tryz.prog 13 #[.int .i64 side, .agg #[.slice p1 lb c1, .slice p2 lw c2, .slice p3 lt c3, .slice p4 ls c4, .int .i64 sky, .int .i64 st]] v fun e w' => e = .returned (.tuple #[.int .i64 0, .int .i64 0]) ∧ Below v.heap.size v w'))
    (EQ : Hid (eqS lb lw lt ls H1 H2 H3 H4 sky st lb lw lt ls B W T S sky st = true)) (HL : Hid (lb ≤ 131072 ∧ lw ≤ 131072 ∧ lt ≤ 131072 ∧ ls ≤ 131072)) (B1 : Hid (Bnd lb lw lt ls F1 F2 F3 F4)) (B3 : Hid (Bnd lb lw lt ls H1 H2 H3 H4))
    (I1 : Hid (IsFl w pb lb B)) (I2 : Hid (Sh.IsI w pw lw W)) (I3 : Hid (Sh.IsI w pt lt T)) (I4 : Hid (IsFl w ps ls S)) :
    Calls Tryz.prog 6 #[.int .i64 side, .agg #[.slice pb lb cb, .slice pw lw cw, .slice pt lt ct, .slice ps ls cs, .int .i64 sky, .int .i64 st], .int .i64 turn] w fun e w' => e = .returned (.bool true) ∧ Below w.heap.size w w' := by
  have A0 : Hid (Ab w (w.alloc (.cells #[.slice pb lb cb, .slice pw lw cw, .slice pt lt ct, .slice ps ls cs, .int .i64 sky, .int .i64 st] 33))) := bl1 _ _
  have R0 : Hid ((w.alloc (.cells #[.slice pb lb cb, .slice pw lw cw, .slice pt lt ct, .slice ps ls cs, .int .i64 sky, .int .i64 st] 33)).heap[w.heap.size]? = some (.cells #[.slice pb lb cb, .slice pw lw cw, .slice pt lt ct, .slice ps ls cs, .int .i64 sky, .int .i64 st] 33)) := heap_alloc_new _ _
  go_enter Tryz.func6, Tryz.ntmps6
  go_upto_region 1 with fail
  generalize hW : World.alloc w _ = V0 at *
  obtain ⟨g0, hga⟩ : ∃ g, w.heap.size = g := ⟨_, rfl⟩
  rw [hga] at R0 ⊢
  clear hga hW
  go_wp2_with fail
  refine (LV.out _ A0.out).mono ?_
  rintro e9 v1 ⟨rfl, b1⟩
  have A1 : Hid (Ab w v1) := A0.out.trans b1
  have R1 := hid (Ab.heap b1 R0.out)
  clear b1 A0 R0  
  have x0 := cell_of_row _ _ 0 _ _ _ R1.out
  have x1 := cell_of_row _ _ 1 _ _ _ R1.out
  have x2 := cell_of_row _ _ 2 _ _ _ R1.out
  have x3 := cell_of_row _ _ 3 _ _ _ R1.out
  have x4 := cell_of_row _ _ 4 _ _ _ R1.out
  have x5 := cell_of_row _ _ 5 _ _ _ R1.out
  go_wp2_with fail
  refine (WA.out _).mono ?_
  rintro e9 v2 ⟨rfl, b2⟩
  have A2 : Hid (Ab w v2) := A1.out.trans b2
  have R2 := hid (Ab.heap b2 R1.out)
  clear b2 A1 R1  x0 x1 x2 x3 x4 x5
  have x0 := cell_of_row _ _ 0 _ _ _ R2.out
  have x1 := cell_of_row _ _ 1 _ _ _ R2.out
  have x2 := cell_of_row _ _ 2 _ _ _ R2.out
  have x3 := cell_of_row _ _ 3 _ _ _ R2.out
  have x4 := cell_of_row _ _ 4 _ _ _ R2.out
  have x5 := cell_of_row _ _ 5 _ _ _ R2.out
  go_wp2_with fail
  refine (T1.out v2 A2.out).mono ?_
  rintro e9 u3 ⟨vv, rfl, b3, os⟩
  obtain ⟨ap1, ac1, ap2, ac2, ap3, ac3, ap4, ac4, rfl, sn⟩ := sea_new os B1.out
  have La : Hid (v2.heap.size ≤ u3.heap.size) := Ab.size (show Ab v2 u3 from b3)
  have BB : Hid (Ab v2 (u3.alloc (.cells #[.slice ap1 lb ac1, .slice ap2 lw ac2, .slice ap3 lt ac3, .slice ap4 ls ac4, .int .i64 sky, .int .i64 st] 33))) := (show Ab v2 u3 from b3).trans (bl1 _ _)
  have Sa3 := hid sn
  have Y3 : Hid (u3.heap.size + 1 ≤ (u3.alloc (.cells #[.slice ap1 lb ac1, .slice ap2 lw ac2, .slice ap3 lt ac3, .slice ap4 ls ac4, .int .i64 sky, .int .i64 st] 33)).heap.size) := by show _ ≤ (u3.heap.push _).size; simp
  clear os sn b3 x0 x1 x2 x3 x4 x5
  go_upto_region 5 with fail
  generalize hW : World.alloc u3 _ = v3 at *
  obtain ⟨ga, hg⟩ : ∃ g, u3.heap.size = g := ⟨_, rfl⟩
  rw [hg] at Sa3 La Y3 ⊢
  clear hg hW
  have A3 : Hid (Ab w v3) := A2.out.trans BB.out
  have R3 := hid (Ab.heap BB.out R2.out)
  have Wa : Hid (w.heap.size ≤ v2.heap.size) := Ab.size A2.out
  obtain ⟨Ma, hM⟩ : ∃ m, v2.heap.size = m := ⟨_, rfl⟩
  rw [hM] at Sa3 La Wa
  clear hM
  clear BB A2 R2 
  have x0 := cell_of_row _ _ 0 _ _ _ R3.out
  have x1 := cell_of_row _ _ 1 _ _ _ R3.out
  have x2 := cell_of_row _ _ 2 _ _ _ R3.out
  have x3 := cell_of_row _ _ 3 _ _ _ R3.out
  have x4 := cell_of_row _ _ 4 _ _ _ R3.out
  have x5 := cell_of_row _ _ 5 _ _ _ R3.out
  go_wp2_with fail
  refine (T2.out v3 A3.out).mono ?_
  rintro e9 u4 ⟨vv, rfl, b4, os⟩
  obtain ⟨bp1, bc1, bp2, bc2, bp3, bc3, bp4, bc4, rfl, sn⟩ := sea_new os B1.out
  have Lb : Hid (v3.heap.size ≤ u4.heap.size) := Ab.size (show Ab v3 u4 from b4)
  have BB : Hid (Ab v3 (u4.alloc (.cells #[.slice bp1 lb bc1, .slice bp2 lw bc2, .slice bp3 lt bc3, .slice bp4 ls bc4, .int .i64 sky, .int .i64 st] 33))) := (show Ab v3 u4 from b4).trans (bl1 _ _)
  have Sb4 := hid sn
  have Y4 : Hid (u4.heap.size + 1 ≤ (u4.alloc (.cells #[.slice bp1 lb bc1, .slice bp2 lw bc2, .slice bp3 lt bc3, .slice bp4 ls bc4, .int .i64 sky, .int .i64 st] 33)).heap.size) := by show _ ≤ (u4.heap.push _).size; simp
  clear os sn b4 x0 x1 x2 x3 x4 x5
  go_upto_region 6 with fail
  generalize hW : World.alloc u4 _ = v4 at *
  obtain ⟨gb, hg⟩ : ∃ g, u4.heap.size = g := ⟨_, rfl⟩
  rw [hg] at Sb4 Lb Y4 ⊢
  clear hg hW
  have A4 : Hid (Ab w v4) := A3.out.trans BB.out
  have R4 := hid (Ab.heap BB.out R3.out)
  have Sa4 := hid (SeaIn.to Sa3.out BB.out La.out)
  have Ob : Hid (ga + 1 ≤ v3.heap.size) := Y3.out
  have Wb : Hid (w.heap.size ≤ v3.heap.size) := Ab.size A3.out
  obtain ⟨Mb, hM⟩ : ∃ m, v3.heap.size = m := ⟨_, rfl⟩
  rw [hM] at Sb4 Lb Wb Ob
  clear hM
  clear BB A3 R3 Sa3 Y3
  have x0 := cell_of_row _ _ 0 _ _ _ Sa4.out.1
  have x1 := cell_of_row _ _ 1 _ _ _ Sa4.out.1
  have x2 := cell_of_row _ _ 2 _ _ _ Sa4.out.1
  have x3 := cell_of_row _ _ 3 _ _ _ Sa4.out.1
  have x4 := cell_of_row _ _ 4 _ _ _ Sa4.out.1
  have x5 := cell_of_row _ _ 5 _ _ _ Sa4.out.1
  have y0 := cell_of_row _ _ 0 _ _ _ Sb4.out.1
  have y1 := cell_of_row _ _ 1 _ _ _ Sb4.out.1
  have y2 := cell_of_row _ _ 2 _ _ _ Sb4.out.1
  have y3 := cell_of_row _ _ 3 _ _ _ Sb4.out.1
  have y4 := cell_of_row _ _ 4 _ _ _ Sb4.out.1
  have y5 := cell_of_row _ _ 5 _ _ _ Sb4.out.1
  have E1 := hid (rsame_at ap1 lb ac1 F1 ap2 lw ac2 F2 ap3 lt ac3 F3 ap4 ls ac4 F4 sky st bp1 lb bc1 F1 bp2 lw bc2 F2 bp3 lt bc3 F3 bp4 ls bc4 F4 sky st v4 HL.out HL.out Sa4.out.2.1.1 Sa4.out.2.1.2.1 Sa4.out.2.1.2.2.1 Sa4.out.2.1.2.2.2 Sb4.out.2.1.1 Sb4.out.2.1.2.1 Sb4.out.2.1.2.2.1 Sb4.out.2.1.2.2.2)
  rw [eqS_self] at E1
  go_wp2_with fail
  refine (E1.out).mono ?_
  rintro e9 v5 ⟨rfl, b5⟩
  have A5 : Hid (Ab w v5) := A4.out.trans b5
  have R5 := hid (Ab.heap b5 R4.out)
  have Sa5 := hid (SeaIn.to Sa4.out b5 La.out)
  have Sb5 := hid (SeaIn.to Sb4.out b5 Lb.out)
  have Y5 : Hid (gb + 1 ≤ v5.heap.size) := Nat.le_trans Y4.out (Ab.size (show Ab v4 v5 from b5))
  clear b5 A4 R4 Sa4 Sb4 Y4 x0 x1 x2 x3 x4 x5 y0 y1 y2 y3 y4 y5 E1
  have x0 := cell_of_row _ _ 0 _ _ _ Sa5.out.1
  have x1 := cell_of_row _ _ 1 _ _ _ Sa5.out.1
  have x2 := cell_of_row _ _ 2 _ _ _ Sa5.out.1
  have x3 := cell_of_row _ _ 3 _ _ _ Sa5.out.1
  have x4 := cell_of_row _ _ 4 _ _ _ Sa5.out.1
  have x5 := cell_of_row _ _ 5 _ _ _ Sa5.out.1
  go_wp2_with fail
  refine (CC.out v5 ap1 ac1 ap2 ac2 ap3 ac3 ap4 ac4 A5.out Sa5.out.2.1.1 Sa5.out.2.1.2.1 Sa5.out.2.1.2.2.1 Sa5.out.2.1.2.2.2).mono ?_
  rintro e9 v6 ⟨rfl, b6⟩
  have A6 : Hid (Ab w v6) := A5.out.trans b6
  have R6 := hid (Ab.heap b6 R5.out)
  have Sa6 := hid (SeaIn.to Sa5.out b6 La.out)
  have Sb6 := hid (SeaIn.to Sb5.out b6 Lb.out)
  have Y6 : Hid (gb + 1 ≤ v6.heap.size) := Nat.le_trans Y5.out (Ab.size (show Ab v5 v6 from b6))
  clear b6 A5 R5 Sa5 Sb5 Y5 x0 x1 x2 x3 x4 x5
  have x0 := cell_of_row _ _ 0 _ _ _ R6.out
  have x1 := cell_of_row _ _ 1 _ _ _ R6.out
  have x2 := cell_of_row _ _ 2 _ _ _ R6.out
  have x3 := cell_of_row _ _ 3 _ _ _ R6.out
  have x4 := cell_of_row _ _ 4 _ _ _ R6.out
  have x5 := cell_of_row _ _ 5 _ _ _ R6.out
  go_wp2_with fail
  refine (T3.out v6 A6.out).mono ?_
  rintro e9 u7 ⟨vv, rfl, b7, os⟩
  obtain ⟨cp1, cc1, cp2, cc2, cp3, cc3, cp4, cc4, rfl, sn⟩ := sea_new os B3.out
  have Lc : Hid (v6.heap.size ≤ u7.heap.size) := Ab.size (show Ab v6 u7 from b7)
  have BB : Hid (Ab v6 (u7.alloc (.cells #[.slice cp1 lb cc1, .slice cp2 lw cc2, .slice cp3 lt cc3, .slice cp4 ls cc4, .int .i64 sky, .int .i64 st] 33))) := (show Ab v6 u7 from b7).trans (bl1 _ _)
  have Sc7 := hid sn
  have Y7 : Hid (u7.heap.size + 1 ≤ (u7.alloc (.cells #[.slice cp1 lb cc1, .slice cp2 lw cc2, .slice cp3 lt cc3, .slice cp4 ls cc4, .int .i64 sky, .int .i64 st] 33)).heap.size) := by show _ ≤ (u7.heap.push _).size; simp
  clear os sn b7 x0 x1 x2 x3 x4 x5
  go_upto_region 12 with fail
  generalize hW : World.alloc u7 _ = v7 at *
  obtain ⟨gc, hg⟩ : ∃ g, u7.heap.size = g := ⟨_, rfl⟩
  rw [hg] at Sc7 Lc Y7 ⊢
  clear hg hW
  have A7 : Hid (Ab w v7) := A6.out.trans BB.out
  have R7 := hid (Ab.heap BB.out R6.out)
  have Sa7 := hid (SeaIn.to Sa6.out BB.out La.out)
  have Sb7 := hid (SeaIn.to Sb6.out BB.out Lb.out)
  have Oc : Hid (gb + 1 ≤ v6.heap.size) := Y6.out
  have Wc : Hid (w.heap.size ≤ v6.heap.size) := Ab.size A6.out
  obtain ⟨Mc, hM⟩ : ∃ m, v6.heap.size = m := ⟨_, rfl⟩
  rw [hM] at Sc7 Lc Wc Oc
  clear hM
  clear BB A6 R6 Sa6 Sb6 Y6
  have x0 := cell_of_row _ _ 0 _ _ _ Sc7.out.1
  have x1 := cell_of_row _ _ 1 _ _ _ Sc7.out.1
  have x2 := cell_of_row _ _ 2 _ _ _ Sc7.out.1
  have x3 := cell_of_row _ _ 3 _ _ _ Sc7.out.1
  have x4 := cell_of_row _ _ 4 _ _ _ Sc7.out.1
  have x5 := cell_of_row _ _ 5 _ _ _ Sc7.out.1
  have y0 := cell_of_row _ _ 0 _ _ _ R7.out
  have y1 := cell_of_row _ _ 1 _ _ _ R7.out
  have y2 := cell_of_row _ _ 2 _ _ _ R7.out
  have y3 := cell_of_row _ _ 3 _ _ _ R7.out
  have y4 := cell_of_row _ _ 4 _ _ _ R7.out
  have y5 := cell_of_row _ _ 5 _ _ _ R7.out
  have E1 := hid (rsame_at cp1 lb cc1 H1 cp2 lw cc2 H2 cp3 lt cc3 H3 cp4 ls cc4 H4 sky st pb lb cb B pw lw cw W pt lt ct T ps ls cs S sky st v7 HL.out HL.out Sc7.out.2.1.1 Sc7.out.2.1.2.1 Sc7.out.2.1.2.2.1 Sc7.out.2.1.2.2.2 (I1.out.below A7.out) (I2.out.below A7.out) (I3.out.below A7.out) (I4.out.below A7.out))
  rw [EQ.out] at E1
  go_wp2_with fail
  refine (E1.out).mono ?_
  rintro e9 v8 ⟨rfl, b8⟩
  have A8 : Hid (Ab w v8) := A7.out.trans b8
  have R8 := hid (Ab.heap b8 R7.out)
  have Sa8 := hid (SeaIn.to Sa7.out b8 La.out)
  have Sb8 := hid (SeaIn.to Sb7.out b8 Lb.out)
  have Sc8 := hid (SeaIn.to Sc7.out b8 Lc.out)
  have Y8 : Hid (gc + 1 ≤ v8.heap.size) := Nat.le_trans Y7.out (Ab.size (show Ab v7 v8 from b8))
  clear b8 A7 R7 Sa7 Sb7 Sc7 Y7 x0 x1 x2 x3 x4 x5 y0 y1 y2 y3 y4 y5 E1
  go_wp2
  go_ret
  exact ⟨rfl, A8.out⟩
/-- TURNED SEAS ARE THE DOCUMENT'S -/
theorem sturned_at (PC : PlanC) (CC : CheckC) (SC : SameC) (YC : CopyC) (TC : TurnedC) (LC : LakeC) (side : Int) {pb : Option Addr} {lb cb : Nat} {B : Nat → Nat} {pw : Option Addr} {lw cw : Nat} {W : Nat → Int} {pt : Option Addr} {lt ct : Nat} {T : Nat → Int} {ps : Option Addr} {ls cs : Nat} {S : Nat → Nat} {sky st : Int} (turn : Int) (w : World) (hF : Fr w) (h1 : Sh.W64 side) (h2 : Sh.W64 sky) (h3 : Sh.W64 st) (h4 : Sh.W64 turn) (hl : lb ≤ 281474976710656 ∧ lw ≤ 281474976710656 ∧ lt ≤ 281474976710656 ∧ ls ≤ 281474976710656) (i1 : IsFl w pb lb B) (i2 : Sh.IsI w pw lw W) (i3 : Sh.IsI w pt lt T) (i4 : IsFl w ps ls S) :
    Calls Tryz.prog 6 #[.int .i64 side, .agg #[.slice pb lb cb, .slice pw lw cw, .slice pt lt ct, .slice ps ls cs, .int .i64 sky, .int .i64 st], .int .i64 turn] w fun e w' => e = .returned (.bool true) ∧ Below w.heap.size w w' := by
  have LV : Hid (∀ v, Ab w v → Calls Tryz.prog 9 #[] v fun e w' => e = .returned (.bool true) ∧ Below v.heap.size v w') := fun v a => awake20_at PC CC SC YC TC LC v (hF.to a)
  have WA := fun v => wide20_at pb lb cb pw lw cw pt lt ct ps ls cs sky st v hl
  by_cases h : 131072 < lb + lw + lt + ls
  · rw [decide_eq_true h] at WA
    exact sturned_w side pb lb cb pw lw cw pt lt ct ps ls cs sky st turn w LV WA
  · rw [decide_eq_false h] at WA
    have le : (lb ≤ 131072 ∧ lw ≤ 131072 ∧ lt ≤ 131072 ∧ ls ≤ 131072) := by omega
    have bm : Bnd lb lw lt ls B W T S := ⟨fun i hi => (i1 i hi).1, fun i hi => (i2 i hi).1, fun i hi => (i3 i hi).1, fun i hi => (i4 i hi).1⟩
    have w0 : Sh.W64 0 := by unfold Sh.W64; omega
    by_cases q : tuE side lb lw lt ls B W T S sky st turn = 0
    · obtain ⟨s1, s2, s3⟩ := tuE_ok q
      have ck : (chk side lb lw lt ls B W T S sky st).2 = 0 := by
        unfold tuE at q
        by_cases z : (chk side lb lw lt ls B W T S sky st).2 = 0
        · exact z
        · rw [if_pos z] at q
          exact absurd q z
      have ht : 0 ≤ turn ∧ turn ≤ 23 := by
        unfold tuE at q
        rw [if_neg (by omega)] at q
        by_cases z : 0 ≤ turn ∧ turn ≤ 23
        · exact z
        · rw [if_neg z] at q
          exact absurd q (by decide)
      obtain ⟨t, rfl⟩ : ∃ t : Nat, turn = (t : Nat) := ⟨turn.toNat, by omega⟩
      have lt24 : t < 24 := by omega
      have q0 := tuE_zero (side := side) (lb := lb) (lw := lw) (lt := lt) (ls := ls) (B := B) (W := W) (T := T) (S := S) (sky := sky) (st := st) (t := 0) (by omega) ck
      have n1 := (side_sq s1).1
      have e2 : 2 * (6 * side.toNat * side.toNat) = 12 * side.toNat * side.toNat := by rw [Nat.mul_assoc, Nat.mul_assoc]; omega
      have cn : ∀ e, e < 12 * side.toNat * side.toNat → cnF (S e) := fun e he => bS_cn (bm.2.2.2 e (by omega)) (s3.2.2.2.2.1 e (by omega))
      have ok1 := okN_turn n1 lt24 (fun e he => (cn e he).1) s3
      have b1 := bnd_turn lt24 q bm
      have b3 := bnd_turn (t := 0) (by omega) q0 bm
      refine sturned_go side pb lb cb B pw lw cw W pt lt ct T ps ls cs S sky st (t : Nat) _ _ _ _ _ _ _ _ w LV WA (fun v a => (TC side pb lb cb B pw lw cw W pt lt ct T ps ls cs S sky st (t : Nat) v (hF.to a) h1 h2 h3 h4 le (i1.below a) (i2.below a) (i3.below a) (i4.below a)).1 q) (fun v a => (rturned_at side pb lb cb B pw lw cw W pt lt ct T ps ls cs S sky st (t : Nat) v le (i1.below a) (i2.below a) (i3.below a) (i4.below a)).1 q) (fun v a => (TC side pb lb cb B pw lw cw W pt lt ct T ps ls cs S sky st 0 v (hF.to a) h1 h2 h3 w0 le (i1.below a) (i2.below a) (i3.below a) (i4.below a)).1 q0) (fun v p1 c1 p2 c2 p3 c3 p4 c4 a k1 k2 k3 k4 => ?_) ?_ le b1 b3 i1 i2 i3 i4
      · have z := CC side p1 lb c1 _ p2 lw c2 _ p3 lt c3 _ p4 ls c4 _ sky st v h1 h2 h3 le k1 k2 k3 k4
        rw [Int.toNat_natCast, chk_zero s1 s2 ok1] at z
        exact z
      · show eqS _ _ _ _ _ _ _ _ _ _ _ _ _ _ _ _ _ _ _ _ = true
        obtain ⟨rfl, rfl, rfl, rfl⟩ := s2
        unfold eqS
        show (eqL _ _ (tuC side.toNat 0 B) B && eqL _ _ (tuC side.toNat 0 W) W && eqL _ _ (tuC side.toNat 0 T) T && eqL _ _ (tuS side.toNat 0 S) S && _ && _) = true
        rw [eqL_yes (fun i hi => tuC_0 n1 B hi), eqL_yes (fun i hi => tuC_0 n1 W hi), eqL_yes (fun i hi => tuC_0 n1 T hi), eqL_yes (fun i hi => tuS_0 n1 (by omega))]
        simp
    · exact sturned_bad side pb lb cb pw lw cw pt lt ct ps ls cs sky st turn _ (fun _ => 0) (fun _ => 0) w LV WA (fun v a => ((TC side pb lb cb B pw lw cw W pt lt ct T ps ls cs S sky st turn v (hF.to a) h1 h2 h3 h4 le (i1.below a) (i2.below a) (i3.below a) (i4.below a)).2 q).mono fun e w' k => ⟨_, k.1, k.2, own_zero _ _⟩) (fun v a => ((rturned_at side pb lb cb B pw lw cw W pt lt ct T ps ls cs S sky st turn v le (i1.below a) (i2.below a) (i3.below a) (i4.below a)).2 q).mono fun e w' k => ⟨_, k.1, k.2, own_zero _ _⟩) (by show _ ∧ _; omega) bnd_zero (by simpa using q)
end Ss
end Go.Proofs.YtdigecacmibkpaaGreatDoor

namespace Go.Proofs.YtdigecacmibkpaaGreatDoor
open Go.ChangeShapes Go.WideShapes Go.ChangeAt Go.WideMaps Go.WideElems Go.RowKit Go.Deep
namespace Sh
theorem trod_int {H : Type} {enc : TypeId × Value → H} {P : Program} {w : World} {base : Nat} {spare : Nat → Bool} {held : Bool} {t : TypeId} {fuel : Nat} {v : Value} {x : DataW H × List MemPlace} (ht : P.underlying t = some (.int .i64)) (h : DataW.trod enc P w base spare held fuel t [v] = some x) :
    ∃ b, v = .int .i64 b ∧ (-9223372036854775808 ≤ b ∧ b ≤ 9223372036854775807) := by
  obtain ⟨k, e, _, wf⟩ := DataW.trod_int ht h
  simp at e
  simp only [Lit.wf, Bool.and_eq_true, decide_eq_true_eq] at wf
  have q1 : IntKind.i64.min = -9223372036854775808 := by decide
  have q2 : IntKind.i64.max = 9223372036854775807 := by decide
  rw [q1, q2] at wf
  exact ⟨k, e, wf⟩
theorem cell_block {w : World} {a : Addr} {v : Value} (h : w.cell? a = some v) : a.block < w.heap.size := by
  by_cases c : a.block < w.heap.size
  · exact c
  · exfalso
    have : w.heap[a.block]? = none := by simp; omega
    simp [World.cell?, this] at h
theorem pick_fn {α : Type} {n : Nat} {R : Nat → α → Prop} (d : α) (h : ∀ i, i < n → ∃ x, R i x) : ∃ f : Nat → α, ∀ i, i < n → R i (f i) := by
  have : ∀ i, ∃ x, i < n → R i x := fun i => by
    by_cases c : i < n
    · obtain ⟨x, h1⟩ := h i c
      exact ⟨x, fun _ => h1⟩
    · exact ⟨d, fun h => absurd h c⟩
  exact ⟨fun i => (this i).choose, fun i hi => (this i).choose_spec hi⟩
theorem list_open {H : Type} {enc : TypeId × Value → H} {W : World} {cs : List Value} {fuel : Nat} {x : DataW H × List MemPlace}
    (hf : DataW.trod enc Tryz.prog W 0 (fun _ => true) true fuel 31 cs = some x) : ∃ a0 len cap xs, cs = [.slice a0 len cap] ∧ IsI W a0 len xs ∧ len ≤ cap ∧ cap ≤ maxLen := by
  rcases open_slice1 Tryz.underlying31 (by kernel_rfl) hf with ⟨hcs, _⟩ | ⟨a, l, c, m, n, V, D, Pl, hcs, _, hl, hm, hmm, _, hx⟩
  · exact ⟨none, 0, 0, fun _ => 0, hcs, fun k hk => by omega, Nat.le_refl _, Nat.zero_le _⟩
  · simp only [if_true] at hmm
    have each : ∀ i, i < l → ∃ x : Int, W.cell? (a.add i) = some (.int .i64 x) ∧ (-9223372036854775808 ≤ x ∧ x ≤ 9223372036854775807) := by
      intro i hi
      obtain ⟨h1, h2⟩ := hx i (by omega)
      obtain ⟨x, e, wx⟩ := trod_int Tryz.underlying2 h2
      rw [e] at h1
      exact ⟨x, h1, wx⟩
    obtain ⟨f, hf⟩ := pick_fn 0 each
    refine ⟨some a, l, c, f, hcs, fun k hk => ⟨(hf k hk).2, ?_⟩, hl, hm⟩
    have h0 := (hf k hk).1
    have z := (hf 0 (by omega)).1
    obtain ⟨b, off, spot⟩ := a
    have hspot : spot = none := by simpa [Addr.add] using World.cell?_spot z
    subst hspot
    rw [add_off] at h0
    exact ⟨b, off, rfl, cell_block h0, h0⟩
end Sh
end Go.Proofs.YtdigecacmibkpaaGreatDoor

namespace Go.Proofs.YtdigecacmibkpaaGreatDoor
open Go.RowKit Go.Deep
namespace Sh
theorem lit_w {x : Int} (h : (Lit.int .i64 x).wf = true) : -9223372036854775808 ≤ x ∧ x ≤ 9223372036854775807 := by
  simp only [Lit.wf, Bool.and_eq_true, decide_eq_true_eq] at h
  have q1 : IntKind.i64.min = -9223372036854775808 := by decide
  have q2 : IntKind.i64.max = 9223372036854775807 := by decide
  omega
end Sh
end Go.Proofs.YtdigecacmibkpaaGreatDoor

namespace Go.Proofs.YtdigecacmibkpaaGreatDoor
open Go.RowKit Tf Cu Go.Deep
attribute [local go_sem] run_bits run_from raw_feq raw_fne raw_flt raw_fgt run_neg run_store_float
namespace Ss
set_option maxRecDepth 100000 in
set_option maxHeartbeats 16000000 in
theorem sameF_at (a b : Nat) (r : Bool) (w : World) (hr : decide (a = b) = r) :
    Calls Tryz.prog 41 #[.float .f64 a, .float .f64 b] w fun e w' => e = .returned (.bool r) ∧ w' = w := by
  by_cases h : a = b
  · have d1 : ((a : Int) == (b : Int)) = true := by simp [h]
    have R : Hid (r = true) := hr.symm.trans (decide_eq_true h)
    clear hr h
    go_enter Tryz.func41, Tryz.ntmps41
    go_wp2
    go_ret
    exact ⟨by rw [R.out]; rfl, rfl⟩
  · have d1 : ((a : Int) == (b : Int)) = false := by simp; omega
    have R : Hid (r = false) := hr.symm.trans (decide_eq_false h)
    clear hr h
    go_enter Tryz.func41, Tryz.ntmps41
    go_wp2
    go_ret
    exact ⟨by rw [R.out]; rfl, rfl⟩
set_option maxRecDepth 100000 in
set_option maxHeartbeats 16000000 in
theorem sameQ_at (a b : Int) (r : Bool) (w : World) (hr : decide (a = b) = r) :
    Calls Tryz.prog 43 #[.int .i64 a, .int .i64 b] w fun e w' => e = .returned (.bool r) ∧ w' = w := by
  by_cases h : a = b
  · have d1 : (a == b) = true := by simp [h]
    have R : Hid (r = true) := hr.symm.trans (decide_eq_true h)
    clear hr h
    go_enter Tryz.func43, Tryz.ntmps43
    go_wp2
    go_ret
    exact ⟨by rw [R.out]; rfl, rfl⟩
  · have d1 : (a == b) = false := by simp; omega
    have R : Hid (r = false) := hr.symm.trans (decide_eq_false h)
    clear hr h
    go_enter Tryz.func43, Tryz.ntmps43
    go_wp2
    go_ret
    exact ⟨by rw [R.out]; rfl, rfl⟩
set_option maxRecDepth 100000 in
set_option maxHeartbeats 16000000 in
theorem within_at (x lo hi : Nat) (r : Bool) (w : World) (hr : ((fgt x lo || feq x lo) && (flt x hi || feq x hi)) = r) :
    Calls Tryz.prog 58 #[.float .f64 x, .float .f64 lo, .float .f64 hi] w fun e w' => e = .returned (.bool r) ∧ w' = w := by
  cases h1 : (fgt x lo || feq x lo) with
  | false =>
    have R : Hid (r = false) := hr.symm.trans (by rw [h1]; rfl)
    clear hr
    go_enter Tryz.func58, Tryz.ntmps58
    go_wp2
    go_ret
    exact ⟨by rw [R.out]; rfl, rfl⟩
  | true =>
    cases h2 : (flt x hi || feq x hi) with
    | false =>
      have R : Hid (r = false) := hr.symm.trans (by rw [h1, h2]; rfl)
      clear hr
      go_enter Tryz.func58, Tryz.ntmps58
      go_wp2
      go_ret
      exact ⟨by rw [R.out]; rfl, rfl⟩
    | true =>
      have R : Hid (r = true) := hr.symm.trans (by rw [h1, h2]; rfl)
      clear hr
      go_enter Tryz.func58, Tryz.ntmps58
      go_wp2
      go_ret
      exact ⟨by rw [R.out]; rfl, rfl⟩
/-- a float above another isn't a NaN; Canon leaves it but for -0 -/
theorem canon_in {x lo : Nat} (hx : x < 18446744073709551616) (hl : lo < 18446744073709551616) (h : (fgt x lo || feq x lo) = true) : decide (x = canonB x) = decide (x ≠ 9223372036854775808) := by
  have n : isN x = false := by
    rw [fgt_rk x lo hx hl, feq_rk x lo hx hl] at h
    cases q : isN x with
    | false => rfl
    | true => rw [q] at h; simp at h
  unfold canonB
  rw [if_neg (by rw [n]; decide)]
  unfold mg
  by_cases z : x % 9223372036854775808 = 0
  · rw [if_pos z]
    by_cases e : x = 9223372036854775808
    · rw [decide_eq_false (by omega), decide_eq_false (fun q => q e)]
    · rw [decide_eq_true (by omega), decide_eq_true e]
  · rw [if_neg z, decide_eq_true rfl, decide_eq_true (by omega)]
set_option maxRecDepth 100000 in
set_option maxHeartbeats 16000000 in
theorem kept_at (x lo hi : Nat) (r : Bool) (w : World) (hx : x < 18446744073709551616) (hl : lo < 18446744073709551616) (hr : btw x lo hi = r) :
    Calls Tryz.prog 75 #[.float .f64 x, .float .f64 lo, .float .f64 hi] w fun e w' => e = .returned (.bool r) ∧ w' = w := by
  unfold btw at hr
  cases h1 : ((fgt x lo || feq x lo) && (flt x hi || feq x hi)) with
  | false =>
    have R : Hid (r = false) := hr.symm.trans (by rw [h1]; rfl)
    have CW := hid (within_at x lo hi false w h1)
    clear hr hx hl h1
    go_enter Tryz.func75, Tryz.ntmps75
    go_wp2_with fail
    refine CW.out.mono ?_
    rintro e9 v9 ⟨rfl, hv9⟩
    have hv8 := hv9.symm
    subst hv8
    go_wp2
    go_ret
    exact ⟨by rw [R.out]; rfl, rfl⟩
  | true =>
    have R : Hid (decide (x ≠ 9223372036854775808) = r) := by
      show _ = _
      rw [← hr, h1]
      rfl
    have CW := hid (within_at x lo hi true w h1)
    have h3 := canon_in hx hl ((Bool.and_eq_true _ _).mp h1).1
    have CC := hid (canon_at x _ w hx rfl)
    have CS := hid (sameF_at x (canonB x) r w (by rw [h3]; exact R.out))
    generalize canonB x = y at *
    clear hr hx hl h1 h3 R
    go_enter Tryz.func75, Tryz.ntmps75
    go_wp2_with fail
    refine CW.out.mono ?_
    rintro e9 v9 ⟨rfl, hv9⟩
    have hv8 := hv9.symm
    subst hv8
    go_wp2_with fail
    refine CC.out.mono ?_
    rintro e9 v9 ⟨rfl, hv9⟩
    have hv8 := hv9.symm
    subst hv8
    go_wp2_with fail
    refine CS.out.mono ?_
    rintro e9 v9 ⟨rfl, hv9⟩
    have hv8 := hv9.symm
    subst hv8
    go_wp2
    go_ret
    exact ⟨rfl, rfl⟩
set_option maxRecDepth 100000 in
set_option maxHeartbeats 16000000 in
theorem beyond_at (p : Option Addr) (N c : Nat) (f : Nat → Nat) (m nm : Nat) (q : Nat → Bool) (w : World) (hm : Op.negFloat .f64 m = nm) (hn : nm < 18446744073709551616) (hN : N ≤ 281474976710656) (hf : IsFl w p N f) (hq : ∀ i, i < N → q i = !btw (f i) nm m) :
    Calls Tryz.prog 36 #[.slice p N c, .float .f64 m] w fun e w' => e = .returned (.int .i64 (fp q N)) ∧ w' = w := by
  have HF := hid hf
  have HN := hid hN
  have HQ := hid hq
  have HNM := hid hn
  clear hf hN hq hn
  go_enter Tryz.func36, Tryz.ntmps36
  go_wp2
  go_loopw [9] (fun iv wr => ∃ k : Nat, k ≤ N ∧ iv = .int .i64 (k : Nat) ∧ (∀ i, i < k → q i = false) ∧ wr = w) (fun iv _ => N - (intOf iv).toNat)
  case atStart => exact ⟨0, by omega, rfl, fun i hi => absurd hi (Nat.not_lt_zero i), rfl⟩
  case round =>
    obtain ⟨k, hk, rfl, g1, hwr⟩ := hrel
    have hwr2 := hwr.symm
    subst hwr2
    have G1 := hid g1
    clear g1
    by_cases hkn : k < N
    · have HK := hid hkn
      have kI : (k : Int) < N := by omega
      have kB : (k : Int) ≤ 281474976710656 := by have := HN.out; omega
      obtain ⟨b0, o0, rfl⟩ := HF.out.some0 (show 0 < N by omega)
      obtain ⟨x, hx⟩ : ∃ x, f k = x := ⟨_, rfl⟩
      have xa := HF.out.at0 hkn
      have xc := xa.2.2
      have xl := (HF.out k hkn).1
      rw [hx] at xc xl
      have qk := HQ.out k hkn
      rw [hx] at qk
      clear hx hkn hk xa
      cases hb : btw x nm m with
      | false =>
        have CB := hid (kept_at x nm m false w xl HNM.out hb)
        have QK : Hid (q k = true) := qk.trans (by rw [hb]; rfl)
        have E : Hid (fp q N = (k : Nat)) := fp_hit G1.out QK.out HK.out
        clear qk hb xl
        go_wp2_with fail
        refine CB.out.mono ?_
        rintro e9 v9 ⟨rfl, hv9⟩
        have hv8 := hv9.symm
        subst hv8
        go_wp2
        go_ret
        exact ⟨by rw [E.out]; rfl, by first | trivial | rfl⟩
      | true =>
        have CB := hid (kept_at x nm m true w xl HNM.out hb)
        have QK : Hid (q k = false) := qk.trans (by rw [hb]; rfl)
        clear qk hb xl
        go_wp2_with fail
        refine CB.out.mono ?_
        rintro e9 v9 ⟨rfl, hv9⟩
        have hv8 := hv9.symm
        subst hv8
        go_wp2
        refine ⟨⟨k + 1, by have := HK.out; omega, by simp, fun i hi => ?_, by first | trivial | rfl⟩, by have := HK.out; simp [intOf]; omega⟩
        by_cases l : i < k
        · exact G1.out i l
        · obtain rfl : i = k := by omega
          exact QK.out
    · have e6 : N = k := by omega
      subst e6
      have E : Hid (fp q N = -1) := fp_none G1.out
      go_wp2
      go_ret
      exact ⟨by rw [E.out]; rfl, by first | trivial | rfl⟩
set_option maxRecDepth 100000 in
set_option maxHeartbeats 16000000 in
theorem much_at (p : Option Addr) (N c : Nat) (f : Nat → Int) (th rm : Int) (w : World) (hN : N ≤ 281474976710656) (hf : Sh.IsI w p N f) (ht : 0 ≤ th ∧ th ≤ 4503599627370496) (hrm : rm = 4503599627370496 - th) :
    Calls Tryz.prog 37 #[.slice p N c, .int .i64 rm] w fun e w' => e = .returned (.int .i64 (fp (bQ f th) N)) ∧ w' = w := by
  have HF := hid hf
  have HN := hid hN
  have HT := hid ht
  have HR := hid hrm
  clear hf hN ht hrm
  go_enter Tryz.func37, Tryz.ntmps37
  go_wp2
  go_loopw [1, 9] (fun sv iv wr => ∃ k : Nat, k ≤ N ∧ iv = .int .i64 (k : Nat) ∧ sv = .int .i64 (4503599627370496 - (th + Sh.sumN f k)) ∧ (0 ≤ th + Sh.sumN f k ∧ th + Sh.sumN f k ≤ 4503599627370496) ∧ (∀ i, i < k → bQ f th i = false) ∧ wr = w) (fun _ iv _ => N - (intOf iv).toNat)
  case atStart => exact ⟨0, by omega, rfl, by show _ = Value.int .i64 (4503599627370496 - (th + 0)); rw [Int.add_zero, HR.out], by show 0 ≤ th + 0 ∧ th + 0 ≤ _; have := HT.out; omega, fun i hi => absurd hi (Nat.not_lt_zero i), rfl⟩
  case round =>
    obtain ⟨k, hk, rfl, rfl, hb, g1, hwr⟩ := hrel
    have hwr2 := hwr.symm
    subst hwr2
    have G1 := hid g1
    clear g1
    obtain ⟨s, hs⟩ : ∃ s, 4503599627370496 - (th + Sh.sumN f k) = s := ⟨_, rfl⟩
    have s1 : 0 ≤ s := by omega
    have s2 : s ≤ 4503599627370496 := by omega
    rw [hs]
    clear hb
    by_cases hkn : k < N
    · have HK := hid hkn
      have kI : (k : Int) < N := by omega
      have kB : (k : Int) ≤ 281474976710656 := by have := HN.out; omega
      obtain ⟨b0, o0, rfl⟩ := HF.out.some0 (show 0 < N by omega)
      obtain ⟨x, hx⟩ : ∃ x, f k = x := ⟨_, rfl⟩
      have xc := (HF.out.at0 hkn).2.2
      rw [hx] at xc
      have QE : Hid (bQ f th k = (decide (x < 0) || decide (s < x))) := by show bQ f th k = _; unfold bQ; rw [hs, hx]
      have M3 : Hid (th + Sh.sumN f (k + 1) = 4503599627370496 - s + x) := by show th + (Sh.sumN f k + f k) = _; rw [hx]; omega
      clear hx hs hkn hk
      by_cases q1 : x < 0
      · have d1 : decide (x < 0) = true := decide_eq_true q1
        have E : Hid (fp (bQ f th) N = (k : Nat)) := fp_hit G1.out (QE.out.trans (by rw [d1]; rfl)) HK.out
        go_wp2
        go_ret
        exact ⟨by rw [E.out]; rfl, by first | trivial | rfl⟩
      · have d1 : decide (x < 0) = false := decide_eq_false q1
        by_cases q2 : s < x
        · have d2 : decide (s < x) = true := decide_eq_true q2
          have E : Hid (fp (bQ f th) N = (k : Nat)) := fp_hit G1.out (QE.out.trans (by rw [d1, d2]; rfl)) HK.out
          go_wp2
          go_ret
          exact ⟨by rw [E.out]; rfl, by first | trivial | rfl⟩
        · have d2 : decide (s < x) = false := decide_eq_false q2
          have QF : Hid (bQ f th k = false) := QE.out.trans (by rw [d1, d2]; rfl)
          have n1 : 0 ≤ s - x := by omega
          have n2 : s - x ≤ 4503599627370496 := by omega
          have N3 : Hid (4503599627370496 - (4503599627370496 - s + x) = s - x) := by show _ = _; omega
          have N4 : Hid (0 ≤ 4503599627370496 - s + x ∧ 4503599627370496 - s + x ≤ 4503599627370496) := by show _ ∧ _; omega
          clear q1 q2
          go_wp2
          refine ⟨⟨k + 1, by have := HK.out; omega, by simp, by rw [M3.out, N3.out], by rw [M3.out]; exact N4.out, fun i hi => ?_, by first | trivial | rfl⟩, by have := HK.out; simp [intOf]; omega⟩
          by_cases l : i < k
          · exact G1.out i l
          · obtain rfl : i = k := by omega
            exact QF.out
    · have e6 : N = k := by omega
      subst e6
      have E : Hid (fp (bQ f th) N = -1) := fp_none G1.out
      go_wp2
      go_ret
      exact ⟨by rw [E.out]; rfl, by first | trivial | rfl⟩
end Ss
end Go.Proofs.YtdigecacmibkpaaGreatDoor

namespace Go.Proofs.YtdigecacmibkpaaGreatDoor
open Go.RowKit Go.Deep
namespace Rn
open Sh
set_option maxRecDepth 100000 in
set_option maxHeartbeats 16000000 in
theorem valid18 (n r1 r2 r3 r4 : Int) (w : World) :
    Calls Tryz.prog 77 #[.int .i64 n, .agg #[.int .i64 r1, .int .i64 r2, .int .i64 r3, .int .i64 r4]] w fun e w' => e = .returned (.bool (vB n (r1, r2, r3, r4))) ∧ Below w.heap.size w w' := by
  have A0 : Hid (Ab w (w.alloc (.cells #[.int .i64 r1, .int .i64 r2, .int .i64 r3, .int .i64 r4] 60))) := bl1 _ _
  have R0 : Hid ((w.alloc (.cells #[.int .i64 r1, .int .i64 r2, .int .i64 r3, .int .i64 r4] 60)).heap[w.heap.size]? = some (.cells #[.int .i64 r1, .int .i64 r2, .int .i64 r3, .int .i64 r4] 60)) := heap_alloc_new _ _
  have VE : Hid (vB n (r1, r2, r3, r4) = (decide (0 ≤ r1) && decide (r1 < n) && decide (-4503599627370496 ≤ r2) && decide (r2 ≤ 4503599627370496) && decide (0 ≤ r3) && decide (r3 ≤ r4))) := rfl
  cases h0 : decide (0 ≤ r1) with
  | false =>
    have KO : Hid (vB n (r1, r2, r3, r4) = false) := VE.out.trans (by rw [h0] <;> rfl)
    clear VE
    go_enter Tryz.func77, Tryz.ntmps77
    go_upto_region 1 with fail
    generalize hW : World.alloc w _ = W0 at *
    obtain ⟨gw, hgw⟩ : ∃ g, w.heap.size = g := ⟨_, rfl⟩
    rw [hgw] at R0 ⊢
    clear hgw hW
    have x0 := cell_of_row _ _ 0 _ _ _ R0.out
    have x1 := cell_of_row _ _ 1 _ _ _ R0.out
    have x2 := cell_of_row _ _ 2 _ _ _ R0.out
    have x3 := cell_of_row _ _ 3 _ _ _ R0.out
    go_wp2
    go_ret
    exact ⟨by rw [KO.out]; rfl, A0.out⟩
  | true =>
    cases h1 : decide (r1 < n) with
    | false =>
      have KO : Hid (vB n (r1, r2, r3, r4) = false) := VE.out.trans (by rw [h0, h1] <;> rfl)
      clear VE
      go_enter Tryz.func77, Tryz.ntmps77
      go_upto_region 1 with fail
      generalize hW : World.alloc w _ = W0 at *
      obtain ⟨gw, hgw⟩ : ∃ g, w.heap.size = g := ⟨_, rfl⟩
      rw [hgw] at R0 ⊢
      clear hgw hW
      have x0 := cell_of_row _ _ 0 _ _ _ R0.out
      have x1 := cell_of_row _ _ 1 _ _ _ R0.out
      have x2 := cell_of_row _ _ 2 _ _ _ R0.out
      have x3 := cell_of_row _ _ 3 _ _ _ R0.out
      go_wp2
      go_ret
      exact ⟨by rw [KO.out]; rfl, A0.out⟩
    | true =>
      cases h2 : decide (-4503599627370496 ≤ r2) with
      | false =>
        have KO : Hid (vB n (r1, r2, r3, r4) = false) := VE.out.trans (by rw [h0, h1, h2] <;> rfl)
        clear VE
        go_enter Tryz.func77, Tryz.ntmps77
        go_upto_region 1 with fail
        generalize hW : World.alloc w _ = W0 at *
        obtain ⟨gw, hgw⟩ : ∃ g, w.heap.size = g := ⟨_, rfl⟩
        rw [hgw] at R0 ⊢
        clear hgw hW
        have x0 := cell_of_row _ _ 0 _ _ _ R0.out
        have x1 := cell_of_row _ _ 1 _ _ _ R0.out
        have x2 := cell_of_row _ _ 2 _ _ _ R0.out
        have x3 := cell_of_row _ _ 3 _ _ _ R0.out
        go_wp2
        go_ret
        exact ⟨by rw [KO.out]; rfl, A0.out⟩
      | true =>
        cases h3 : decide (r2 ≤ 4503599627370496) with
        | false =>
          have KO : Hid (vB n (r1, r2, r3, r4) = false) := VE.out.trans (by rw [h0, h1, h2, h3] <;> rfl)
          clear VE
          go_enter Tryz.func77, Tryz.ntmps77
          go_upto_region 1 with fail
          generalize hW : World.alloc w _ = W0 at *
          obtain ⟨gw, hgw⟩ : ∃ g, w.heap.size = g := ⟨_, rfl⟩
          rw [hgw] at R0 ⊢
          clear hgw hW
          have x0 := cell_of_row _ _ 0 _ _ _ R0.out
          have x1 := cell_of_row _ _ 1 _ _ _ R0.out
          have x2 := cell_of_row _ _ 2 _ _ _ R0.out
          have x3 := cell_of_row _ _ 3 _ _ _ R0.out
          go_wp2
          go_ret
          exact ⟨by rw [KO.out]; rfl, A0.out⟩
        | true =>
          cases h4 : decide (0 ≤ r3) with
          | false =>
            have KO : Hid (vB n (r1, r2, r3, r4) = false) := VE.out.trans (by rw [h0, h1, h2, h3, h4] <;> rfl)
            clear VE
            go_enter Tryz.func77, Tryz.ntmps77
            go_upto_region 1 with fail
            generalize hW : World.alloc w _ = W0 at *
            obtain ⟨gw, hgw⟩ : ∃ g, w.heap.size = g := ⟨_, rfl⟩
            rw [hgw] at R0 ⊢
            clear hgw hW
            have x0 := cell_of_row _ _ 0 _ _ _ R0.out
            have x1 := cell_of_row _ _ 1 _ _ _ R0.out
            have x2 := cell_of_row _ _ 2 _ _ _ R0.out
            have x3 := cell_of_row _ _ 3 _ _ _ R0.out
            go_wp2
            go_ret
            exact ⟨by rw [KO.out]; rfl, A0.out⟩
          | true =>
            cases h5 : decide (r3 ≤ r4) with
            | false =>
              have KO : Hid (vB n (r1, r2, r3, r4) = false) := VE.out.trans (by rw [h0, h1, h2, h3, h4, h5] <;> rfl)
              clear VE
              go_enter Tryz.func77, Tryz.ntmps77
              go_upto_region 1 with fail
              generalize hW : World.alloc w _ = W0 at *
              obtain ⟨gw, hgw⟩ : ∃ g, w.heap.size = g := ⟨_, rfl⟩
              rw [hgw] at R0 ⊢
              clear hgw hW
              have x0 := cell_of_row _ _ 0 _ _ _ R0.out
              have x1 := cell_of_row _ _ 1 _ _ _ R0.out
              have x2 := cell_of_row _ _ 2 _ _ _ R0.out
              have x3 := cell_of_row _ _ 3 _ _ _ R0.out
              go_wp2
              go_ret
              exact ⟨by rw [KO.out]; rfl, A0.out⟩
            | true =>
              have KO : Hid (vB n (r1, r2, r3, r4) = true) := VE.out.trans (by rw [h0, h1, h2, h3, h4, h5] <;> rfl)
              clear VE
              go_enter Tryz.func77, Tryz.ntmps77
              go_upto_region 1 with fail
              generalize hW : World.alloc w _ = W0 at *
              obtain ⟨gw, hgw⟩ : ∃ g, w.heap.size = g := ⟨_, rfl⟩
              rw [hgw] at R0 ⊢
              clear hgw hW
              have x0 := cell_of_row _ _ 0 _ _ _ R0.out
              have x1 := cell_of_row _ _ 1 _ _ _ R0.out
              have x2 := cell_of_row _ _ 2 _ _ _ R0.out
              have x3 := cell_of_row _ _ 3 _ _ _ R0.out
              go_wp2
              go_ret
              exact ⟨by rw [KO.out]; rfl, A0.out⟩
end Rn
end Go.Proofs.YtdigecacmibkpaaGreatDoor
