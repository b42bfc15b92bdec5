/-
  Some of the texts of this proof, one behind the other.
-/
import Derived.Lib.SliceRun
import Derived.ProofKit
import Derived.OpenShut
import Derived.WalkLawsBesides
import Derived.Stop.Joined
import Derived.Carry
import Derived.Lib.SmallJoins
import Derived.Deep.SlicePairs
import Derived.Deep.Slices
import Derived.Test.YtdigecacmibkpaaGreatDoorSq21
set_option maxRecDepth 100000
set_option maxHeartbeats 400000000
namespace Go.Proofs.YtdigecacmibkpaaGreatDoor
open Go.RowKit Tf Cu Go.Deep
attribute [local go_sem] run_bits run_from raw_feq raw_fne raw_flt raw_fgt run_neg run_store_float
namespace Ss
theorem slakes_w (side : Int) (pb : Option Addr) (lb cb : Nat) (l : Nat) (w : World) (LV : Hid (∀ v, Ab w v -> Calls Tryz.prog 9 #[] v fun e w' => e = .returned (.bool true) /\ Below v.heap.size v w')) (hl : 131072 < lb) :
    Calls Tryz.prog 7 #[.int .i64 side, .slice pb lb cb, .float .f64 l] w fun e w' => e = .returned (.bool true) /\ Below w.heap.size w w' := by
  have d1 : decide (131072 < (lb : Int)) = true := decide_eq_true (by omega)
  have d2 : decide (131072 < lb) = true := decide_eq_true hl
  clear hl
  have A0 : Hid (Ab w w) := Ab.refl w
  go_enter Tryz.func7, Tryz.ntmps7
  go_wp2_with fail
  refine (LV.out _ A0.out).mono ?_
  rintro e9 v1 ⟨rfl, b1⟩
  have A1 : Hid (Ab w v1) := A0.out.trans b1
  clear b1 A0  
  go_wp2
  go_ret
  exact ⟨rfl, A1.out⟩
theorem slakes_bad (side : Int) (pb : Option Addr) (lb cb : Nat) (l : Nat) (ce : Int) (Z0 : Nat -> Nat) (Z1 : Nat -> Int) (w : World) (LV : Hid (∀ v, Ab w v -> Calls Tryz.prog 9 #[] v fun e w' => e = .returned (.bool true) /\ Below v.heap.size v w')) (hl : lb <= 131072)
    (T1 : Hid (∀ v, Ab w v -> Calls Tryz.prog 21 #[.int .i64 side, .slice pb lb cb, .float .f64 l] v fun e w' => ∃ vv, e = .returned (.tuple #[vv, .int .i64 ce]) /\ Below v.heap.size v w' /\ OwnS v.heap.size vv 0 0 0 0 Z0 Z1 Z1 Z0 0 0 w'))
    (T2 : Hid (∀ v, Ab w v -> Calls Tryz.prog 22 #[.int .i64 side, .slice pb lb cb, .float .f64 l] v fun e w' => ∃ vv, e = .returned (.tuple #[vv, .int .i64 ce]) /\ Below v.heap.size v w' /\ OwnS v.heap.size vv 0 0 0 0 Z0 Z1 Z1 Z0 0 0 w'))
    (HZ : Hid (0 <= 131072 /\ 0 <= 131072 /\ 0 <= 131072 /\ 0 <= 131072)) (BZ : Hid (Bnd 0 0 0 0 Z0 Z1 Z1 Z0))
    (n1 : (ce != 0) = true) :
    Calls Tryz.prog 7 #[.int .i64 side, .slice pb lb cb, .float .f64 l] w fun e w' => e = .returned (.bool true) /\ Below w.heap.size w w' := by
  have n3 : (ce != ce) = false := by simp
  have d1 : decide (131072 < (lb : Int)) = false := decide_eq_false (by omega)
  have d2 : decide (131072 < lb) = false := decide_eq_false (by omega)
  clear hl
  have A0 : Hid (Ab w w) := Ab.refl w
  go_enter Tryz.func7, Tryz.ntmps7
  go_wp2_with fail
  refine (LV.out _ A0.out).mono ?_
  rintro e9 v1 ⟨rfl, b1⟩
  have A1 : Hid (Ab w v1) := A0.out.trans b1
  clear b1 A0  
  go_wp2_with fail
  refine (T1.out v1 A1.out).mono ?_
  rintro e9 u2 ⟨vv, rfl, b2, os⟩
  obtain ⟨ap1, ac1, ap2, ac2, ap3, ac3, ap4, ac4, rfl, sn⟩ := sea_new os BZ.out
  have La : Hid (v1.heap.size <= u2.heap.size) := Ab.size (show Ab v1 u2 from b2)
  have BB : Hid (Ab v1 (u2.alloc (.cells #[.slice ap1 0 ac1, .slice ap2 0 ac2, .slice ap3 0 ac3, .slice ap4 0 ac4, .int .i64 0, .int .i64 0] 33))) := (show Ab v1 u2 from b2).trans (bl1 _ _)
  have Sa2 := hid sn
  have Y2 : Hid (u2.heap.size + 1 <= (u2.alloc (.cells #[.slice ap1 0 ac1, .slice ap2 0 ac2, .slice ap3 0 ac3, .slice ap4 0 ac4, .int .i64 0, .int .i64 0] 33)).heap.size) := by show _ <= (u2.heap.push _).size; simp
  clear os sn b2 
  go_upto_region 5 with fail
  generalize hW : World.alloc u2 _ = v2 at *
  obtain ⟨ga, hg⟩ : ∃ g, u2.heap.size = g := ⟨_, rfl⟩
  rw [hg] at Sa2 La Y2 ⊢
  clear hg hW
  have A2 : Hid (Ab w v2) := A1.out.trans BB.out
  have Wa : Hid (w.heap.size <= v1.heap.size) := Ab.size A1.out
  obtain ⟨Ma, hM⟩ : ∃ m, v1.heap.size = m := ⟨_, rfl⟩
  rw [hM] at Sa2 La Wa
  clear hM
  clear BB A1 
  go_wp2_with fail
  refine (T2.out v2 A2.out).mono ?_
  rintro e9 u3 ⟨vv, rfl, b3, os⟩
  obtain ⟨bp1, bc1, bp2, bc2, bp3, bc3, bp4, bc4, rfl, sn⟩ := sea_new os BZ.out
  have Lb : Hid (v2.heap.size <= u3.heap.size) := Ab.size (show Ab v2 u3 from b3)
  have BB : Hid (Ab v2 (u3.alloc (.cells #[.slice bp1 0 bc1, .slice bp2 0 bc2, .slice bp3 0 bc3, .slice bp4 0 bc4, .int .i64 0, .int .i64 0] 33))) := (show Ab v2 u3 from b3).trans (bl1 _ _)
  have Sb3 := hid sn
  have Y3 : Hid (u3.heap.size + 1 <= (u3.alloc (.cells #[.slice bp1 0 bc1, .slice bp2 0 bc2, .slice bp3 0 bc3, .slice bp4 0 bc4, .int .i64 0, .int .i64 0] 33)).heap.size) := by show _ <= (u3.heap.push _).size; simp
  clear os sn b3 
  go_upto_region 6 with fail
  generalize hW : World.alloc u3 _ = v3 at *
  obtain ⟨gb, hg⟩ : ∃ g, u3.heap.size = g := ⟨_, rfl⟩
  rw [hg] at Sb3 Lb Y3 ⊢
  clear hg hW
  have A3 : Hid (Ab w v3) := A2.out.trans BB.out
  have Sa3 := hid (SeaIn.to Sa2.out BB.out La.out)
  have Ob : Hid (ga + 1 <= v2.heap.size) := Y2.out
  have Wb : Hid (w.heap.size <= v2.heap.size) := Ab.size A2.out
  obtain ⟨Mb, hM⟩ : ∃ m, v2.heap.size = m := ⟨_, rfl⟩
  rw [hM] at Sb3 Lb Wb Ob
  clear hM
  clear BB A2 Sa2 Y2
  have x0 := cell_of_row _ _ 0 _ _ _ Sa3.out.1
  have x1 := cell_of_row _ _ 1 _ _ _ Sa3.out.1
  have x2 := cell_of_row _ _ 2 _ _ _ Sa3.out.1
  have x3 := cell_of_row _ _ 3 _ _ _ Sa3.out.1
  have x4 := cell_of_row _ _ 4 _ _ _ Sa3.out.1
  have x5 := cell_of_row _ _ 5 _ _ _ Sa3.out.1
  have y0 := cell_of_row _ _ 0 _ _ _ Sb3.out.1
  have y1 := cell_of_row _ _ 1 _ _ _ Sb3.out.1
  have y2 := cell_of_row _ _ 2 _ _ _ Sb3.out.1
  have y3 := cell_of_row _ _ 3 _ _ _ Sb3.out.1
  have y4 := cell_of_row _ _ 4 _ _ _ Sb3.out.1
  have y5 := cell_of_row _ _ 5 _ _ _ Sb3.out.1
  have E1 := hid (rsame_at ap1 0 ac1 Z0 ap2 0 ac2 Z1 ap3 0 ac3 Z1 ap4 0 ac4 Z0 0 0 bp1 0 bc1 Z0 bp2 0 bc2 Z1 bp3 0 bc3 Z1 bp4 0 bc4 Z0 0 0 v3 HZ.out HZ.out Sa3.out.2.1.1 Sa3.out.2.1.2.1 Sa3.out.2.1.2.2.1 Sa3.out.2.1.2.2.2 Sb3.out.2.1.1 Sb3.out.2.1.2.1 Sb3.out.2.1.2.2.1 Sb3.out.2.1.2.2.2)
  rw [eqS_self] at E1
  go_wp2_with fail
  refine (E1.out).mono ?_
  rintro e9 v4 ⟨rfl, b4⟩
  have A4 : Hid (Ab w v4) := A3.out.trans b4
  have Sa4 := hid (SeaIn.to Sa3.out b4 La.out)
  have Sb4 := hid (SeaIn.to Sb3.out b4 Lb.out)
  have Y4 : Hid (gb + 1 <= v4.heap.size) := Nat.le_trans Y3.out (Ab.size (show Ab v3 v4 from b4))
  clear b4 A3 Sa3 Sb3 Y3 x0 x1 x2 x3 x4 x5 y0 y1 y2 y3 y4 y5 E1
  have x0 := cell_of_row _ _ 0 _ _ _ Sa4.out.1
  have x1 := cell_of_row _ _ 1 _ _ _ Sa4.out.1
  have x2 := cell_of_row _ _ 2 _ _ _ Sa4.out.1
  have x3 := cell_of_row _ _ 3 _ _ _ Sa4.out.1
  have x4 := cell_of_row _ _ 4 _ _ _ Sa4.out.1
  have x5 := cell_of_row _ _ 5 _ _ _ Sa4.out.1
  go_wp2
  go_ret
  exact ⟨rfl, A4.out⟩
theorem slakes_go (n N M : Nat) (side : Int) (qb ob cb : Nat) (B : Nat -> Nat) (l : Nat) (F2 F3 : Nat -> Int) (F4 : Nat -> Nat) (ar : Nat -> Int) (w : World) (LV : Hid (∀ v, Ab w v -> Calls Tryz.prog 9 #[] v fun e w' => e = .returned (.bool true) /\ Below v.heap.size v w')) (hN : N <= 6144) (hN0 : 0 < N)
    (T1 : Hid (∀ v, Ab w v -> Calls Tryz.prog 21 #[.int .i64 side, .slice (some ⟨qb, ob, none⟩) N cb, .float .f64 l] v fun e w' => ∃ vv, e = .returned (.tuple #[vv, .int .i64 0]) /\ Below v.heap.size v w' /\ OwnS v.heap.size vv N N N M B F2 F3 F4 0 0 w'))
    (T2 : Hid (∀ v, Ab w v -> Calls Tryz.prog 22 #[.int .i64 side, .slice (some ⟨qb, ob, none⟩) N cb, .float .f64 l] v fun e w' => ∃ vv, e = .returned (.tuple #[vv, .int .i64 0]) /\ Below v.heap.size v w' /\ OwnS v.heap.size vv N N N M B F2 F3 F4 0 0 w'))
    (CC : Hid (∀ v p1 c1 p2 c2 p3 c3 p4 c4, Ab w v -> IsFl v p1 N B -> Sh.IsI v p2 N F2 -> Sh.IsI v p3 N F3 -> IsFl v p4 M F4 -> Calls Tryz.prog 13 #[.int .i64 side, .agg #[.slice p1 N c1, .slice p2 N c2, .slice p3 N c3, .slice p4 M c4, .int .i64 0, .int .i64 0]] v fun e w' => e = .returned (.tuple #[.int .i64 0, .int .i64 0]) /\ Below v.heap.size v w'))
    (NW : Hid (∀ v, Ab w v -> Calls Tryz.prog 23 #[.int .i64 side] v fun e w' => ∃ gb, e = .returned (.tuple #[.pointer (some ⟨gb, 0, none⟩), .int .i64 0]) /\ Ab v w' /\ GridOf n gb w'))
    (CE : Hid (∀ v gb, GridOf n gb v -> Calls Tryz.prog 24 #[.pointer (some ⟨gb, 0, none⟩)] v fun e w' => e = .returned (.int .i64 (N : Nat)) /\ Below v.heap.size v w'))
    (AR0 : Hid (∀ v gb (c : Nat), GridOf n gb v -> c < N -> Calls Tryz.prog 26 #[.pointer (some ⟨gb, 0, none⟩), .int .i64 (c : Nat)] v fun e w' => e = .returned (.int .i64 (ar c)) /\ Below v.heap.size v w'))
    (FI : Hid (∀ v (c : Nat), c < N -> Calls Tryz.prog 25 #[.float .f64 (B c), .int .i64 (ar c), .float .f64 l] v fun e w' => e = .returned (.int .i64 (F2 c)) /\ Below v.heap.size v w'))
    (WET : Hid (∀ c, c < N -> 0 < F2 c -> flt (B c) l = true)) (TR : Hid (∀ c, c < N -> F3 c = 0))
    (HL : Hid (N <= 131072 /\ N <= 131072 /\ N <= 131072 /\ M <= 131072)) (B1 : Hid (Bnd N N N M B F2 F3 F4)) (IB : Hid (IsFl w (some ⟨qb, ob, none⟩) N B)) :
    Calls Tryz.prog 7 #[.int .i64 side, .slice (some ⟨qb, ob, none⟩) N cb, .float .f64 l] w fun e w' => e = .returned (.bool true) /\ Below w.heap.size w w' := by
  have HN := hid (And.intro hN hN0)
  have d1 : decide (131072 < (N : Int)) = false := decide_eq_false (by omega)
  have d2 : decide (131072 < N) = false := decide_eq_false (by omega)
  clear hN hN0
  have A0 : Hid (Ab w w) := Ab.refl w
  go_enter Tryz.func7, Tryz.ntmps7
  go_wp2_with fail
  refine (LV.out _ A0.out).mono ?_
  rintro e9 v1 ⟨rfl, b1⟩
  have A1 : Hid (Ab w v1) := A0.out.trans b1
  clear b1 A0  
  go_wp2_with fail
  refine (T1.out v1 A1.out).mono ?_
  rintro e9 u2 ⟨vv, rfl, b2, os⟩
  obtain ⟨ap1, ac1, ap2, ac2, ap3, ac3, ap4, ac4, rfl, sn⟩ := sea_new os B1.out
  have La : Hid (v1.heap.size <= u2.heap.size) := Ab.size (show Ab v1 u2 from b2)
  have BB : Hid (Ab v1 (u2.alloc (.cells #[.slice ap1 N ac1, .slice ap2 N ac2, .slice ap3 N ac3, .slice ap4 M ac4, .int .i64 0, .int .i64 0] 33))) := (show Ab v1 u2 from b2).trans (bl1 _ _)
  have Sa2 := hid sn
  have Y2 : Hid (u2.heap.size + 1 <= (u2.alloc (.cells #[.slice ap1 N ac1, .slice ap2 N ac2, .slice ap3 N ac3, .slice ap4 M ac4, .int .i64 0, .int .i64 0] 33)).heap.size) := by show _ <= (u2.heap.push _).size; simp
  clear os sn b2 
  go_upto_region 5 with fail
  generalize hW : World.alloc u2 _ = v2 at *
  obtain ⟨ga, hg⟩ : ∃ g, u2.heap.size = g := ⟨_, rfl⟩
  rw [hg] at Sa2 La Y2 ⊢
  clear hg hW
  have A2 : Hid (Ab w v2) := A1.out.trans BB.out
  have Wa : Hid (w.heap.size <= v1.heap.size) := Ab.size A1.out
  obtain ⟨Ma, hM⟩ : ∃ m, v1.heap.size = m := ⟨_, rfl⟩
  rw [hM] at Sa2 La Wa
  clear hM
  clear BB A1 
  go_wp2_with fail
  refine (T2.out v2 A2.out).mono ?_
  rintro e9 u3 ⟨vv, rfl, b3, os⟩
  obtain ⟨bp1, bc1, bp2, bc2, bp3, bc3, bp4, bc4, rfl, sn⟩ := sea_new os B1.out
  have Lb : Hid (v2.heap.size <= u3.heap.size) := Ab.size (show Ab v2 u3 from b3)
  have BB : Hid (Ab v2 (u3.alloc (.cells #[.slice bp1 N bc1, .slice bp2 N bc2, .slice bp3 N bc3, .slice bp4 M bc4, .int .i64 0, .int .i64 0] 33))) := (show Ab v2 u3 from b3).trans (bl1 _ _)
  have Sb3 := hid sn
  have Y3 : Hid (u3.heap.size + 1 <= (u3.alloc (.cells #[.slice bp1 N bc1, .slice bp2 N bc2, .slice bp3 N bc3, .slice bp4 M bc4, .int .i64 0, .int .i64 0] 33)).heap.size) := by show _ <= (u3.heap.push _).size; simp
  clear os sn b3 
  go_upto_region 6 with fail
  generalize hW : World.alloc u3 _ = v3 at *
  obtain ⟨gb, hg⟩ : ∃ g, u3.heap.size = g := ⟨_, rfl⟩
  rw [hg] at Sb3 Lb Y3 ⊢
  clear hg hW
  have A3 : Hid (Ab w v3) := A2.out.trans BB.out
  have Sa3 := hid (SeaIn.to Sa2.out BB.out La.out)
  have Ob : Hid (ga + 1 <= v2.heap.size) := Y2.out
  have Wb : Hid (w.heap.size <= v2.heap.size) := Ab.size A2.out
  obtain ⟨Mb, hM⟩ : ∃ m, v2.heap.size = m := ⟨_, rfl⟩
  rw [hM] at Sb3 Lb Wb Ob
  clear hM
  clear BB A2 Sa2 Y2
  have x0 := cell_of_row _ _ 0 _ _ _ Sa3.out.1
  have x1 := cell_of_row _ _ 1 _ _ _ Sa3.out.1
  have x2 := cell_of_row _ _ 2 _ _ _ Sa3.out.1
  have x3 := cell_of_row _ _ 3 _ _ _ Sa3.out.1
  have x4 := cell_of_row _ _ 4 _ _ _ Sa3.out.1
  have x5 := cell_of_row _ _ 5 _ _ _ Sa3.out.1
  have y0 := cell_of_row _ _ 0 _ _ _ Sb3.out.1
  have y1 := cell_of_row _ _ 1 _ _ _ Sb3.out.1
  have y2 := cell_of_row _ _ 2 _ _ _ Sb3.out.1
  have y3 := cell_of_row _ _ 3 _ _ _ Sb3.out.1
  have y4 := cell_of_row _ _ 4 _ _ _ Sb3.out.1
  have y5 := cell_of_row _ _ 5 _ _ _ Sb3.out.1
  have E1 := hid (rsame_at ap1 N ac1 B ap2 N ac2 F2 ap3 N ac3 F3 ap4 M ac4 F4 0 0 bp1 N bc1 B bp2 N bc2 F2 bp3 N bc3 F3 bp4 M bc4 F4 0 0 v3 HL.out HL.out Sa3.out.2.1.1 Sa3.out.2.1.2.1 Sa3.out.2.1.2.2.1 Sa3.out.2.1.2.2.2 Sb3.out.2.1.1 Sb3.out.2.1.2.1 Sb3.out.2.1.2.2.1 Sb3.out.2.1.2.2.2)
  rw [eqS_self] at E1
  go_wp2_with fail
  refine (E1.out).mono ?_
  rintro e9 v4 ⟨rfl, b4⟩
  have A4 : Hid (Ab w v4) := A3.out.trans b4
  have Sa4 := hid (SeaIn.to Sa3.out b4 La.out)
  have Sb4 := hid (SeaIn.to Sb3.out b4 Lb.out)
  have Y4 : Hid (gb + 1 <= v4.heap.size) := Nat.le_trans Y3.out (Ab.size (show Ab v3 v4 from b4))
  clear b4 A3 Sa3 Sb3 Y3 x0 x1 x2 x3 x4 x5 y0 y1 y2 y3 y4 y5 E1
  have x0 := cell_of_row _ _ 0 _ _ _ Sa4.out.1
  have x1 := cell_of_row _ _ 1 _ _ _ Sa4.out.1
  have x2 := cell_of_row _ _ 2 _ _ _ Sa4.out.1
  have x3 := cell_of_row _ _ 3 _ _ _ Sa4.out.1
  have x4 := cell_of_row _ _ 4 _ _ _ Sa4.out.1
  have x5 := cell_of_row _ _ 5 _ _ _ Sa4.out.1
  go_wp2_with fail
  refine (CC.out v4 ap1 ac1 ap2 ac2 ap3 ac3 ap4 ac4 A4.out Sa4.out.2.1.1 Sa4.out.2.1.2.1 Sa4.out.2.1.2.2.1 Sa4.out.2.1.2.2.2).mono ?_
  rintro e9 v5 ⟨rfl, b5⟩
  have A5 : Hid (Ab w v5) := A4.out.trans b5
  have Sa5 := hid (SeaIn.to Sa4.out b5 La.out)
  have Sb5 := hid (SeaIn.to Sb4.out b5 Lb.out)
  have Y5 : Hid (gb + 1 <= v5.heap.size) := Nat.le_trans Y4.out (Ab.size (show Ab v4 v5 from b5))
  clear b5 A4 Sa4 Sb4 Y4 x0 x1 x2 x3 x4 x5
  go_wp2_with fail
  refine (NW.out v5 A5.out).mono ?_
  rintro e9 v6 ⟨gb, rfl, b6, g6⟩
  have A6 : Hid (Ab w v6) := A5.out.trans b6
  have Sa6 := hid (SeaIn.to Sa5.out b6 La.out)
  have G := hid g6
  clear b6 g6 A5 Sa5 Sb5 Lb Y5
  have i2 := Sa6.out.2.1.2.1
  have i3 := Sa6.out.2.1.2.2.1
  obtain ⟨q2, o2, rfl⟩ := Sh.IsI.some0 i2 HN.out.2
  obtain ⟨q3, o3, rfl⟩ := Sh.IsI.some0 i3 HN.out.2
  have I2 := hid i2
  have I3 := hid i3
  have RA := hid Sa6.out.1
  clear i2 i3
  have x0 := cell_of_row _ _ 0 _ _ _ RA.out
  have x1 := cell_of_row _ _ 1 _ _ _ RA.out
  have x2 := cell_of_row _ _ 2 _ _ _ RA.out
  have x3 := cell_of_row _ _ 3 _ _ _ RA.out
  have x4 := cell_of_row _ _ 4 _ _ _ RA.out
  have x5 := cell_of_row _ _ 5 _ _ _ RA.out
  go_wp2
  go_loopw [16] (fun iv wr => ∃ c : Nat, c <= N /\ iv = .int .i64 (c : Nat) /\ Ab v6 wr) (fun iv _ => N - (intOf iv).toNat)
  case atStart => exact ⟨0, by omega, rfl, Ab.refl _⟩
  case round =>
    obtain ⟨c, hc, rfl, ar'⟩ := hrel
    have AR := hid ar'
    clear ar' x0 x1 x2 x3 x4 x5
    go_wp2_with fail
    refine (CE.out wr gb (G.out.to AR.out)).mono ?_
    rintro e9 u1 ⟨rfl, b1⟩
    have AU : Hid (Ab v6 u1) := AR.out.trans b1
    clear b1 AR
    by_cases hcn : c < N
    · have HC := hid hcn
      have cI : (c : Int) < N := by omega
      have cB : (c : Int) <= 6144 := by have := HN.out; omega
      have dN : decide (c < N) = true := decide_eq_true hcn
      obtain ⟨x, hx⟩ : ∃ x, F2 c = x := ⟨_, rfl⟩
      obtain ⟨b, hb⟩ : ∃ x, B c = x := ⟨_, rfl⟩
      obtain ⟨r, hr⟩ : ∃ x, ar c = x := ⟨_, rfl⟩
      have XC : Hid (∀ v, Ab v6 v -> v.cell? ⟨q2, o2 + c, none⟩ = some (.int .i64 x) /\ v.cell? ⟨q3, o3 + c, none⟩ = some (.int .i64 0) /\ v.cell? ⟨qb, ob + c, none⟩ = some (.float .f64 b)) := fun v q => by
        refine ⟨?_, ?_, ?_⟩
        · rw [<- hx]; exact ((I2.out.below q).at0 hcn).2.2
        · rw [<- TR.out c hcn]; exact ((I3.out.below q).at0 hcn).2.2
        · rw [<- hb]; exact ((IB.out.below (A6.out.trans q)).at0 hcn).2.2
      have CA : Hid (∀ v, Ab v6 v -> Calls Tryz.prog 26 #[.pointer (some ⟨gb, 0, none⟩), .int .i64 (c : Nat)] v fun e w' => e = .returned (.int .i64 r) /\ Below v.heap.size v w') := fun v q => by rw [<- hr]; exact AR0.out v gb c (G.out.to q) hcn
      have CF : Hid (∀ v, Calls Tryz.prog 25 #[.float .f64 b, .int .i64 r, .float .f64 l] v fun e w' => e = .returned (.int .i64 x) /\ Below v.heap.size v w') := fun v => by rw [<- hr, <- hx, <- hb]; exact FI.out v c hcn
      have wt := WET.out c hcn
      rw [hx, hb] at wt
      have xe : (x != x) = false := by simp
      clear hx hb hr hcn hc
      by_cases xp : 0 < x
      · have e5 : decide (0 < x) = true := decide_eq_true xp
        have e6 := wt xp
        clear wt xp
        go_upto_region 17 with fail
        obtain ⟨UU, E, hF1, hF2⟩ := cls u1
        have HU := hid hF2
        have HU1 := hid hF1
        have e1 : ∀ u, (E u).cell? ⟨ga, 1, none⟩ = some (.slice (some ⟨q2, o2, none⟩) N ac2) := fun u => cell_of_row _ _ 1 _ _ _ ((AU.out.trans (hF1 u)).heap RA.out)
        have e2 : ∀ u, (E u).cell? ⟨ga, 2, none⟩ = some (.slice (some ⟨q3, o3, none⟩) N ac3) := fun u => cell_of_row _ _ 2 _ _ _ ((AU.out.trans (hF1 u)).heap RA.out)
        have g1 : ∀ u, (E u).cell? ⟨q2, o2 + c, none⟩ = some (.int .i64 x) := fun u => (XC.out _ (AU.out.trans (hF1 u))).1
        have g2 : ∀ u, (E u).cell? ⟨q3, o3 + c, none⟩ = some (.int .i64 0) := fun u => (XC.out _ (AU.out.trans (hF1 u))).2.1
        have g3 : ∀ u, (E u).cell? ⟨qb, ob + c, none⟩ = some (.float .f64 b) := fun u => (XC.out _ (AU.out.trans (hF1 u))).2.2
        have DD0 := HU.out _ (Ab.refl u1).drew
        clear hF1 hF2
        refine region_cls E (by kernel_rfl) (by kernel_rfl) DD0 ?_
        repeat (go_big_quiet_step (first | (go_at_call 26; exact calls_cls HU HU1 (CA.out _ (AU.out.trans (HU1.out _)))) | (go_at_call 25; exact calls_cls HU HU1 (CF.out _)) | (with_reducible rfl)))
        refine wpQuiet_nil ?_
        intro z hwz
        obtain ⟨u0, hu⟩ := hwz
        have AZ : Hid (Ab u1 z) := by rw [hu]; exact HU1.out u0
        clear hu u0
        clear HU HU1 DD0 e1 e2 g1 g2 g3
        clear E UU
        go_wp2
        exact ⟨⟨c + 1, by have := HC.out; omega, by simp, AU.out.trans AZ.out⟩, by have := HC.out; simp [intOf]; omega⟩
      · have e5 : decide (0 < x) = false := decide_eq_false xp
        clear wt xp
        go_upto_region 17 with fail
        obtain ⟨UU, E, hF1, hF2⟩ := cls u1
        have HU := hid hF2
        have HU1 := hid hF1
        have e1 : ∀ u, (E u).cell? ⟨ga, 1, none⟩ = some (.slice (some ⟨q2, o2, none⟩) N ac2) := fun u => cell_of_row _ _ 1 _ _ _ ((AU.out.trans (hF1 u)).heap RA.out)
        have e2 : ∀ u, (E u).cell? ⟨ga, 2, none⟩ = some (.slice (some ⟨q3, o3, none⟩) N ac3) := fun u => cell_of_row _ _ 2 _ _ _ ((AU.out.trans (hF1 u)).heap RA.out)
        have g1 : ∀ u, (E u).cell? ⟨q2, o2 + c, none⟩ = some (.int .i64 x) := fun u => (XC.out _ (AU.out.trans (hF1 u))).1
        have g2 : ∀ u, (E u).cell? ⟨q3, o3 + c, none⟩ = some (.int .i64 0) := fun u => (XC.out _ (AU.out.trans (hF1 u))).2.1
        have g3 : ∀ u, (E u).cell? ⟨qb, ob + c, none⟩ = some (.float .f64 b) := fun u => (XC.out _ (AU.out.trans (hF1 u))).2.2
        have DD0 := HU.out _ (Ab.refl u1).drew
        clear hF1 hF2
        refine region_cls E (by kernel_rfl) (by kernel_rfl) DD0 ?_
        repeat (go_big_quiet_step (first | (go_at_call 26; exact calls_cls HU HU1 (CA.out _ (AU.out.trans (HU1.out _)))) | (go_at_call 25; exact calls_cls HU HU1 (CF.out _)) | (with_reducible rfl)))
        refine wpQuiet_nil ?_
        intro z hwz
        obtain ⟨u0, hu⟩ := hwz
        have AZ : Hid (Ab u1 z) := by rw [hu]; exact HU1.out u0
        clear hu u0
        clear HU HU1 DD0 e1 e2 g1 g2 g3
        clear E UU
        go_wp2
        exact ⟨⟨c + 1, by have := HC.out; omega, by simp, AU.out.trans AZ.out⟩, by have := HC.out; simp [intOf]; omega⟩
    · have e6 : N = c := by omega
      subst e6
      go_wp2
      go_ret
      exact ⟨rfl, A6.out.trans AU.out⟩
theorem slakes_at (PC : PlanC) (CC : CheckC) (SC : SameC) (YC : CopyC) (TC : TurnedC) (LC : LakeC) (side : Int) {pb : Option Addr} {lb cb : Nat} {B : Nat -> Nat} (l : Nat) (w : World) (hF : Fr w) (h1 : Sh.W64 side) (hl : l < 18446744073709551616) (ib : IsFl w pb lb B) :
    Calls Tryz.prog 7 #[.int .i64 side, .slice pb lb cb, .float .f64 l] w fun e w' => e = .returned (.bool true) /\ Below w.heap.size w w' := by
  have LV : Hid (∀ v, Ab w v -> Calls Tryz.prog 9 #[] v fun e w' => e = .returned (.bool true) /\ Below v.heap.size v w') := fun v a => awake20_at PC CC SC YC TC LC v (hF.to a)
  by_cases h : 131072 < lb
  · exact slakes_w side pb lb cb l w LV h
  · have le : lb <= 131072 := by omega
    by_cases q : lkE side lb B l = 0
    · obtain ⟨s1, s2, s3⟩ := lake_ok q
      have z := bnd_lake q (fun i hi => (ib i hi).1)
      obtain ⟨n, rfl⟩ : ∃ n : Nat, side = (n : Nat) := ⟨side.toNat, by omega⟩
      have hn : 1 <= n /\ n <= 32 := by omega
      have sq := side_sq s1
      rw [Int.toNat_natCast] at s2 s3 sq
      have n0 : 0 < 6 * n * n := by
        have p1 : 0 < n * n := Nat.mul_pos (by omega) (by omega)
        rw [Nat.mul_assoc]
        omega
      have T1 := fun v (a : Ab w v) => (LC (n : Nat) pb lb cb B l v (hF.to a) h1 le hl (ib.below a)).1 q
      have T2 := fun v (a : Ab w v) => (rlake_at (n : Nat) pb lb cb B l v le hl (ib.below a)).1 q
      rw [Int.toNat_natCast] at T1 T2 z
      subst s2
      obtain ⟨qb, ob, rfl⟩ := ib.some0 n0
      refine slakes_go n (6 * n * n) (2 * (6 * n * n)) (n : Nat) qb ob cb B l (lkW n B l) (fun _ => 0) (fun _ => 0) (arC n) w LV sq.2 n0 T1 T2 (fun v p1 c1 p2 c2 p3 c3 p4 c4 a k1 k2 k3 k4 => ?_) (fun v a => (new_at n v hn (hF.to a)).mono fun e w' h => ?_) (fun v gb g => (gCells_at g).mono fun e w' h => ⟨h.1, by rw [h.2]; exact Below.refl _ _⟩) (fun v gb c g hc => (gArea_ok hn hc g).mono fun e w' h => h) (fun v c hc => (fill_at (B c) (arC n c) l v (ib c hc).1 hl (arC_in n c).2).mono fun e w' h => ?_) (fun c hc hp => ?_) (fun c _ => rfl) z.2 z.1 ib
      · have y := CC (n : Nat) p1 _ c1 B p2 _ c2 (lkW n B l) p3 _ c3 (fun _ => 0) p4 _ c4 (fun _ => 0) 0 0 v h1 (by unfold Sh.W64; omega) (by unfold Sh.W64; omega) z.2 k1 k2 k3 k4
        rw [chk_zero s1 (by rw [Int.toNat_natCast]; exact ⟨rfl, rfl, rfl, rfl⟩) (by rw [Int.toNat_natCast]; exact s3)] at y
        exact y
      · obtain ⟨gb, rfl, a1, -, g⟩ := h
        exact ⟨gb, rfl, a1, g⟩
      · obtain ⟨rfl, j, rfl⟩ := h
        exact ⟨rfl, below_drewN (Below.refl _ _) j⟩
      · have e : lkW n B l c = fil (B c) (arC n c) l := rfl
        rw [e] at hp
        cases g : fgt l (B c) with
        | true =>
          rw [fgt_rk l (B c) hl (ib c hc).1] at g
          rw [flt_rk (B c) l (ib c hc).1 hl]
          revert g
          cases isN l <;> cases isN (B c) <;> simp
        | false =>
          rw [fil_no (.inl g)] at hp
          exact absurd hp (by decide)
    · exact slakes_bad side pb lb cb l _ (fun _ => 0) (fun _ => 0) w LV le (fun v a => ((LC side pb lb cb B l v (hF.to a) h1 le hl (ib.below a)).2 q).mono fun e w' k => ⟨_, k.1, k.2, own_zero _ _⟩) (fun v a => ((rlake_at side pb lb cb B l v le hl (ib.below a)).2 q).mono fun e w' k => ⟨_, k.1, k.2, own_zero _ _⟩) (by show _ /\ _; omega) bnd_zero (by simpa using q)
end Ss
end Go.Proofs.YtdigecacmibkpaaGreatDoor

namespace Go.Proofs.YtdigecacmibkpaaGreatDoor
open Go.RowKit Go.Deep
namespace Sh
theorem lit_w {x : Int} (h : (Lit.int .i64 x).wf = true) : -9223372036854775808 <= x /\ x <= 9223372036854775807 := by
  simp only [Lit.wf, Bool.and_eq_true, decide_eq_true_eq] at h
  have q1 : IntKind.i64.min = -9223372036854775808 := by decide
  have q2 : IntKind.i64.max = 9223372036854775807 := by decide
  omega
end Sh
end Go.Proofs.YtdigecacmibkpaaGreatDoor

namespace Go.Proofs.YtdigecacmibkpaaGreatDoor
open Go.RowKit Tf Cu Go.Deep
attribute [local go_sem] run_bits run_from raw_feq raw_fne raw_flt raw_fgt run_neg run_store_float
namespace Ss
theorem sameF_at (a b : Nat) (r : Bool) (w : World) (hr : decide (a = b) = r) :
    Calls Tryz.prog 41 #[.float .f64 a, .float .f64 b] w fun e w' => e = .returned (.bool r) /\ w' = w := by
  by_cases h : a = b
  · have d1 : ((a : Int) == (b : Int)) = true := by simp [h]
    have R : Hid (r = true) := hr.symm.trans (decide_eq_true h)
    clear hr h
    go_enter Tryz.func41, Tryz.ntmps41
    go_wp2
    go_ret
    exact ⟨by rw [R.out]; rfl, rfl⟩
  · have d1 : ((a : Int) == (b : Int)) = false := by simp; omega
    have R : Hid (r = false) := hr.symm.trans (decide_eq_false h)
    clear hr h
    go_enter Tryz.func41, Tryz.ntmps41
    go_wp2
    go_ret
    exact ⟨by rw [R.out]; rfl, rfl⟩
theorem sameQ_at (a b : Int) (r : Bool) (w : World) (hr : decide (a = b) = r) :
    Calls Tryz.prog 43 #[.int .i64 a, .int .i64 b] w fun e w' => e = .returned (.bool r) /\ w' = w := by
  by_cases h : a = b
  · have d1 : (a == b) = true := by simp [h]
    have R : Hid (r = true) := hr.symm.trans (decide_eq_true h)
    clear hr h
    go_enter Tryz.func43, Tryz.ntmps43
    go_wp2
    go_ret
    exact ⟨by rw [R.out]; rfl, rfl⟩
  · have d1 : (a == b) = false := by simp; omega
    have R : Hid (r = false) := hr.symm.trans (decide_eq_false h)
    clear hr h
    go_enter Tryz.func43, Tryz.ntmps43
    go_wp2
    go_ret
    exact ⟨by rw [R.out]; rfl, rfl⟩
theorem within_at (x lo hi : Nat) (r : Bool) (w : World) (hr : ((fgt x lo || feq x lo) && (flt x hi || feq x hi)) = r) :
    Calls Tryz.prog 58 #[.float .f64 x, .float .f64 lo, .float .f64 hi] w fun e w' => e = .returned (.bool r) /\ w' = w := by
  cases h1 : (fgt x lo || feq x lo) with
  | false =>
    have R : Hid (r = false) := hr.symm.trans (by rw [h1]; rfl)
    clear hr
    go_enter Tryz.func58, Tryz.ntmps58
    go_wp2
    go_ret
    exact ⟨by rw [R.out]; rfl, rfl⟩
  | true =>
    cases h2 : (flt x hi || feq x hi) with
    | false =>
      have R : Hid (r = false) := hr.symm.trans (by rw [h1, h2]; rfl)
      clear hr
      go_enter Tryz.func58, Tryz.ntmps58
      go_wp2
      go_ret
      exact ⟨by rw [R.out]; rfl, rfl⟩
    | true =>
      have R : Hid (r = true) := hr.symm.trans (by rw [h1, h2]; rfl)
      clear hr
      go_enter Tryz.func58, Tryz.ntmps58
      go_wp2
      go_ret
      exact ⟨by rw [R.out]; rfl, rfl⟩
theorem canon_in {x lo : Nat} (hx : x < 18446744073709551616) (hl : lo < 18446744073709551616) (h : (fgt x lo || feq x lo) = true) : decide (x = canonB x) = decide (x ≠ 9223372036854775808) := by
  have n : isN x = false := by
    rw [fgt_rk x lo hx hl, feq_rk x lo hx hl] at h
    cases q : isN x with
    | false => rfl
    | true => rw [q] at h; simp at h
  unfold canonB
  rw [if_neg (by rw [n]; decide)]
  unfold mg
  by_cases z : x % 9223372036854775808 = 0
  · rw [if_pos z]
    by_cases e : x = 9223372036854775808
    · rw [decide_eq_false (by omega), decide_eq_false (fun q => q e)]
    · rw [decide_eq_true (by omega), decide_eq_true e]
  · rw [if_neg z, decide_eq_true rfl, decide_eq_true (by omega)]
theorem kept_at (x lo hi : Nat) (r : Bool) (w : World) (hx : x < 18446744073709551616) (hl : lo < 18446744073709551616) (hr : btw x lo hi = r) :
    Calls Tryz.prog 75 #[.float .f64 x, .float .f64 lo, .float .f64 hi] w fun e w' => e = .returned (.bool r) /\ w' = w := by
  unfold btw at hr
  cases h1 : ((fgt x lo || feq x lo) && (flt x hi || feq x hi)) with
  | false =>
    have R : Hid (r = false) := hr.symm.trans (by rw [h1]; rfl)
    have CW := hid (within_at x lo hi false w h1)
    clear hr hx hl h1
    go_enter Tryz.func75, Tryz.ntmps75
    go_wp2_with fail
    refine CW.out.mono ?_
    rintro e9 v9 ⟨rfl, hv9⟩
    have hv8 := hv9.symm
    subst hv8
    go_wp2
    go_ret
    exact ⟨by rw [R.out]; rfl, rfl⟩
  | true =>
    have R : Hid (decide (x ≠ 9223372036854775808) = r) := by
      show _ = _
      rw [<- hr, h1]
      rfl
    have CW := hid (within_at x lo hi true w h1)
    have h3 := canon_in hx hl ((Bool.and_eq_true _ _).mp h1).1
    have CC := hid (canon_at x _ w hx rfl)
    have CS := hid (sameF_at x (canonB x) r w (by rw [h3]; exact R.out))
    generalize canonB x = y at *
    clear hr hx hl h1 h3 R
    go_enter Tryz.func75, Tryz.ntmps75
    go_wp2_with fail
    refine CW.out.mono ?_
    rintro e9 v9 ⟨rfl, hv9⟩
    have hv8 := hv9.symm
    subst hv8
    go_wp2_with fail
    refine CC.out.mono ?_
    rintro e9 v9 ⟨rfl, hv9⟩
    have hv8 := hv9.symm
    subst hv8
    go_wp2_with fail
    refine CS.out.mono ?_
    rintro e9 v9 ⟨rfl, hv9⟩
    have hv8 := hv9.symm
    subst hv8
    go_wp2
    go_ret
    exact ⟨rfl, rfl⟩
theorem beyond_at (p : Option Addr) (N c : Nat) (f : Nat -> Nat) (m nm : Nat) (q : Nat -> Bool) (w : World) (hm : Op.negFloat .f64 m = nm) (hn : nm < 18446744073709551616) (hN : N <= 281474976710656) (hf : IsFl w p N f) (hq : ∀ i, i < N -> q i = !btw (f i) nm m) :
    Calls Tryz.prog 36 #[.slice p N c, .float .f64 m] w fun e w' => e = .returned (.int .i64 (fp q N)) /\ w' = w := by
  have HF := hid hf
  have HN := hid hN
  have HQ := hid hq
  have HNM := hid hn
  clear hf hN hq hn
  go_enter Tryz.func36, Tryz.ntmps36
  go_wp2
  go_loopw [9] (fun iv wr => ∃ k : Nat, k <= N /\ iv = .int .i64 (k : Nat) /\ (∀ i, i < k -> q i = false) /\ wr = w) (fun iv _ => N - (intOf iv).toNat)
  case atStart => exact ⟨0, by omega, rfl, fun i hi => absurd hi (Nat.not_lt_zero i), rfl⟩
  case round =>
    obtain ⟨k, hk, rfl, g1, hwr⟩ := hrel
    have hwr2 := hwr.symm
    subst hwr2
    have G1 := hid g1
    clear g1
    by_cases hkn : k < N
    · have HK := hid hkn
      have kI : (k : Int) < N := by omega
      have kB : (k : Int) <= 281474976710656 := by have := HN.out; omega
      obtain ⟨b0, o0, rfl⟩ := HF.out.some0 (show 0 < N by omega)
      obtain ⟨x, hx⟩ : ∃ x, f k = x := ⟨_, rfl⟩
      have xa := HF.out.at0 hkn
      have xc := xa.2.2
      have xl := (HF.out k hkn).1
      rw [hx] at xc xl
      have qk := HQ.out k hkn
      rw [hx] at qk
      clear hx hkn hk xa
      cases hb : btw x nm m with
      | false =>
        have CB := hid (kept_at x nm m false w xl HNM.out hb)
        have QK : Hid (q k = true) := qk.trans (by rw [hb]; rfl)
        have E : Hid (fp q N = (k : Nat)) := fp_hit G1.out QK.out HK.out
        clear qk hb xl
        go_wp2_with fail
        refine CB.out.mono ?_
        rintro e9 v9 ⟨rfl, hv9⟩
        have hv8 := hv9.symm
        subst hv8
        go_wp2
        go_ret
        exact ⟨by rw [E.out]; rfl, by first | trivial | rfl⟩
      | true =>
        have CB := hid (kept_at x nm m true w xl HNM.out hb)
        have QK : Hid (q k = false) := qk.trans (by rw [hb]; rfl)
        clear qk hb xl
        go_wp2_with fail
        refine CB.out.mono ?_
        rintro e9 v9 ⟨rfl, hv9⟩
        have hv8 := hv9.symm
        subst hv8
        go_wp2
        refine ⟨⟨k + 1, by have := HK.out; omega, by simp, fun i hi => ?_, by first | trivial | rfl⟩, by have := HK.out; simp [intOf]; omega⟩
        by_cases l : i < k
        · exact G1.out i l
        · obtain rfl : i = k := by omega
          exact QK.out
    · have e6 : N = k := by omega
      subst e6
      have E : Hid (fp q N = -1) := fp_none G1.out
      go_wp2
      go_ret
      exact ⟨by rw [E.out]; rfl, by first | trivial | rfl⟩
theorem much_at (p : Option Addr) (N c : Nat) (f : Nat -> Int) (th rm : Int) (w : World) (hN : N <= 281474976710656) (hf : Sh.IsI w p N f) (ht : 0 <= th /\ th <= 4503599627370496) (hrm : rm = 4503599627370496 - th) :
    Calls Tryz.prog 37 #[.slice p N c, .int .i64 rm] w fun e w' => e = .returned (.int .i64 (fp (bQ f th) N)) /\ w' = w := by
  have HF := hid hf
  have HN := hid hN
  have HT := hid ht
  have HR := hid hrm
  clear hf hN ht hrm
  go_enter Tryz.func37, Tryz.ntmps37
  go_wp2
  go_loopw [1, 9] (fun sv iv wr => ∃ k : Nat, k <= N /\ iv = .int .i64 (k : Nat) /\ sv = .int .i64 (4503599627370496 - (th + Sh.sumN f k)) /\ (0 <= th + Sh.sumN f k /\ th + Sh.sumN f k <= 4503599627370496) /\ (∀ i, i < k -> bQ f th i = false) /\ wr = w) (fun _ iv _ => N - (intOf iv).toNat)
  case atStart => exact ⟨0, by omega, rfl, by show _ = Value.int .i64 (4503599627370496 - (th + 0)); rw [Int.add_zero, HR.out], by show 0 <= th + 0 /\ th + 0 <= _; have := HT.out; omega, fun i hi => absurd hi (Nat.not_lt_zero i), rfl⟩
  case round =>
    obtain ⟨k, hk, rfl, rfl, hb, g1, hwr⟩ := hrel
    have hwr2 := hwr.symm
    subst hwr2
    have G1 := hid g1
    clear g1
    obtain ⟨s, hs⟩ : ∃ s, 4503599627370496 - (th + Sh.sumN f k) = s := ⟨_, rfl⟩
    have s1 : 0 <= s := by omega
    have s2 : s <= 4503599627370496 := by omega
    rw [hs]
    clear hb
    by_cases hkn : k < N
    · have HK := hid hkn
      have kI : (k : Int) < N := by omega
      have kB : (k : Int) <= 281474976710656 := by have := HN.out; omega
      obtain ⟨b0, o0, rfl⟩ := HF.out.some0 (show 0 < N by omega)
      obtain ⟨x, hx⟩ : ∃ x, f k = x := ⟨_, rfl⟩
      have xc := (HF.out.at0 hkn).2.2
      rw [hx] at xc
      have QE : Hid (bQ f th k = (decide (x < 0) || decide (s < x))) := by show bQ f th k = _; unfold bQ; rw [hs, hx]
      have M3 : Hid (th + Sh.sumN f (k + 1) = 4503599627370496 - s + x) := by show th + (Sh.sumN f k + f k) = _; rw [hx]; omega
      clear hx hs hkn hk
      by_cases q1 : x < 0
      · have d1 : decide (x < 0) = true := decide_eq_true q1
        have E : Hid (fp (bQ f th) N = (k : Nat)) := fp_hit G1.out (QE.out.trans (by rw [d1]; rfl)) HK.out
        go_wp2
        go_ret
        exact ⟨by rw [E.out]; rfl, by first | trivial | rfl⟩
      · have d1 : decide (x < 0) = false := decide_eq_false q1
        by_cases q2 : s < x
        · have d2 : decide (s < x) = true := decide_eq_true q2
          have E : Hid (fp (bQ f th) N = (k : Nat)) := fp_hit G1.out (QE.out.trans (by rw [d1, d2]; rfl)) HK.out
          go_wp2
          go_ret
          exact ⟨by rw [E.out]; rfl, by first | trivial | rfl⟩
        · have d2 : decide (s < x) = false := decide_eq_false q2
          have QF : Hid (bQ f th k = false) := QE.out.trans (by rw [d1, d2]; rfl)
          have n1 : 0 <= s - x := by omega
          have n2 : s - x <= 4503599627370496 := by omega
          have N3 : Hid (4503599627370496 - (4503599627370496 - s + x) = s - x) := by show _ = _; omega
          have N4 : Hid (0 <= 4503599627370496 - s + x /\ 4503599627370496 - s + x <= 4503599627370496) := by show _ /\ _; omega
          clear q1 q2
          go_wp2
          refine ⟨⟨k + 1, by have := HK.out; omega, by simp, by rw [M3.out, N3.out], by rw [M3.out]; exact N4.out, fun i hi => ?_, by first | trivial | rfl⟩, by have := HK.out; simp [intOf]; omega⟩
          by_cases l : i < k
          · exact G1.out i l
          · obtain rfl : i = k := by omega
            exact QF.out
    · have e6 : N = k := by omega
      subst e6
      have E : Hid (fp (bQ f th) N = -1) := fp_none G1.out
      go_wp2
      go_ret
      exact ⟨by rw [E.out]; rfl, by first | trivial | rfl⟩
end Ss
end Go.Proofs.YtdigecacmibkpaaGreatDoor

namespace Go.Proofs.YtdigecacmibkpaaGreatDoor
open Go.RowKit Go.Deep
namespace Rn
open Sh
theorem valid18 (n r1 r2 r3 r4 : Int) (w : World) :
    Calls Tryz.prog 77 #[.int .i64 n, .agg #[.int .i64 r1, .int .i64 r2, .int .i64 r3, .int .i64 r4]] w fun e w' => e = .returned (.bool (vB n (r1, r2, r3, r4))) /\ Below w.heap.size w w' := by
  have A0 : Hid (Ab w (w.alloc (.cells #[.int .i64 r1, .int .i64 r2, .int .i64 r3, .int .i64 r4] 60))) := bl1 _ _
  have R0 : Hid ((w.alloc (.cells #[.int .i64 r1, .int .i64 r2, .int .i64 r3, .int .i64 r4] 60)).heap[w.heap.size]? = some (.cells #[.int .i64 r1, .int .i64 r2, .int .i64 r3, .int .i64 r4] 60)) := heap_alloc_new _ _
  have VE : Hid (vB n (r1, r2, r3, r4) = (decide (0 <= r1) && decide (r1 < n) && decide (-4503599627370496 <= r2) && decide (r2 <= 4503599627370496) && decide (0 <= r3) && decide (r3 <= r4))) := rfl
  cases h0 : decide (0 <= r1) with
  | false =>
    have KO : Hid (vB n (r1, r2, r3, r4) = false) := VE.out.trans (by rw [h0] <;> rfl)
    clear VE
    go_enter Tryz.func77, Tryz.ntmps77
    go_upto_region 1 with fail
    generalize hW : World.alloc w _ = W0 at *
    obtain ⟨gw, hgw⟩ : ∃ g, w.heap.size = g := ⟨_, rfl⟩
    rw [hgw] at R0 ⊢
    clear hgw hW
    have x0 := cell_of_row _ _ 0 _ _ _ R0.out
    have x1 := cell_of_row _ _ 1 _ _ _ R0.out
    have x2 := cell_of_row _ _ 2 _ _ _ R0.out
    have x3 := cell_of_row _ _ 3 _ _ _ R0.out
    go_wp2
    go_ret
    exact ⟨by rw [KO.out]; rfl, A0.out⟩
  | true =>
    cases h1 : decide (r1 < n) with
    | false =>
      have KO : Hid (vB n (r1, r2, r3, r4) = false) := VE.out.trans (by rw [h0, h1] <;> rfl)
      clear VE
      go_enter Tryz.func77, Tryz.ntmps77
      go_upto_region 1 with fail
      generalize hW : World.alloc w _ = W0 at *
      obtain ⟨gw, hgw⟩ : ∃ g, w.heap.size = g := ⟨_, rfl⟩
      rw [hgw] at R0 ⊢
      clear hgw hW
      have x0 := cell_of_row _ _ 0 _ _ _ R0.out
      have x1 := cell_of_row _ _ 1 _ _ _ R0.out
      have x2 := cell_of_row _ _ 2 _ _ _ R0.out
      have x3 := cell_of_row _ _ 3 _ _ _ R0.out
      go_wp2
      go_ret
      exact ⟨by rw [KO.out]; rfl, A0.out⟩
    | true =>
      cases h2 : decide (-4503599627370496 <= r2) with
      | false =>
        have KO : Hid (vB n (r1, r2, r3, r4) = false) := VE.out.trans (by rw [h0, h1, h2] <;> rfl)
        clear VE
        go_enter Tryz.func77, Tryz.ntmps77
        go_upto_region 1 with fail
        generalize hW : World.alloc w _ = W0 at *
        obtain ⟨gw, hgw⟩ : ∃ g, w.heap.size = g := ⟨_, rfl⟩
        rw [hgw] at R0 ⊢
        clear hgw hW
        have x0 := cell_of_row _ _ 0 _ _ _ R0.out
        have x1 := cell_of_row _ _ 1 _ _ _ R0.out
        have x2 := cell_of_row _ _ 2 _ _ _ R0.out
        have x3 := cell_of_row _ _ 3 _ _ _ R0.out
        go_wp2
        go_ret
        exact ⟨by rw [KO.out]; rfl, A0.out⟩
      | true =>
        cases h3 : decide (r2 <= 4503599627370496) with
        | false =>
          have KO : Hid (vB n (r1, r2, r3, r4) = false) := VE.out.trans (by rw [h0, h1, h2, h3] <;> rfl)
          clear VE
          go_enter Tryz.func77, Tryz.ntmps77
          go_upto_region 1 with fail
          generalize hW : World.alloc w _ = W0 at *
          obtain ⟨gw, hgw⟩ : ∃ g, w.heap.size = g := ⟨_, rfl⟩
          rw [hgw] at R0 ⊢
          clear hgw hW
          have x0 := cell_of_row _ _ 0 _ _ _ R0.out
          have x1 := cell_of_row _ _ 1 _ _ _ R0.out
          have x2 := cell_of_row _ _ 2 _ _ _ R0.out
          have x3 := cell_of_row _ _ 3 _ _ _ R0.out
          go_wp2
          go_ret
          exact ⟨by rw [KO.out]; rfl, A0.out⟩
        | true =>
          cases h4 : decide (0 <= r3) with
          | false =>
            have KO : Hid (vB n (r1, r2, r3, r4) = false) := VE.out.trans (by rw [h0, h1, h2, h3, h4] <;> rfl)
            clear VE
            go_enter Tryz.func77, Tryz.ntmps77
            go_upto_region 1 with fail
            generalize hW : World.alloc w _ = W0 at *
            obtain ⟨gw, hgw⟩ : ∃ g, w.heap.size = g := ⟨_, rfl⟩
            rw [hgw] at R0 ⊢
            clear hgw hW
            have x0 := cell_of_row _ _ 0 _ _ _ R0.out
            have x1 := cell_of_row _ _ 1 _ _ _ R0.out
            have x2 := cell_of_row _ _ 2 _ _ _ R0.out
            have x3 := cell_of_row _ _ 3 _ _ _ R0.out
            go_wp2
            go_ret
            exact ⟨by rw [KO.out]; rfl, A0.out⟩
          | true =>
            cases h5 : decide (r3 <= r4) with
            | false =>
              have KO : Hid (vB n (r1, r2, r3, r4) = false) := VE.out.trans (by rw [h0, h1, h2, h3, h4, h5] <;> rfl)
              clear VE
              go_enter Tryz.func77, Tryz.ntmps77
              go_upto_region 1 with fail
              generalize hW : World.alloc w _ = W0 at *
              obtain ⟨gw, hgw⟩ : ∃ g, w.heap.size = g := ⟨_, rfl⟩
              rw [hgw] at R0 ⊢
              clear hgw hW
              have x0 := cell_of_row _ _ 0 _ _ _ R0.out
              have x1 := cell_of_row _ _ 1 _ _ _ R0.out
              have x2 := cell_of_row _ _ 2 _ _ _ R0.out
              have x3 := cell_of_row _ _ 3 _ _ _ R0.out
              go_wp2
              go_ret
              exact ⟨by rw [KO.out]; rfl, A0.out⟩
            | true =>
              have KO : Hid (vB n (r1, r2, r3, r4) = true) := VE.out.trans (by rw [h0, h1, h2, h3, h4, h5] <;> rfl)
              clear VE
              go_enter Tryz.func77, Tryz.ntmps77
              go_upto_region 1 with fail
              generalize hW : World.alloc w _ = W0 at *
              obtain ⟨gw, hgw⟩ : ∃ g, w.heap.size = g := ⟨_, rfl⟩
              rw [hgw] at R0 ⊢
              clear hgw hW
              have x0 := cell_of_row _ _ 0 _ _ _ R0.out
              have x1 := cell_of_row _ _ 1 _ _ _ R0.out
              have x2 := cell_of_row _ _ 2 _ _ _ R0.out
              have x3 := cell_of_row _ _ 3 _ _ _ R0.out
              go_wp2
              go_ret
              exact ⟨by rw [KO.out]; rfl, A0.out⟩
end Rn
end Go.Proofs.YtdigecacmibkpaaGreatDoor
