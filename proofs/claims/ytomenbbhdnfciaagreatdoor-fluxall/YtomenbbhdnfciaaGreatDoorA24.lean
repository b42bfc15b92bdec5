/-
  Some of the texts of this proof, one behind the other.
-/
import Derived.Deep.QuietTactic
import Derived.Test.YtomenbbhdnfciaaGreatDoorA23
namespace Go.Proofs.YtomenbbhdnfciaaGreatDoor
open Go.RowKit Tf Cu Go.Deep
attribute [local go_sem] run_bits run_from raw_feq raw_fne raw_flt raw_fgt run_neg run_store_float
/-- what All is to answer of no net -/
def AllN : Prop := ∀ (sd : Int) (dt gr dr : Nat) (lim : Int) (rv : Bool) (pr : Option Addr) (lr cr : Nat) (pb pw pt ps : Option Addr) (lb cb lw cw lt ct ls cs : Nat) (sky st : Int) (w : World), Calls Tryz.prog 8 #[.pointer none, .agg #[.int .i64 sd, .float .f64 dt, .float .f64 gr, .float .f64 dr, .int .i64 lim, .bool rv, .slice pr lr cr], .agg #[.slice pb lb cb, .slice pw lw cw, .slice pt lt ct, .slice ps ls cs, .int .i64 sky, .int .i64 st]] w fun e w' => e = .returned (.tuple #[.slice none 0 0, .int .i64 2]) ∧ Below w.heap.size w w'
set_option maxRecDepth 100000 in
set_option maxHeartbeats 8000000 in
theorem fa13_no (side : Int) (sd : Int) (dt gr dr : Nat) (lim : Int) (rv : Bool) (pr : Option Addr) (lr cr : Nat) (pb pw pt ps : Option Addr) (lb cb lw cw lt ct ls cs : Nat) (sky st : Int) (w : World)
    (LV : Hid (∀ v, Ab w v → Calls Tryz.prog 5 #[] v fun e w' => e = .returned (.bool true) ∧ Below v.heap.size v w'))
    (NI : Hid (∀ v, Ab w v → Calls Tryz.prog 8 #[.pointer none, .agg #[.int .i64 sd, .float .f64 dt, .float .f64 gr, .float .f64 dr, .int .i64 lim, .bool rv, .slice pr lr cr], .agg #[.slice pb lb cb, .slice pw lw cw, .slice pt lt ct, .slice ps ls cs, .int .i64 sky, .int .i64 st]] v fun e w' => e = .returned (.tuple #[.slice none 0 0, .int .i64 2]) ∧ Below v.heap.size v w'))
    (NG : Hid (∀ v, Ab w v → Calls Tryz.prog 9 #[.int .i64 side] v fun e' w' => ∃ gp, e' = .returned (.tuple #[gp, .int .i64 10]) ∧ Below v.heap.size v w'))
    (NR : Hid (∀ v, Ab w v → Calls Tryz.prog 10 #[.int .i64 side] v fun e' w' => ∃ gp, e' = .returned (.tuple #[gp, .int .i64 10]) ∧ Below v.heap.size v w')) :
    Calls Tryz.prog 4 #[.int .i64 side, .agg #[.int .i64 sd, .float .f64 dt, .float .f64 gr, .float .f64 dr, .int .i64 lim, .bool rv, .slice pr lr cr], .agg #[.slice pb lb cb, .slice pw lw cw, .slice pt lt ct, .slice ps ls cs, .int .i64 sky, .int .i64 st]] w fun e w' => e = .returned (.bool true) ∧ Below w.heap.size w w' := by
  have A0 : Hid (Ab w ((w.alloc (.cells #[.int .i64 sd, .float .f64 dt, .float .f64 gr, .float .f64 dr, .int .i64 lim, .bool rv, .slice pr lr cr] 31)).alloc (.cells #[.slice pb lb cb, .slice pw lw cw, .slice pt lt ct, .slice ps ls cs, .int .i64 sky, .int .i64 st] 35))) := bl2 _ _ _
  have RP : Hid (((w.alloc (.cells #[.int .i64 sd, .float .f64 dt, .float .f64 gr, .float .f64 dr, .int .i64 lim, .bool rv, .slice pr lr cr] 31)).alloc (.cells #[.slice pb lb cb, .slice pw lw cw, .slice pt lt ct, .slice ps ls cs, .int .i64 sky, .int .i64 st] 35)).heap[w.heap.size]? = some (.cells #[.int .i64 sd, .float .f64 dt, .float .f64 gr, .float .f64 dr, .int .i64 lim, .bool rv, .slice pr lr cr] 31)) := heap_alloc2_old _ _ _
  have RO : Hid (((w.alloc (.cells #[.int .i64 sd, .float .f64 dt, .float .f64 gr, .float .f64 dr, .int .i64 lim, .bool rv, .slice pr lr cr] 31)).alloc (.cells #[.slice pb lb cb, .slice pw lw cw, .slice pt lt ct, .slice ps ls cs, .int .i64 sky, .int .i64 st] 35)).heap[w.heap.size + 1]? = some (.cells #[.slice pb lb cb, .slice pw lw cw, .slice pt lt ct, .slice ps ls cs, .int .i64 sky, .int .i64 st] 35)) := heap_alloc2_new _ _ _
  go_enter Tryz.func4, Tryz.ntmps4
  go_wp2_with fail
  refine (LV.out _ A0.out).mono ?_
  rintro e9 v1 ⟨rfl, k1⟩
  have A1 : Hid (Ab w v1) := A0.out.call k1
  replace RP : Hid (v1.heap[w.heap.size]? = some (.cells #[.int .i64 sd, .float .f64 dt, .float .f64 gr, .float .f64 dr, .int .i64 lim, .bool rv, .slice pr lr cr] 31)) := Ab.heap k1 RP.out
  replace RO : Hid (v1.heap[w.heap.size + 1]? = some (.cells #[.slice pb lb cb, .slice pw lw cw, .slice pt lt ct, .slice ps ls cs, .int .i64 sky, .int .i64 st] 35)) := Ab.heap k1 RO.out
  clear k1 A0
  have p0 := cell_of_row _ _ 0 _ _ _ RP.out
  have p1 := cell_of_row _ _ 1 _ _ _ RP.out
  have p2 := cell_of_row _ _ 2 _ _ _ RP.out
  have p3 := cell_of_row _ _ 3 _ _ _ RP.out
  have p4 := cell_of_row _ _ 4 _ _ _ RP.out
  have p5 := cell_of_row _ _ 5 _ _ _ RP.out
  have p6 := cell_of_row _ _ 6 _ _ _ RP.out
  have s0 := cell_of_row _ _ 0 _ _ _ RO.out
  have s1 := cell_of_row _ _ 1 _ _ _ RO.out
  have s2 := cell_of_row _ _ 2 _ _ _ RO.out
  have s3 := cell_of_row _ _ 3 _ _ _ RO.out
  have s4 := cell_of_row _ _ 4 _ _ _ RO.out
  have s5 := cell_of_row _ _ 5 _ _ _ RO.out
  go_wp2_with fail
  refine (NI.out _ A1.out).mono ?_
  rintro e9 v2 ⟨rfl, k2⟩
  have A2 : Hid (Ab w v2) := A1.out.call k2
  replace RP : Hid (v2.heap[w.heap.size]? = some (.cells #[.int .i64 sd, .float .f64 dt, .float .f64 gr, .float .f64 dr, .int .i64 lim, .bool rv, .slice pr lr cr] 31)) := Ab.heap k2 RP.out
  replace RO : Hid (v2.heap[w.heap.size + 1]? = some (.cells #[.slice pb lb cb, .slice pw lw cw, .slice pt lt ct, .slice ps ls cs, .int .i64 sky, .int .i64 st] 35)) := Ab.heap k2 RO.out
  clear k2 A1
  clear p0 p1 p2 p3 p4 p5 p6 s0 s1 s2 s3 s4 s5
  go_wp2_with fail
  refine (NG.out _ A2.out).mono ?_
  rintro e9 v3 ⟨gp, rfl, k3⟩
  have A3 : Hid (Ab w v3) := A2.out.call k3
  replace RP : Hid (v3.heap[w.heap.size]? = some (.cells #[.int .i64 sd, .float .f64 dt, .float .f64 gr, .float .f64 dr, .int .i64 lim, .bool rv, .slice pr lr cr] 31)) := Ab.heap k3 RP.out
  replace RO : Hid (v3.heap[w.heap.size + 1]? = some (.cells #[.slice pb lb cb, .slice pw lw cw, .slice pt lt ct, .slice ps ls cs, .int .i64 sky, .int .i64 st] 35)) := Ab.heap k3 RO.out
  clear k3 A2
  go_wp2_with fail
  refine (NR.out _ A3.out).mono ?_
  rintro e9 v4 ⟨rp, rfl, k4⟩
  have A4 : Hid (Ab w v4) := A3.out.call k4
  replace RP : Hid (v4.heap[w.heap.size]? = some (.cells #[.int .i64 sd, .float .f64 dt, .float .f64 gr, .float .f64 dr, .int .i64 lim, .bool rv, .slice pr lr cr] 31)) := Ab.heap k4 RP.out
  replace RO : Hid (v4.heap[w.heap.size + 1]? = some (.cells #[.slice pb lb cb, .slice pw lw cw, .slice pt lt ct, .slice ps ls cs, .int .i64 sky, .int .i64 st] 35)) := Ab.heap k4 RO.out
  clear k4 A3
  go_wp2
  go_ret
  exact ⟨rfl, A4.out⟩
set_option maxRecDepth 100000 in
set_option maxHeartbeats 8000000 in
theorem fa13_go (side : Int) (sd : Int) (dt gr dr : Nat) (lim : Int) (rv : Bool) (pr : Option Addr) (lr cr : Nat) (pb pw pt ps : Option Addr) (lb cb lw cw lt ct ls cs : Nat) (sky st : Int) (len : Nat) (D : Nat → Int) (e2 : Int) (w : World) (hl : Hid (len ≤ 281474976710656))
    (LV : Hid (∀ v, Ab w v → Calls Tryz.prog 5 #[] v fun e w' => e = .returned (.bool true) ∧ Below v.heap.size v w'))
    (NI : Hid (∀ v, Ab w v → Calls Tryz.prog 8 #[.pointer none, .agg #[.int .i64 sd, .float .f64 dt, .float .f64 gr, .float .f64 dr, .int .i64 lim, .bool rv, .slice pr lr cr], .agg #[.slice pb lb cb, .slice pw lw cw, .slice pt lt ct, .slice ps ls cs, .int .i64 sky, .int .i64 st]] v fun e w' => e = .returned (.tuple #[.slice none 0 0, .int .i64 2]) ∧ Below v.heap.size v w'))
    (NG : Hid (∀ v, Ab w v → Calls Tryz.prog 9 #[.int .i64 side] v fun e' w' => ∃ gp, e' = .returned (.tuple #[gp, .int .i64 0]) ∧ Below v.heap.size v w' ∧ Hid (∀ v, Ab w' v → Calls Tryz.prog 8 #[gp, .agg #[.int .i64 sd, .float .f64 dt, .float .f64 gr, .float .f64 dr, .int .i64 lim, .bool rv, .slice pr lr cr], .agg #[.slice pb lb cb, .slice pw lw cw, .slice pt lt ct, .slice ps ls cs, .int .i64 sky, .int .i64 st]] v fun e w' => ∃ a0 cap, e = .returned (.tuple #[.slice a0 len cap, .int .i64 e2]) ∧ Below v.heap.size v w' ∧ IsIn w' a0 len D)))
    (NR : Hid (∀ v, Ab w v → Calls Tryz.prog 10 #[.int .i64 side] v fun e' w' => ∃ gp, e' = .returned (.tuple #[gp, .int .i64 0]) ∧ Below v.heap.size v w' ∧ Hid (∀ v, Ab w' v → Calls Tryz.prog 11 #[gp, .agg #[.int .i64 sd, .float .f64 dt, .float .f64 gr, .float .f64 dr, .int .i64 lim, .bool rv, .slice pr lr cr], .agg #[.slice pb lb cb, .slice pw lw cw, .slice pt lt ct, .slice ps ls cs, .int .i64 sky, .int .i64 st]] v fun e w' => ∃ a0 cap, e = .returned (.tuple #[.slice a0 len cap, .int .i64 e2]) ∧ Below v.heap.size v w' ∧ IsIn w' a0 len D))) :
    Calls Tryz.prog 4 #[.int .i64 side, .agg #[.int .i64 sd, .float .f64 dt, .float .f64 gr, .float .f64 dr, .int .i64 lim, .bool rv, .slice pr lr cr], .agg #[.slice pb lb cb, .slice pw lw cw, .slice pt lt ct, .slice ps ls cs, .int .i64 sky, .int .i64 st]] w fun e w' => e = .returned (.bool true) ∧ Below w.heap.size w w' := by
  have A0 : Hid (Ab w ((w.alloc (.cells #[.int .i64 sd, .float .f64 dt, .float .f64 gr, .float .f64 dr, .int .i64 lim, .bool rv, .slice pr lr cr] 31)).alloc (.cells #[.slice pb lb cb, .slice pw lw cw, .slice pt lt ct, .slice ps ls cs, .int .i64 sky, .int .i64 st] 35))) := bl2 _ _ _
  have RP : Hid (((w.alloc (.cells #[.int .i64 sd, .float .f64 dt, .float .f64 gr, .float .f64 dr, .int .i64 lim, .bool rv, .slice pr lr cr] 31)).alloc (.cells #[.slice pb lb cb, .slice pw lw cw, .slice pt lt ct, .slice ps ls cs, .int .i64 sky, .int .i64 st] 35)).heap[w.heap.size]? = some (.cells #[.int .i64 sd, .float .f64 dt, .float .f64 gr, .float .f64 dr, .int .i64 lim, .bool rv, .slice pr lr cr] 31)) := heap_alloc2_old _ _ _
  have RO : Hid (((w.alloc (.cells #[.int .i64 sd, .float .f64 dt, .float .f64 gr, .float .f64 dr, .int .i64 lim, .bool rv, .slice pr lr cr] 31)).alloc (.cells #[.slice pb lb cb, .slice pw lw cw, .slice pt lt ct, .slice ps ls cs, .int .i64 sky, .int .i64 st] 35)).heap[w.heap.size + 1]? = some (.cells #[.slice pb lb cb, .slice pw lw cw, .slice pt lt ct, .slice ps ls cs, .int .i64 sky, .int .i64 st] 35)) := heap_alloc2_new _ _ _
  go_enter Tryz.func4, Tryz.ntmps4
  go_wp2_with fail
  refine (LV.out _ A0.out).mono ?_
  rintro e9 v1 ⟨rfl, k1⟩
  have A1 : Hid (Ab w v1) := A0.out.call k1
  replace RP : Hid (v1.heap[w.heap.size]? = some (.cells #[.int .i64 sd, .float .f64 dt, .float .f64 gr, .float .f64 dr, .int .i64 lim, .bool rv, .slice pr lr cr] 31)) := Ab.heap k1 RP.out
  replace RO : Hid (v1.heap[w.heap.size + 1]? = some (.cells #[.slice pb lb cb, .slice pw lw cw, .slice pt lt ct, .slice ps ls cs, .int .i64 sky, .int .i64 st] 35)) := Ab.heap k1 RO.out
  clear k1 A0
  have p0 := cell_of_row _ _ 0 _ _ _ RP.out
  have p1 := cell_of_row _ _ 1 _ _ _ RP.out
  have p2 := cell_of_row _ _ 2 _ _ _ RP.out
  have p3 := cell_of_row _ _ 3 _ _ _ RP.out
  have p4 := cell_of_row _ _ 4 _ _ _ RP.out
  have p5 := cell_of_row _ _ 5 _ _ _ RP.out
  have p6 := cell_of_row _ _ 6 _ _ _ RP.out
  have s0 := cell_of_row _ _ 0 _ _ _ RO.out
  have s1 := cell_of_row _ _ 1 _ _ _ RO.out
  have s2 := cell_of_row _ _ 2 _ _ _ RO.out
  have s3 := cell_of_row _ _ 3 _ _ _ RO.out
  have s4 := cell_of_row _ _ 4 _ _ _ RO.out
  have s5 := cell_of_row _ _ 5 _ _ _ RO.out
  go_wp2_with fail
  refine (NI.out _ A1.out).mono ?_
  rintro e9 v2 ⟨rfl, k2⟩
  have A2 : Hid (Ab w v2) := A1.out.call k2
  replace RP : Hid (v2.heap[w.heap.size]? = some (.cells #[.int .i64 sd, .float .f64 dt, .float .f64 gr, .float .f64 dr, .int .i64 lim, .bool rv, .slice pr lr cr] 31)) := Ab.heap k2 RP.out
  replace RO : Hid (v2.heap[w.heap.size + 1]? = some (.cells #[.slice pb lb cb, .slice pw lw cw, .slice pt lt ct, .slice ps ls cs, .int .i64 sky, .int .i64 st] 35)) := Ab.heap k2 RO.out
  clear k2 A1
  clear p0 p1 p2 p3 p4 p5 p6 s0 s1 s2 s3 s4 s5
  go_wp2_with fail
  refine (NG.out _ A2.out).mono ?_
  rintro e9 v3 ⟨gp, rfl, k3, D1⟩
  have A3 : Hid (Ab w v3) := A2.out.call k3
  replace RP : Hid (v3.heap[w.heap.size]? = some (.cells #[.int .i64 sd, .float .f64 dt, .float .f64 gr, .float .f64 dr, .int .i64 lim, .bool rv, .slice pr lr cr] 31)) := Ab.heap k3 RP.out
  replace RO : Hid (v3.heap[w.heap.size + 1]? = some (.cells #[.slice pb lb cb, .slice pw lw cw, .slice pt lt ct, .slice ps ls cs, .int .i64 sky, .int .i64 st] 35)) := Ab.heap k3 RO.out
  clear k3 A2
  go_wp2_with fail
  refine (NR.out _ A3.out).mono ?_
  rintro e9 v4 ⟨rp, rfl, k4, R1⟩
  have A4 : Hid (Ab w v4) := A3.out.call k4
  replace RP : Hid (v4.heap[w.heap.size]? = some (.cells #[.int .i64 sd, .float .f64 dt, .float .f64 gr, .float .f64 dr, .int .i64 lim, .bool rv, .slice pr lr cr] 31)) := Ab.heap k4 RP.out
  replace RO : Hid (v4.heap[w.heap.size + 1]? = some (.cells #[.slice pb lb cb, .slice pw lw cw, .slice pt lt ct, .slice ps ls cs, .int .i64 sky, .int .i64 st] 35)) := Ab.heap k4 RO.out
  have D1' := hid (D1.out v4 k4)
  clear k4 A3 D1
  have p0 := cell_of_row _ _ 0 _ _ _ RP.out
  have p1 := cell_of_row _ _ 1 _ _ _ RP.out
  have p2 := cell_of_row _ _ 2 _ _ _ RP.out
  have p3 := cell_of_row _ _ 3 _ _ _ RP.out
  have p4 := cell_of_row _ _ 4 _ _ _ RP.out
  have p5 := cell_of_row _ _ 5 _ _ _ RP.out
  have p6 := cell_of_row _ _ 6 _ _ _ RP.out
  have s0 := cell_of_row _ _ 0 _ _ _ RO.out
  have s1 := cell_of_row _ _ 1 _ _ _ RO.out
  have s2 := cell_of_row _ _ 2 _ _ _ RO.out
  have s3 := cell_of_row _ _ 3 _ _ _ RO.out
  have s4 := cell_of_row _ _ 4 _ _ _ RO.out
  have s5 := cell_of_row _ _ 5 _ _ _ RO.out
  go_wp2_with fail
  refine D1'.out.mono ?_
  rintro e9 v5 ⟨a0, ca, rfl, k5, f5⟩
  have A5 : Hid (Ab w v5) := A4.out.call k5
  replace RP : Hid (v5.heap[w.heap.size]? = some (.cells #[.int .i64 sd, .float .f64 dt, .float .f64 gr, .float .f64 dr, .int .i64 lim, .bool rv, .slice pr lr cr] 31)) := Ab.heap k5 RP.out
  replace RO : Hid (v5.heap[w.heap.size + 1]? = some (.cells #[.slice pb lb cb, .slice pw lw cw, .slice pt lt ct, .slice ps ls cs, .int .i64 sky, .int .i64 st] 35)) := Ab.heap k5 RO.out
  have F5 := hid f5
  have R1' := hid (R1.out v5 k5)
  clear k5 A4 D1' f5 R1
  clear p0 p1 p2 p3 p4 p5 p6 s0 s1 s2 s3 s4 s5
  have p0 := cell_of_row _ _ 0 _ _ _ RP.out
  have p1 := cell_of_row _ _ 1 _ _ _ RP.out
  have p2 := cell_of_row _ _ 2 _ _ _ RP.out
  have p3 := cell_of_row _ _ 3 _ _ _ RP.out
  have p4 := cell_of_row _ _ 4 _ _ _ RP.out
  have p5 := cell_of_row _ _ 5 _ _ _ RP.out
  have p6 := cell_of_row _ _ 6 _ _ _ RP.out
  have s0 := cell_of_row _ _ 0 _ _ _ RO.out
  have s1 := cell_of_row _ _ 1 _ _ _ RO.out
  have s2 := cell_of_row _ _ 2 _ _ _ RO.out
  have s3 := cell_of_row _ _ 3 _ _ _ RO.out
  have s4 := cell_of_row _ _ 4 _ _ _ RO.out
  have s5 := cell_of_row _ _ 5 _ _ _ RO.out
  go_wp2_with fail
  refine R1'.out.mono ?_
  rintro e9 v6 ⟨b0, cb0, rfl, k6, f6⟩
  have A6 : Hid (Ab w v6) := A5.out.call k6
  replace RP : Hid (v6.heap[w.heap.size]? = some (.cells #[.int .i64 sd, .float .f64 dt, .float .f64 gr, .float .f64 dr, .int .i64 lim, .bool rv, .slice pr lr cr] 31)) := Ab.heap k6 RP.out
  replace RO : Hid (v6.heap[w.heap.size + 1]? = some (.cells #[.slice pb lb cb, .slice pw lw cw, .slice pt lt ct, .slice ps ls cs, .int .i64 sky, .int .i64 st] 35)) := Ab.heap k6 RO.out
  have F6 := hid f6
  have F7 := hid (F5.out.below k6)
  clear k6 A5 R1' f6 F5
  clear p0 p1 p2 p3 p4 p5 p6 s0 s1 s2 s3 s4 s5
  go_wp2_with fail
  refine (ints13_at a0 b0 len ca cb0 D v6 hl.out F7.out F6.out).mono ?_
  rintro e9 v7 ⟨rfl, k7⟩
  have A7 : Hid (Ab w v7) := A6.out.call k7
  clear k7
  go_wp2
  go_ret
  exact ⟨rfl, A7.out⟩
theorem edges_n13 {n : Nat} (hn : 1 ≤ n ∧ n ≤ 32) : 1 ≤ 12 * n * n ∧ 12 * n * n ≤ 12288 := by
  have h := Nat.mul_le_mul hn.2 hn.2
  have h2 := Nat.mul_le_mul hn.1 hn.1
  rw [Nat.mul_assoc]
  omega
theorem flB_in {n : Nat} {lim : Int} {B : Nat → Nat} {Wt : Nat → Int} {Sp : Nat → Nat} {dt : Nat} {pb pw ps : Option Addr} {w : World} (hn : 1 ≤ n ∧ n ≤ 32) (hB : IsFl w pb (6 * n * n) B) (hW : IsIn w pw (6 * n * n) Wt) (hS : IsFl w ps (12 * n * n) Sp) (hdt : dt < 18446744073709551616) (i : Nat) (hi : i < 12 * n * n) : -9223372036854775808 ≤ flB n lim B Wt Sp dt i ∧ flB n lim B Wt Sp dt i ≤ 9223372036854775807 := by
  unfold flB
  have h := qn_in (t := dt) (hS i hi).1 (rdAll_lt13 (k := lim) (lb := 6 * n * n) (lw := 6 * n * n) hn.1 (fun i hi => (hB i hi).1) (fun i hi => (hW i hi).1.2) (i : Nat) (Sp i)).1 (show lnE n i < 18446744073709551616 by have := lnE_in hn hi; omega) hdt
  generalize qnB _ _ _ _ = z at *
  omega
set_option maxRecDepth 100000 in
theorem rall13_at {n rb : Nat} (sd : Int) (dt gr dr : Nat) (lim : Int) (rv : Bool) (pr : Option Addr) (lr cr : Nat) {pb : Option Addr} {lb cb : Nat} {B : Nat → Nat} {pw : Option Addr} {lw cw : Nat} {Wt : Nat → Int} (pt : Option Addr) (lt ct : Nat) {ps : Option Addr} {ls cs : Nat} {Sp : Nat → Nat} (sky st : Int) (w : World) (hn : 1 ≤ n ∧ n ≤ 32) (g : RefOf n rb w) (hB : IsFl w pb lb B) (hW : IsIn w pw lw Wt) (hS : IsFl w ps ls Sp) (hdt : dt < 18446744073709551616) :
    ((lb = 6 * n * n ∧ lw = 6 * n * n ∧ lt = 6 * n * n ∧ ls = 12 * n * n) → Calls Tryz.prog 11 #[.pointer (some ⟨rb, 0, none⟩), .agg #[.int .i64 sd, .float .f64 dt, .float .f64 gr, .float .f64 dr, .int .i64 lim, .bool rv, .slice pr lr cr], .agg #[.slice pb lb cb, .slice pw lw cw, .slice pt lt ct, .slice ps ls cs, .int .i64 sky, .int .i64 st]] w fun e w' => ∃ a0 cap, e = .returned (.tuple #[.slice a0 (12 * n * n) cap, .int .i64 0]) ∧ Below w.heap.size w w' ∧ IsIn w' a0 (12 * n * n) (fun i => flB n lim B Wt Sp dt i)) ∧
    (¬ (lb = 6 * n * n ∧ lw = 6 * n * n ∧ lt = 6 * n * n ∧ ls = 12 * n * n) → Calls Tryz.prog 11 #[.pointer (some ⟨rb, 0, none⟩), .agg #[.int .i64 sd, .float .f64 dt, .float .f64 gr, .float .f64 dr, .int .i64 lim, .bool rv, .slice pr lr cr], .agg #[.slice pb lb cb, .slice pw lw cw, .slice pt lt ct, .slice ps ls cs, .int .i64 sky, .int .i64 st]] w fun e w' => e = .returned (.tuple #[.slice none 0 0, .int .i64 1]) ∧ Below w.heap.size w w') := by
  have en := edges_n13 hn
  have CC : Hid (∀ v, Ab w v → Calls Tryz.prog 60 #[.pointer (some ⟨rb, 0, none⟩)] v fun e w' => e = .returned (.int .i64 (6 * n * n : Nat)) ∧ Below v.heap.size v w') := fun v hv => (rCells_at hn (g.to hv)).mono fun _ _ h => ⟨h.1, by obtain ⟨_, rfl⟩ := h; exact Below.refl _ _⟩
  have CE : Hid (∀ v, Ab w v → Calls Tryz.prog 32 #[.pointer (some ⟨rb, 0, none⟩)] v fun e w' => e = .returned (.int .i64 (12 * n * n : Nat)) ∧ Below v.heap.size v w') := fun v hv => (rEdges_at (g.to hv)).mono fun _ _ h => ⟨h.1, by obtain ⟨_, rfl⟩ := h; exact Below.refl _ _⟩
  refine ⟨fun fit => ?_, fun no => ?_⟩
  · obtain ⟨rfl, rfl, rfl, rfl⟩ := fit
    obtain ⟨sb, so, rfl⟩ := hS.some0 (by omega)
    exact rall13_go rb sd dt gr dr lim rv pr lr cr pb pw pt (6 * n * n) cb cw ct sb so cs sky st (12 * n * n) Sp (fun i => rdAll n lim (6 * n * n) (6 * n * n) B Wt (i : Nat) (Sp i)) (fun i => lnE n i) (fun i => flB n lim B Wt Sp dt i) w (by omega) (fun i hi => flB_in hn hB hW hS hdt i hi) CE
      (fun v hv => rfits13_at rb pb pw pt _ _ cb _ cw _ ct _ cs sky st (6 * n * n) (12 * n * n) true v (.inr (.inr (.inr ⟨by simp, by simp, by simp, by simp⟩))) (fun u hu => CC.out u (hv.trans hu)) (fun u hu => CE.out u (hv.trans hu)))
      (fun c hc v hv => (Below.cell hv (hS.at0 hc).2.1).trans (hS.at0 hc).2.2)
      (fun c hc v hv => rdepth12_at lim pt _ ct _ _ cs sky st (c : Nat) (Sp c) v hn (g.to hv) (hB.below hv) (hW.below hv) (hS.at0 hc).1)
      (fun c hc v hv => by
        obtain ⟨t1, t2, t3⟩ := edT_spec hn.1 hc
        have h := rLength_ok hn t1 t2 (g.to hv)
        rw [t3] at h
        exact h)
      (fun c hc v => rquanta13_at _ _ _ _ v (hS.at0 hc).1 (rdAll_lt13 hn.1 (fun i hi => (hB i hi).1) (fun i hi => (hW i hi).1.2) _ _).1 (by have := lnE_in hn hc; omega) hdt)
  · refine rall13_no rb sd dt gr dr lim rv pr lr cr pb pw pt ps lb cb lw cw lt ct ls cs sky st w (fun v hv => rfits13_at rb pb pw pt ps lb cb lw cw lt ct ls cs sky st (6 * n * n) (12 * n * n) false v ?_ (fun u hu => CC.out u (hv.trans hu)) (fun u hu => CE.out u (hv.trans hu)))
    by_cases c1 : lb = 6 * n * n
    · by_cases c2 : lw = 6 * n * n
      · by_cases c3 : lt = 6 * n * n
        · exact .inr (.inr (.inr ⟨by rw [c1]; simp, by rw [c2]; simp, by rw [c3]; simp, by rw [beq_eq_false_iff_ne]; exact fun h => no ⟨c1, c2, c3, by omega⟩⟩))
        · exact .inr (.inr (.inl ⟨by rw [c1]; simp, by rw [c2]; simp, by rw [beq_eq_false_iff_ne]; omega, rfl⟩))
      · exact .inr (.inl ⟨by rw [c1]; simp, by rw [beq_eq_false_iff_ne]; omega, rfl⟩)
    · exact .inl ⟨by rw [beq_eq_false_iff_ne]; omega, rfl⟩
theorem fa13_at (QC : QuantaC) (AC : AllC) (AN : AllN) (side : Int) (sd : Int) (dt gr dr : Nat) (lim : Int) (rv : Bool) (pr : Option Addr) (lr cr : Nat) {pb pw pt ps : Option Addr} {lb cb lw cw lt ct ls cs : Nat} {B : Nat → Nat} {Wt Tr : Nat → Int} {Sp : Nat → Nat} (sky st : Int) (w : World) (hF : Fr w) (sea : SeaAt w pb lb cb B pw lw cw Wt pt lt ct Tr ps ls cs Sp) (hdt : dt < 18446744073709551616) :
    Calls Tryz.prog 4 #[.int .i64 side, .agg #[.int .i64 sd, .float .f64 dt, .float .f64 gr, .float .f64 dr, .int .i64 lim, .bool rv, .slice pr lr cr], .agg #[.slice pb lb cb, .slice pw lw cw, .slice pt lt ct, .slice ps ls cs, .int .i64 sky, .int .i64 st]] w fun e w' => e = .returned (.bool true) ∧ Below w.heap.size w w' := by
  have LV : Hid (∀ v, Ab w v → Calls Tryz.prog 5 #[] v fun e w' => e = .returned (.bool true) ∧ Below v.heap.size v w') := fun v hv => lives13_at QC AC v (hF.to hv)
  have NI : Hid (∀ v, Ab w v → Calls Tryz.prog 8 #[.pointer none, .agg #[.int .i64 sd, .float .f64 dt, .float .f64 gr, .float .f64 dr, .int .i64 lim, .bool rv, .slice pr lr cr], .agg #[.slice pb lb cb, .slice pw lw cw, .slice pt lt ct, .slice ps ls cs, .int .i64 sky, .int .i64 st]] v fun e w' => e = .returned (.tuple #[.slice none 0 0, .int .i64 2]) ∧ Below v.heap.size v w') := fun v _ => AN sd dt gr dr lim rv pr lr cr pb pw pt ps lb cb lw cw lt ct ls cs sky st v
  by_cases h : 1 ≤ side ∧ side ≤ 32
  · obtain ⟨n, rfl⟩ := Int.eq_ofNat_of_zero_le (show 0 ≤ side by omega)
    have hn : 1 ≤ n ∧ n ≤ 32 := by omega
    have en := edges_n13 hn
    by_cases fit : lb = 6 * n * n ∧ lw = 6 * n * n ∧ lt = 6 * n * n ∧ ls = 12 * n * n
    · refine fa13_go n sd dt gr dr lim rv pr lr cr pb pw pt ps lb cb lw cw lt ct ls cs sky st (12 * n * n) (fun i => flB n lim B Wt Sp dt i) 0 w (show _ ≤ _ by omega) LV NI ?_ ?_
      · intro v hv
        refine (new_at n v hn (hF.to hv)).mono ?_
        rintro e' w' ⟨gb, rfl, a, -, g⟩
        refine ⟨_, rfl, a, fun z hz => ?_⟩
        have q := hv.trans (a.trans hz)
        refine ((AC n gb sd dt gr dr lim rv pr lr cr pb lb cb B pw lw cw Wt pt lt ct ps ls cs Sp sky st z hn (g.to hz) (sea.bed.below q) (sea.water.below q) (sea.speed.below q) hdt).1 fit).mono ?_
        rintro e2 w2 ⟨b, rfl, k2, r, -⟩
        obtain ⟨rfl, rfl, rfl, rfl⟩ := fit
        exact ⟨_, _, rfl, k2, rowIs.in r (fun i hi => flB_in hn sea.bed sea.water sea.speed hdt i hi)⟩
      · intro v hv
        refine (rnew_at n v hn).mono ?_
        rintro e' w' ⟨rb, ab, es, rfl, a, re⟩
        have g := RE.all hn.1 re
        refine ⟨_, rfl, a, fun z hz => ?_⟩
        have q := hv.trans (a.trans hz)
        exact (rall13_at sd dt gr dr lim rv pr lr cr pt lt ct sky st z hn (g.to hz) (sea.bed.below q) (sea.water.below q) (sea.speed.below q) hdt).1 fit
    · refine fa13_go n sd dt gr dr lim rv pr lr cr pb pw pt ps lb cb lw cw lt ct ls cs sky st 0 (fun _ => 0) 1 w (show 0 ≤ _ by omega) LV NI ?_ ?_
      · intro v hv
        refine (new_at n v hn (hF.to hv)).mono ?_
        rintro e' w' ⟨gb, rfl, a, -, g⟩
        refine ⟨_, rfl, a, fun z hz => ?_⟩
        have q := hv.trans (a.trans hz)
        refine ((AC n gb sd dt gr dr lim rv pr lr cr pb lb cb B pw lw cw Wt pt lt ct ps ls cs Sp sky st z hn (g.to hz) (sea.bed.below q) (sea.water.below q) (sea.speed.below q) hdt).2 fit).mono ?_
        rintro e2 w2 ⟨rfl, k2⟩
        exact ⟨_, _, rfl, k2, fun i hi => absurd hi (Nat.not_lt_zero i)⟩
      · intro v hv
        refine (rnew_at n v hn).mono ?_
        rintro e' w' ⟨rb, ab, es, rfl, a, re⟩
        have g := RE.all hn.1 re
        refine ⟨_, rfl, a, fun z hz => ?_⟩
        have q := hv.trans (a.trans hz)
        refine ((rall13_at sd dt gr dr lim rv pr lr cr pt lt ct sky st z hn (g.to hz) (sea.bed.below q) (sea.water.below q) (sea.speed.below q) hdt).2 fit).mono ?_
        rintro e2 w2 ⟨rfl, k2⟩
        exact ⟨_, _, rfl, k2, fun i hi => absurd hi (Nat.not_lt_zero i)⟩
  · refine fa13_no side sd dt gr dr lim rv pr lr cr pb pw pt ps lb cb lw cw lt ct ls cs sky st w LV NI ?_ ?_
    · intro v _
      refine (new_no side v h).mono ?_
      rintro e' w' ⟨rfl, rfl⟩
      exact ⟨_, rfl, Below.refl _ _⟩
    · intro v _
      refine (rnew_no side v h).mono ?_
      rintro e' w' ⟨rfl, rfl⟩
      exact ⟨_, rfl, Below.refl _ _⟩
end Go.Proofs.YtomenbbhdnfciaaGreatDoor

namespace Go.Proofs.YtomenbbhdnfciaaGreatDoor
open Go.RowKit Tf Cu
attribute [local go_sem] run_bits run_from raw_feq raw_fne raw_flt raw_fgt run_neg run_store_float
set_option maxRecDepth 100000 in
set_option maxHeartbeats 8000000 in
theorem fits13_at (gb : Nat) (pb pw pt ps : Option Addr) (lb cb lw cw lt ct ls cs : Nat) (sky st : Int) (M N : Nat) (q : Bool) (w : World)
    (hq : (((lb : Int) == (M : Int)) = false ∧ q = false) ∨ (((lb : Int) == (M : Int)) = true ∧ ((lw : Int) == (M : Int)) = false ∧ q = false) ∨ (((lb : Int) == (M : Int)) = true ∧ ((lw : Int) == (M : Int)) = true ∧ ((lt : Int) == (M : Int)) = false ∧ q = false) ∨ (((lb : Int) == (M : Int)) = true ∧ ((lw : Int) == (M : Int)) = true ∧ ((lt : Int) == (M : Int)) = true ∧ ((ls : Int) == (N : Int)) = q))
    (CC : Hid (∀ v, Ab w v → Calls Tryz.prog 35 #[(.pointer (some ⟨gb, 0, none⟩))] v fun e w' => e = .returned (.int .i64 (M : Nat)) ∧ Below v.heap.size v w'))
    (CE : Hid (∀ v, Ab w v → Calls Tryz.prog 17 #[(.pointer (some ⟨gb, 0, none⟩))] v fun e w' => e = .returned (.int .i64 (N : Nat)) ∧ Below v.heap.size v w')) :
    Calls Tryz.prog 16 #[(.pointer (some ⟨gb, 0, none⟩)), .agg #[.slice pb lb cb, .slice pw lw cw, .slice pt lt ct, .slice ps ls cs, .int .i64 sky, .int .i64 st]] w fun e w' => e = .returned (.bool q) ∧ Below w.heap.size w w' := by
  have A0 : Hid (Ab w (w.alloc (.cells #[.slice pb lb cb, .slice pw lw cw, .slice pt lt ct, .slice ps ls cs, .int .i64 sky, .int .i64 st] 35))) := bl1 _ _
  have RO : Hid ((w.alloc (.cells #[.slice pb lb cb, .slice pw lw cw, .slice pt lt ct, .slice ps ls cs, .int .i64 sky, .int .i64 st] 35)).heap[w.heap.size]? = some (.cells #[.slice pb lb cb, .slice pw lw cw, .slice pt lt ct, .slice ps ls cs, .int .i64 sky, .int .i64 st] 35)) := heap_alloc_new _ _
  go_enter Tryz.func16, Tryz.ntmps16
  go_wp2_with fail
  refine (CC.out _ A0.out).mono ?_
  rintro e9 v1 ⟨rfl, b1⟩
  have A1 : Hid (Ab w v1) := A0.out.call b1
  have R1 : Hid (v1.heap[w.heap.size]? = some (.cells #[.slice pb lb cb, .slice pw lw cw, .slice pt lt ct, .slice ps ls cs, .int .i64 sky, .int .i64 st] 35)) := Ab.heap b1 RO.out
  clear b1 A0 RO
  go_upto_region 2 with fail
  obtain ⟨gs, hgs⟩ : ∃ g, w.heap.size = g := ⟨_, rfl⟩
  rw [hgs] at R1 ⊢
  clear hgs
  rcases hq with ⟨q1, rfl⟩ | ⟨q1, q2, rfl⟩ | ⟨q1, q2, q3, rfl⟩ | ⟨q1, q2, q3, q4⟩
  · obtain ⟨UU, E, hF1, hF2⟩ := cls v1
    have HU := hid hF2
    have HU1 := hid hF1
    have HX : Hid (∀ u, Ab w (E u)) := fun u => Ab.trans A1.out (hF1 u)
    have s0 : ∀ u, (E u).cell? ⟨gs, 0, none⟩ = some (.slice pb lb cb) := fun u => cell_of_row _ _ 0 _ _ _ ((hF1 u).heap R1.out)
    have s1 : ∀ u, (E u).cell? ⟨gs, 1, none⟩ = some (.slice pw lw cw) := fun u => cell_of_row _ _ 1 _ _ _ ((hF1 u).heap R1.out)
    have s2 : ∀ u, (E u).cell? ⟨gs, 2, none⟩ = some (.slice pt lt ct) := fun u => cell_of_row _ _ 2 _ _ _ ((hF1 u).heap R1.out)
    have s3 : ∀ u, (E u).cell? ⟨gs, 3, none⟩ = some (.slice ps ls cs) := fun u => cell_of_row _ _ 3 _ _ _ ((hF1 u).heap R1.out)
    have DD0 := HU.out _ (Ab.refl v1).drew
    clear hF1 hF2
    refine region_cls E (by kernel_rfl) (by kernel_rfl) DD0 ?_
    repeat (go_big_quiet_step (first
      | (with_reducible rfl)
      | (go_at_call 17; exact calls_cls HU HU1 (CE.out _ (HX.out _)))))
    refine wpQuiet_nil ?_
    intro z hwz
    obtain ⟨u0, hu⟩ := hwz
    have AZ : Hid (Ab w z) := by rw [hu]; exact HX.out u0
    clear hu u0
    clear HU HU1 HX DD0 s0 s1 s2 s3
    clear E UU
    go_wp2
    go_ret
    exact ⟨rfl, AZ.out⟩
  · obtain ⟨UU, E, hF1, hF2⟩ := cls v1
    have HU := hid hF2
    have HU1 := hid hF1
    have HX : Hid (∀ u, Ab w (E u)) := fun u => Ab.trans A1.out (hF1 u)
    have s0 : ∀ u, (E u).cell? ⟨gs, 0, none⟩ = some (.slice pb lb cb) := fun u => cell_of_row _ _ 0 _ _ _ ((hF1 u).heap R1.out)
    have s1 : ∀ u, (E u).cell? ⟨gs, 1, none⟩ = some (.slice pw lw cw) := fun u => cell_of_row _ _ 1 _ _ _ ((hF1 u).heap R1.out)
    have s2 : ∀ u, (E u).cell? ⟨gs, 2, none⟩ = some (.slice pt lt ct) := fun u => cell_of_row _ _ 2 _ _ _ ((hF1 u).heap R1.out)
    have s3 : ∀ u, (E u).cell? ⟨gs, 3, none⟩ = some (.slice ps ls cs) := fun u => cell_of_row _ _ 3 _ _ _ ((hF1 u).heap R1.out)
    have DD0 := HU.out _ (Ab.refl v1).drew
    clear hF1 hF2
    refine region_cls E (by kernel_rfl) (by kernel_rfl) DD0 ?_
    repeat (go_big_quiet_step (first
      | (with_reducible rfl)
      | (go_at_call 17; exact calls_cls HU HU1 (CE.out _ (HX.out _)))))
    refine wpQuiet_nil ?_
    intro z hwz
    obtain ⟨u0, hu⟩ := hwz
    have AZ : Hid (Ab w z) := by rw [hu]; exact HX.out u0
    clear hu u0
    clear HU HU1 HX DD0 s0 s1 s2 s3
    clear E UU
    go_wp2
    go_ret
    exact ⟨rfl, AZ.out⟩
  · obtain ⟨UU, E, hF1, hF2⟩ := cls v1
    have HU := hid hF2
    have HU1 := hid hF1
    have HX : Hid (∀ u, Ab w (E u)) := fun u => Ab.trans A1.out (hF1 u)
    have s0 : ∀ u, (E u).cell? ⟨gs, 0, none⟩ = some (.slice pb lb cb) := fun u => cell_of_row _ _ 0 _ _ _ ((hF1 u).heap R1.out)
    have s1 : ∀ u, (E u).cell? ⟨gs, 1, none⟩ = some (.slice pw lw cw) := fun u => cell_of_row _ _ 1 _ _ _ ((hF1 u).heap R1.out)
    have s2 : ∀ u, (E u).cell? ⟨gs, 2, none⟩ = some (.slice pt lt ct) := fun u => cell_of_row _ _ 2 _ _ _ ((hF1 u).heap R1.out)
    have s3 : ∀ u, (E u).cell? ⟨gs, 3, none⟩ = some (.slice ps ls cs) := fun u => cell_of_row _ _ 3 _ _ _ ((hF1 u).heap R1.out)
    have DD0 := HU.out _ (Ab.refl v1).drew
    clear hF1 hF2
    refine region_cls E (by kernel_rfl) (by kernel_rfl) DD0 ?_
    repeat (go_big_quiet_step (first
      | (with_reducible rfl)
      | (go_at_call 17; exact calls_cls HU HU1 (CE.out _ (HX.out _)))))
    refine wpQuiet_nil ?_
    intro z hwz
    obtain ⟨u0, hu⟩ := hwz
    have AZ : Hid (Ab w z) := by rw [hu]; exact HX.out u0
    clear hu u0
    clear HU HU1 HX DD0 s0 s1 s2 s3
    clear E UU
    go_wp2
    go_ret
    exact ⟨rfl, AZ.out⟩
  · obtain ⟨UU, E, hF1, hF2⟩ := cls v1
    have HU := hid hF2
    have HU1 := hid hF1
    have HX : Hid (∀ u, Ab w (E u)) := fun u => Ab.trans A1.out (hF1 u)
    have s0 : ∀ u, (E u).cell? ⟨gs, 0, none⟩ = some (.slice pb lb cb) := fun u => cell_of_row _ _ 0 _ _ _ ((hF1 u).heap R1.out)
    have s1 : ∀ u, (E u).cell? ⟨gs, 1, none⟩ = some (.slice pw lw cw) := fun u => cell_of_row _ _ 1 _ _ _ ((hF1 u).heap R1.out)
    have s2 : ∀ u, (E u).cell? ⟨gs, 2, none⟩ = some (.slice pt lt ct) := fun u => cell_of_row _ _ 2 _ _ _ ((hF1 u).heap R1.out)
    have s3 : ∀ u, (E u).cell? ⟨gs, 3, none⟩ = some (.slice ps ls cs) := fun u => cell_of_row _ _ 3 _ _ _ ((hF1 u).heap R1.out)
    have DD0 := HU.out _ (Ab.refl v1).drew
    clear hF1 hF2
    refine region_cls E (by kernel_rfl) (by kernel_rfl) DD0 ?_
    repeat (go_big_quiet_step (first
      | (with_reducible rfl)
      | (go_at_call 17; exact calls_cls HU HU1 (CE.out _ (HX.out _)))))
    refine wpQuiet_nil ?_
    intro z hwz
    obtain ⟨u0, hu⟩ := hwz
    have AZ : Hid (Ab w z) := by rw [hu]; exact HX.out u0
    clear hu u0
    clear HU HU1 HX DD0 s0 s1 s2 s3
    clear E UU
    go_wp2
    go_ret
    exact ⟨rfl, AZ.out⟩
set_option maxRecDepth 100000 in
set_option maxHeartbeats 8000000 in
theorem all13_nil (sd : Int) (dt gr dr : Nat) (lim : Int) (rv : Bool) (pr : Option Addr) (lr cr : Nat) (pb pw pt ps : Option Addr) (lb cb lw cw lt ct ls cs : Nat) (sky st : Int) (w : World) :
    Calls Tryz.prog 8 #[.pointer none, .agg #[.int .i64 sd, .float .f64 dt, .float .f64 gr, .float .f64 dr, .int .i64 lim, .bool rv, .slice pr lr cr], .agg #[.slice pb lb cb, .slice pw lw cw, .slice pt lt ct, .slice ps ls cs, .int .i64 sky, .int .i64 st]] w fun e w' => e = .returned (.tuple #[.slice none 0 0, .int .i64 2]) ∧ Below w.heap.size w w' := by
  have A0 : Hid (Ab w ((w.alloc (.cells #[.int .i64 sd, .float .f64 dt, .float .f64 gr, .float .f64 dr, .int .i64 lim, .bool rv, .slice pr lr cr] 31)).alloc (.cells #[.slice pb lb cb, .slice pw lw cw, .slice pt lt ct, .slice ps ls cs, .int .i64 sky, .int .i64 st] 35))) := bl2 _ _ _
  go_enter Tryz.func8, Tryz.ntmps8
  go_wp2
  go_ret2
  exact ⟨rfl, A0.out⟩
set_option maxRecDepth 100000 in
set_option maxHeartbeats 8000000 in
theorem all13_no (gb : Nat) (sd : Int) (dt gr dr : Nat) (lim : Int) (rv : Bool) (pr : Option Addr) (lr cr : Nat) (pb pw pt ps : Option Addr) (lb cb lw cw lt ct ls cs : Nat) (sky st : Int) (w : World)
    (CF : Hid (∀ v, Ab w v → Calls Tryz.prog 16 #[(.pointer (some ⟨gb, 0, none⟩)), .agg #[.slice pb lb cb, .slice pw lw cw, .slice pt lt ct, .slice ps ls cs, .int .i64 sky, .int .i64 st]] v fun e w' => e = .returned (.bool false) ∧ Below v.heap.size v w')) :
    Calls Tryz.prog 8 #[(.pointer (some ⟨gb, 0, none⟩)), .agg #[.int .i64 sd, .float .f64 dt, .float .f64 gr, .float .f64 dr, .int .i64 lim, .bool rv, .slice pr lr cr], .agg #[.slice pb lb cb, .slice pw lw cw, .slice pt lt ct, .slice ps ls cs, .int .i64 sky, .int .i64 st]] w fun e w' => e = .returned (.tuple #[.slice none 0 0, .int .i64 1]) ∧ Below w.heap.size w w' := by
  have A0 : Hid (Ab w ((w.alloc (.cells #[.int .i64 sd, .float .f64 dt, .float .f64 gr, .float .f64 dr, .int .i64 lim, .bool rv, .slice pr lr cr] 31)).alloc (.cells #[.slice pb lb cb, .slice pw lw cw, .slice pt lt ct, .slice ps ls cs, .int .i64 sky, .int .i64 st] 35))) := bl2 _ _ _
  have RP : Hid (((w.alloc (.cells #[.int .i64 sd, .float .f64 dt, .float .f64 gr, .float .f64 dr, .int .i64 lim, .bool rv, .slice pr lr cr] 31)).alloc (.cells #[.slice pb lb cb, .slice pw lw cw, .slice pt lt ct, .slice ps ls cs, .int .i64 sky, .int .i64 st] 35)).heap[w.heap.size]? = some (.cells #[.int .i64 sd, .float .f64 dt, .float .f64 gr, .float .f64 dr, .int .i64 lim, .bool rv, .slice pr lr cr] 31)) := heap_alloc2_old _ _ _
  have RO : Hid (((w.alloc (.cells #[.int .i64 sd, .float .f64 dt, .float .f64 gr, .float .f64 dr, .int .i64 lim, .bool rv, .slice pr lr cr] 31)).alloc (.cells #[.slice pb lb cb, .slice pw lw cw, .slice pt lt ct, .slice ps ls cs, .int .i64 sky, .int .i64 st] 35)).heap[w.heap.size + 1]? = some (.cells #[.slice pb lb cb, .slice pw lw cw, .slice pt lt ct, .slice ps ls cs, .int .i64 sky, .int .i64 st] 35)) := heap_alloc2_new _ _ _
  go_enter Tryz.func8, Tryz.ntmps8
  go_upto_region 3 with fail
  generalize hW : World.alloc (World.alloc w _) _ = W at *
  obtain ⟨gp, hgp⟩ : ∃ g, w.heap.size = g := ⟨_, rfl⟩
  obtain ⟨gs, hgs⟩ : ∃ g, w.heap.size + 1 = g := ⟨_, rfl⟩
  rw [hgp] at RP
  rw [hgs] at RO
  rw [hgs, hgp]
  clear hgs hgp hW
  have s0 := cell_of_row _ _ 0 _ _ _ RO.out
  have s1 := cell_of_row _ _ 1 _ _ _ RO.out
  have s2 := cell_of_row _ _ 2 _ _ _ RO.out
  have s3 := cell_of_row _ _ 3 _ _ _ RO.out
  have s4 := cell_of_row _ _ 4 _ _ _ RO.out
  have s5 := cell_of_row _ _ 5 _ _ _ RO.out
  go_wp2_with fail
  refine (CF.out _ A0.out).mono ?_
  rintro e9 z ⟨rfl, bz⟩
  have AB : Hid (Ab W z) := bz
  clear bz s0 s1 s2 s3 s4 s5
  go_wp2
  go_ret2
  exact ⟨rfl, A0.out.trans AB.out⟩
set_option maxRecDepth 100000 in
set_option maxHeartbeats 8000000 in
theorem all13_go (gb : Nat) (sd : Int) (dt gr dr : Nat) (lim : Int) (rv : Bool) (pr : Option Addr) (lr cr : Nat) (pb pw pt : Option Addr) (M cb cw ct sb so cs : Nat) (sky st : Int) (N : Nat) (Sp Dp Ln : Nat → Nat) (D : Nat → Int) (w : World) (hN : N ≤ 1048576)
    (CF : Hid (∀ v, Ab w v → Calls Tryz.prog 16 #[(.pointer (some ⟨gb, 0, none⟩)), .agg #[.slice pb M cb, .slice pw M cw, .slice pt M ct, .slice (some ⟨sb, so, none⟩) N cs, .int .i64 sky, .int .i64 st]] v fun e w' => e = .returned (.bool true) ∧ Below v.heap.size v w'))
    (CE : Hid (∀ v, Ab w v → Calls Tryz.prog 17 #[(.pointer (some ⟨gb, 0, none⟩))] v fun e w' => e = .returned (.int .i64 (N : Nat)) ∧ w' = v))
    (FSp : Hid (∀ c, c < N → ∀ v, Ab w v → v.cell? ⟨sb, so + c, none⟩ = some (.float .f64 (Sp c))))
    (CD : Hid (∀ c, c < N → ∀ v, Ab w v → Calls Tryz.prog 18 #[(.pointer (some ⟨gb, 0, none⟩)), .int .i64 lim, .agg #[.slice pb M cb, .slice pw M cw, .slice pt M ct, .slice (some ⟨sb, so, none⟩) N cs, .int .i64 sky, .int .i64 st], .int .i64 (c : Nat), .float .f64 (Sp c)] v fun e w' => e = .returned (.float .f64 (Dp c)) ∧ Below v.heap.size v w'))
    (CL : Hid (∀ c, c < N → ∀ v, Ab w v → Calls Tryz.prog 19 #[(.pointer (some ⟨gb, 0, none⟩)), .int .i64 (c : Nat)] v fun e w' => e = .returned (.float .f64 (Ln c)) ∧ Below v.heap.size v w'))
    (CQ : Hid (∀ c, c < N → ∀ v : World, Calls Tryz.prog 6 #[.float .f64 (Sp c), .float .f64 (Dp c), .float .f64 (Ln c), .float .f64 dt] v fun e w' => e = .returned (.int .i64 (D c)) ∧ Below v.heap.size v w')) :
    Calls Tryz.prog 8 #[(.pointer (some ⟨gb, 0, none⟩)), .agg #[.int .i64 sd, .float .f64 dt, .float .f64 gr, .float .f64 dr, .int .i64 lim, .bool rv, .slice pr lr cr], .agg #[.slice pb M cb, .slice pw M cw, .slice pt M ct, .slice (some ⟨sb, so, none⟩) N cs, .int .i64 sky, .int .i64 st]] w fun e w' => ∃ b, e = .returned (.tuple #[.slice (some ⟨b, 0, none⟩) N N, .int .i64 0]) ∧ Below w.heap.size w w' ∧ w'.rowIs b 2 N (fun i => .int .i64 (D i)) ∧ w.heap.size ≤ b := by
  have M1 : ∀ v : World, (Instr.makeSlice 33 (.int .i64 (N : Nat)) (.int .i64 (N : Nat))).run Tryz.prog v = .ok (.slice (some ⟨v.heap.size, 0, none⟩) N N) (v.alloc (Obj.cells (madeCells #[.int .i64 0] N) 2)) := fun v =>
    run_make_row' (P := Tryz.prog) 33 2 (.int .i64 0) 8 Tryz.underlying33 info64 rfl .i64 .i64 N (by omega) (by omega) v
  have HN := hid hN
  clear hN
  have A0 : Hid (Ab w ((w.alloc (.cells #[.int .i64 sd, .float .f64 dt, .float .f64 gr, .float .f64 dr, .int .i64 lim, .bool rv, .slice pr lr cr] 31)).alloc (.cells #[.slice pb M cb, .slice pw M cw, .slice pt M ct, .slice (some ⟨sb, so, none⟩) N cs, .int .i64 sky, .int .i64 st] 35))) := bl2 _ _ _
  have RP : Hid (((w.alloc (.cells #[.int .i64 sd, .float .f64 dt, .float .f64 gr, .float .f64 dr, .int .i64 lim, .bool rv, .slice pr lr cr] 31)).alloc (.cells #[.slice pb M cb, .slice pw M cw, .slice pt M ct, .slice (some ⟨sb, so, none⟩) N cs, .int .i64 sky, .int .i64 st] 35)).heap[w.heap.size]? = some (.cells #[.int .i64 sd, .float .f64 dt, .float .f64 gr, .float .f64 dr, .int .i64 lim, .bool rv, .slice pr lr cr] 31)) := heap_alloc2_old _ _ _
  have RO : Hid (((w.alloc (.cells #[.int .i64 sd, .float .f64 dt, .float .f64 gr, .float .f64 dr, .int .i64 lim, .bool rv, .slice pr lr cr] 31)).alloc (.cells #[.slice pb M cb, .slice pw M cw, .slice pt M ct, .slice (some ⟨sb, so, none⟩) N cs, .int .i64 sky, .int .i64 st] 35)).heap[w.heap.size + 1]? = some (.cells #[.slice pb M cb, .slice pw M cw, .slice pt M ct, .slice (some ⟨sb, so, none⟩) N cs, .int .i64 sky, .int .i64 st] 35)) := heap_alloc2_new _ _ _
  go_enter Tryz.func8, Tryz.ntmps8
  go_upto_region 3 with fail
  generalize hW : World.alloc (World.alloc w _) _ = W at *
  obtain ⟨gp, hgp⟩ : ∃ g, w.heap.size = g := ⟨_, rfl⟩
  obtain ⟨gs, hgs⟩ : ∃ g, w.heap.size + 1 = g := ⟨_, rfl⟩
  rw [hgp] at RP
  rw [hgs] at RO
  rw [hgs, hgp]
  clear hgs hgp hW
  have s0 := cell_of_row _ _ 0 _ _ _ RO.out
  have s1 := cell_of_row _ _ 1 _ _ _ RO.out
  have s2 := cell_of_row _ _ 2 _ _ _ RO.out
  have s3 := cell_of_row _ _ 3 _ _ _ RO.out
  have s4 := cell_of_row _ _ 4 _ _ _ RO.out
  have s5 := cell_of_row _ _ 5 _ _ _ RO.out
  go_wp2_with fail
  refine (CF.out _ A0.out).mono ?_
  rintro e9 z ⟨rfl, bz⟩
  have AB : Hid (Ab W z) := bz
  clear bz s0 s1 s2 s3 s4 s5
  have AZ : Hid (Ab w z) := A0.out.trans AB.out
  have RZ : Hid (z.heap[gs]? = some (.cells #[.slice pb M cb, .slice pw M cw, .slice pt M ct, .slice (some ⟨sb, so, none⟩) N cs, .int .i64 sky, .int .i64 st] 35)) := AB.out.heap RO.out
  have RQ : Hid (z.heap[gp]? = some (.cells #[.int .i64 sd, .float .f64 dt, .float .f64 gr, .float .f64 dr, .int .i64 lim, .bool rv, .slice pr lr cr] 31)) := AB.out.heap RP.out
  clear A0 RO RP AB
  go_wp2_with fail
  refine (CE.out _ AZ.out).mono ?_
  rintro e9 vq ⟨rfl, hvq⟩
  have hvq2 := hvq.symm
  subst hvq2
  have LZ : Hid (w.heap.size ≤ z.heap.size ∧ gs ≠ z.heap.size ∧ gp ≠ z.heap.size) := ⟨AZ.out.size, by have := lt_of_block RZ.out; omega, by have := lt_of_block RQ.out; omega⟩
  have IN0 : Hid (Ab w (z.alloc (Obj.cells (madeCells #[.int .i64 0] N) 2)) ∧ (z.alloc (Obj.cells (madeCells #[.int .i64 0] N) 2)).heap[gs]? = some (.cells #[.slice pb M cb, .slice pw M cw, .slice pt M ct, .slice (some ⟨sb, so, none⟩) N cs, .int .i64 sky, .int .i64 st] 35) ∧ (z.alloc (Obj.cells (madeCells #[.int .i64 0] N) 2)).heap[gp]? = some (.cells #[.int .i64 sd, .float .f64 dt, .float .f64 gr, .float .f64 dr, .int .i64 lim, .bool rv, .slice pr lr cr] 31) ∧ (z.alloc (Obj.cells (madeCells #[.int .i64 0] N) 2)).rowIs z.heap.size 2 N (fun _ => .int .i64 0)) := ⟨AZ.out.alloc _, Ab.heap (bl1 _ _) RZ.out, Ab.heap (bl1 _ _) RQ.out, World.rowIs_made _ _ _ _⟩
  go_upto_region 6 with fail
  generalize hV : World.alloc z _ = V at *
  obtain ⟨b, hb⟩ : ∃ b, z.heap.size = b := ⟨_, rfl⟩
  rw [hb] at IN0 LZ ⊢
  clear hV hb AZ RZ RQ M1
  have IN : Hid (Ab w V ∧ V.heap[gs]? = some (.cells #[.slice pb M cb, .slice pw M cw, .slice pt M ct, .slice (some ⟨sb, so, none⟩) N cs, .int .i64 sky, .int .i64 st] 35) ∧ V.heap[gp]? = some (.cells #[.int .i64 sd, .float .f64 dt, .float .f64 gr, .float .f64 dr, .int .i64 lim, .bool rv, .slice pr lr cr] 31) ∧ V.rowIs b 2 N (fun i => .int .i64 (if i < 0 then D i else 0))) := ⟨IN0.out.1, IN0.out.2.1, IN0.out.2.2.1, IN0.out.2.2.2.congr (fun i _ => by simp)⟩
  clear IN0
  have s3 := cell_of_row _ _ 3 _ _ _ IN.out.2.1
  go_wp2
  clear s3
  go_loopw [24] (fun iv wr => ∃ c : Nat, c ≤ N ∧ iv = .int .i64 (c : Nat) ∧ Ab w wr ∧ wr.heap[gs]? = some (.cells #[.slice pb M cb, .slice pw M cw, .slice pt M ct, .slice (some ⟨sb, so, none⟩) N cs, .int .i64 sky, .int .i64 st] 35) ∧ wr.heap[gp]? = some (.cells #[.int .i64 sd, .float .f64 dt, .float .f64 gr, .float .f64 dr, .int .i64 lim, .bool rv, .slice pr lr cr] 31) ∧ wr.rowIs b 2 N (fun i => .int .i64 (if i < c then D i else 0))) (fun iv _ => N - (intOf iv).toNat)
  case atStart => exact ⟨0, by omega, rfl, IN.out⟩
  case round =>
    obtain ⟨c, hc, rfl, a1, r1, r2, o1⟩ := hrel
    clear IN
    have AR := hid a1
    have RR := hid r1
    have RP := hid r2
    have OO := hid o1
    clear a1 r1 r2 o1
    by_cases hcN : c < N
    · have HC := hid hcN
      have hcI : (c : Int) < N := by omega
      have hcB : (c : Int) ≤ 1048576 := by have := HN.out; omega
      obtain ⟨x, hx⟩ : ∃ x, Sp c = x := ⟨_, rfl⟩
      obtain ⟨y, hy⟩ : ∃ y, D c = y := ⟨_, rfl⟩
      obtain ⟨dp, hdp⟩ : ∃ y, Dp c = y := ⟨_, rfl⟩
      obtain ⟨ln, hln⟩ : ∃ y, Ln c = y := ⟨_, rfl⟩
      have CDc := hid (CD.out c hcN)
      have CLc := hid (CL.out c hcN)
      have CQc := hid (CQ.out c hcN)
      rw [hx, hdp] at CDc
      rw [hln] at CLc
      rw [hx, hdp, hln, hy] at CQc
      have HX2 := hid hx
      have HY := hid hy
      clear hx hy hdp hln hcN
      have s0 := cell_of_row _ _ 0 _ _ _ RR.out
      have s1 := cell_of_row _ _ 1 _ _ _ RR.out
      have s2 := cell_of_row _ _ 2 _ _ _ RR.out
      have s3 := cell_of_row _ _ 3 _ _ _ RR.out
      have s4 := cell_of_row _ _ 4 _ _ _ RR.out
      have s5 := cell_of_row _ _ 5 _ _ _ RR.out
      have p4 := cell_of_row _ _ 4 _ _ _ RP.out
      have sx : wr.cell? ⟨sb, so + c, none⟩ = some (.float .f64 x) := (FSp.out c HC.out _ AR.out).trans (by rw [HX2.out])
      go_wp2_with fail
      refine (CDc.out _ AR.out).mono ?_
      rintro e9 v1 ⟨rfl, b1⟩
      have A1 : Hid (Ab wr v1) := b1
      clear b1 s0 s1 s2 s3 s4 s5 p4 sx
      go_upto_region 10 with fail
      obtain ⟨UU, E, hF1, hF2⟩ := cls v1
      have HU := hid hF2
      have HU1 := hid hF1
      have HX : Hid (∀ u, Ab wr (E u)) := fun u => Ab.trans A1.out (hF1 u)
      have p1 : ∀ u, (E u).cell? ⟨gp, 1, none⟩ = some (.float .f64 dt) := fun u => cell_of_row _ _ 1 _ _ _ ((A1.out.trans (hF1 u)).heap RP.out)
      have DD0 := HU.out _ (Ab.refl v1).drew
      clear hF1 hF2
      refine region_tail 11 E (by kernel_rfl) (by kernel_rfl) (by kernel_rfl) DD0 ?_
      simp only [List.take_succ_cons, List.take_zero, List.drop_succ_cons, List.drop_zero]
      repeat (go_big_quiet_step (first
        | (with_reducible rfl)
        | (go_at_call 19; exact calls_cls HU HU1 (CLc.out _ (AR.out.trans (HX.out _))))
        | (go_at_call 6; exact calls_cls HU HU1 (CQc.out _))))
      refine wpQuiet_nil ?_
      intro vz hwz
      obtain ⟨u0, hu⟩ := hwz
      have AZ : Hid (Ab wr vz) := by rw [hu]; exact HX.out u0
      clear hu u0
      clear HU HU1 HX DD0 p1
      clear E UU
      have OZ := hid (rowIs.ab OO.out AZ.out)
      have xc := OZ.out.cell HC.out
      have xf := OZ.out.frozen c
      go_wp2
      refine ⟨⟨c + 1, by have := HC.out; omega, by simp, (AR.out.trans AZ.out).setk LZ.out.1 _, ?_, ?_, (OZ.out.set c _).congr (fun i _ => ?_)⟩, by simp [intOf]; have := HC.out; omega⟩
      · rw [heap_set_ne LZ.out.2.1]; exact AZ.out.heap RR.out
      · rw [heap_set_ne LZ.out.2.2]; exact AZ.out.heap RP.out
      · by_cases e : i = c
        · simp [e, HY.out]
        · by_cases l : i < c
          · simp [e, l, show i < c + 1 by omega]
          · simp [e, l, show ¬ i < c + 1 by omega]
    · have e6 : N = c := by omega
      subst e6
      go_wp2
      go_ret2
      exact ⟨b, rfl, AR.out, OO.out.congr (fun i hi => by simp [hi]), LZ.out.1⟩
end Go.Proofs.YtomenbbhdnfciaaGreatDoor

namespace Go.Proofs.YtomenbbhdnfciaaGreatDoor
theorem allN : AllN := all13_nil
end Go.Proofs.YtomenbbhdnfciaaGreatDoor

namespace Go.Proofs.YtomenbbhdnfciaaGreatDoor
open Go.RowKit Tf Cu Go.Deep
attribute [local go_sem] run_bits run_from raw_feq raw_fne raw_flt raw_fgt run_neg run_store_float
set_option maxHeartbeats 2000000 in
theorem quantaC : QuantaC := by
  intro u d l t w hu hd hl ht
  obtain ⟨r1, n1, h1, q1⟩ := mul_any (P := Tryz.prog) w u (qB u) d (qB d) (IsQ.self hu) (IsQ.self hd)
  obtain ⟨r2, n2, h2, q2⟩ := mul_any (P := Tryz.prog) (w.drewN n1) r1 _ l (qB l) q1 (IsQ.self hl)
  obtain ⟨r3, n3, h3, q3⟩ := mul_any (P := Tryz.prog) (w.drewN (n1 + n2)) r2 _ t (qB t) q2 (IsQ.self ht)
  obtain ⟨r4, n4, h4, q4⟩ := mul_any (P := Tryz.prog) (w.drewN (n1 + n2 + n3)) r3 _ 4742290407621132288 (qB 4742290407621132288) q3 (IsQ.self (by decide))
  have e : clampB r4 4503599627370496 = qnB u d l t := by
    rw [clampB_q q4, mlB_qq, mlB_qr, mlB_qr, mlB_qr]
    rfl
  have CL := hid (fun v => clamp_at r4 4503599627370496 (qnB u d l t) v q4.1 (by decide) e)
  generalize qnB u d l t = z at *
  have AB : Hid (∀ k, Ab w (w.drewN k)) := fun k => (Ab.refl w).drewN k
  clear q1 q2 q3 q4 e hu hd hl ht
  go_enter Tryz.func6, Tryz.ntmps6
  go_wp2_with fail
  refine (CL.out _).mono ?_
  rintro e v ⟨rfl, n5, rfl⟩
  go_wp2
  go_ret
  exact ⟨rfl, AB.out _⟩
end Go.Proofs.YtomenbbhdnfciaaGreatDoor
