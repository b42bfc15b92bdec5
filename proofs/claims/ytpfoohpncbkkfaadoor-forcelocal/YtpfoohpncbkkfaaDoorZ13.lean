/-
  Some of the texts of this proof, one behind the other.
-/
import Derived.Test.YtpfoohpncbkkfaaDoorZ12
namespace Go.Proofs.YtpfoohpncbkkfaaDoor
open Go.RowKit Tf Cu Go.Deep
attribute [local go_sem] run_bits run_from raw_feq raw_fne raw_flt raw_fgt run_neg run_store_float
namespace Fc
set_option maxRecDepth 100000 in
set_option maxHeartbeats 16000000 in
theorem local16_nil (side : Int) (sd : Int) (dt gr dr : Nat) (lim : Int) (rv : Bool) (pr : Option Addr) (lr cr : Nat) (pb : Option Addr) (lb cb : Nat) (pw : Option Addr) (lw cw : Nat) (pt : Option Addr) (lt ct : Nat) (ps : Option Addr) (ls cs : Nat) (sky st : Int) (e : Int) (xb : Option Addr) (mb db : Nat) (xw : Option Addr) (mw dw : Nat) (xt : Option Addr) (mq dq : Nat) (xs : Option Addr) (ms ds : Nat) (oky ost : Int) (w : World)
    (LV : Hid (∀ v, Ab w v → Calls Tryd.prog 9 #[] v fun e w' => e = .returned (.bool true) ∧ Below v.heap.size v w'))
    (NT : Hid (∀ v, Ab w v → Calls Tryd.prog 10 #[.int .i64 side, .agg #[.slice pb lb cb, .slice pw lw cw, .slice pt lt ct, .slice ps ls cs, .int .i64 sky, .int .i64 st]] v fun e w' => e = .returned (.pointer none) ∧ Below v.heap.size v w')) :
    Calls Tryd.prog 6 #[.int .i64 side, .agg #[.int .i64 sd, .float .f64 dt, .float .f64 gr, .float .f64 dr, .int .i64 lim, .bool rv, .slice pr lr cr], .agg #[.slice pb lb cb, .slice pw lw cw, .slice pt lt ct, .slice ps ls cs, .int .i64 sky, .int .i64 st], .int .i64 e, .agg #[.slice xb mb db, .slice xw mw dw, .slice xt mq dq, .slice xs ms ds, .int .i64 oky, .int .i64 ost]] w fun x w' => x = .returned (.bool true) ∧ Below w.heap.size w w' := by
  have A0 : Hid (Ab w (((w.alloc (.cells #[.int .i64 sd, .float .f64 dt, .float .f64 gr, .float .f64 dr, .int .i64 lim, .bool rv, .slice pr lr cr] 25)).alloc (.cells #[.slice pb lb cb, .slice pw lw cw, .slice pt lt ct, .slice ps ls cs, .int .i64 sky, .int .i64 st] 29)).alloc (.cells #[.slice xb mb db, .slice xw mw dw, .slice xt mq dq, .slice xs ms ds, .int .i64 oky, .int .i64 ost] 29))) := bl3 _ _ _ _
  have P0 : Hid ((((w.alloc (.cells #[.int .i64 sd, .float .f64 dt, .float .f64 gr, .float .f64 dr, .int .i64 lim, .bool rv, .slice pr lr cr] 25)).alloc (.cells #[.slice pb lb cb, .slice pw lw cw, .slice pt lt ct, .slice ps ls cs, .int .i64 sky, .int .i64 st] 29)).alloc (.cells #[.slice xb mb db, .slice xw mw dw, .slice xt mq dq, .slice xs ms ds, .int .i64 oky, .int .i64 ost] 29)).heap[w.heap.size]? = some (.cells #[.int .i64 sd, .float .f64 dt, .float .f64 gr, .float .f64 dr, .int .i64 lim, .bool rv, .slice pr lr cr] 25)) := Ab.heap (bl1 _ _) (heap_alloc2_old _ _ _)
  have S0 : Hid ((((w.alloc (.cells #[.int .i64 sd, .float .f64 dt, .float .f64 gr, .float .f64 dr, .int .i64 lim, .bool rv, .slice pr lr cr] 25)).alloc (.cells #[.slice pb lb cb, .slice pw lw cw, .slice pt lt ct, .slice ps ls cs, .int .i64 sky, .int .i64 st] 29)).alloc (.cells #[.slice xb mb db, .slice xw mw dw, .slice xt mq dq, .slice xs ms ds, .int .i64 oky, .int .i64 ost] 29)).heap[w.heap.size + 1]? = some (.cells #[.slice pb lb cb, .slice pw lw cw, .slice pt lt ct, .slice ps ls cs, .int .i64 sky, .int .i64 st] 29)) := Ab.heap (bl1 _ _) (heap_alloc2_new _ _ _)
  have D0 : Hid ((((w.alloc (.cells #[.int .i64 sd, .float .f64 dt, .float .f64 gr, .float .f64 dr, .int .i64 lim, .bool rv, .slice pr lr cr] 25)).alloc (.cells #[.slice pb lb cb, .slice pw lw cw, .slice pt lt ct, .slice ps ls cs, .int .i64 sky, .int .i64 st] 29)).alloc (.cells #[.slice xb mb db, .slice xw mw dw, .slice xt mq dq, .slice xs ms ds, .int .i64 oky, .int .i64 ost] 29)).heap[w.heap.size + 1 + 1]? = some (.cells #[.slice xb mb db, .slice xw mw dw, .slice xt mq dq, .slice xs ms ds, .int .i64 oky, .int .i64 ost] 29)) := by
    have h := heap_alloc_new ((w.alloc (.cells #[.int .i64 sd, .float .f64 dt, .float .f64 gr, .float .f64 dr, .int .i64 lim, .bool rv, .slice pr lr cr] 25)).alloc (.cells #[.slice pb lb cb, .slice pw lw cw, .slice pt lt ct, .slice ps ls cs, .int .i64 sky, .int .i64 st] 29)) (.cells #[.slice xb mb db, .slice xw mw dw, .slice xt mq dq, .slice xs ms ds, .int .i64 oky, .int .i64 ost] 29)
    have e : ((w.alloc (.cells #[.int .i64 sd, .float .f64 dt, .float .f64 gr, .float .f64 dr, .int .i64 lim, .bool rv, .slice pr lr cr] 25)).alloc (.cells #[.slice pb lb cb, .slice pw lw cw, .slice pt lt ct, .slice ps ls cs, .int .i64 sky, .int .i64 st] 29)).heap.size = w.heap.size + 1 + 1 := by simp
    rw [e] at h
    exact h
  go_enter Tryd.func6, Tryd.ntmps6
  go_upto_region 1 with fail
  obtain ⟨gp, hgp⟩ : ∃ g, w.heap.size = g := ⟨_, rfl⟩
  obtain ⟨gs, hgs⟩ : ∃ g, w.heap.size + 1 = g := ⟨_, rfl⟩
  obtain ⟨go, hgo⟩ : ∃ g, w.heap.size + 1 + 1 = g := ⟨_, rfl⟩
  generalize hW : World.alloc (World.alloc (World.alloc w _) _) _ = W at *
  rw [hgo] at D0 ⊢
  rw [hgs] at S0 ⊢
  rw [hgp] at P0 ⊢
  clear hgp hgs hgo hW
  go_wp2_with fail
  refine (LV.out _ A0.out).mono ?_
  rintro e9 v1 ⟨rfl, k1⟩
  have A1 : Hid (Ab w v1) := A0.out.call k1
  have P1 := hid (Ab.heap k1 P0.out)
  have S1 := hid (Ab.heap k1 S0.out)
  have D1 := hid (Ab.heap k1 D0.out)
  clear k1 A0 P0 S0 D0
  have c0 := cell_of_row _ _ 0 _ _ _ S1.out
  have c1 := cell_of_row _ _ 1 _ _ _ S1.out
  have c2 := cell_of_row _ _ 2 _ _ _ S1.out
  have c3 := cell_of_row _ _ 3 _ _ _ S1.out
  have c4 := cell_of_row _ _ 4 _ _ _ S1.out
  have c5 := cell_of_row _ _ 5 _ _ _ S1.out
  go_wp2_with fail
  refine (NT.out _ A1.out).mono ?_
  rintro e9 v2 ⟨rfl, k1⟩
  have A2 : Hid (Ab w v2) := A1.out.call k1
  clear k1 A1 P1 S1 D1 c0 c1 c2 c3 c4 c5 LV NT
  go_wp2
  go_ret
  exact ⟨rfl, A2.out⟩
set_option maxRecDepth 100000 in
set_option maxHeartbeats 16000000 in
theorem local16_long (side : Int) (n : Nat) (sd : Int) (dt gr dr : Nat) (lim : Int) (rv : Bool) (pr : Option Addr) (lr cr : Nat) (pb : Option Addr) (lb cb : Nat) (pw : Option Addr) (lw cw : Nat) (pt : Option Addr) (lt ct : Nat) (ps : Option Addr) (ls cs : Nat) (sky st : Int) (e : Int) (xb : Option Addr) (mb db : Nat) (xw : Option Addr) (mw dw : Nat) (xt : Option Addr) (mq dq : Nat) (xs : Option Addr) (ms ds : Nat) (oky ost : Int) (w : World)
    (LV : Hid (∀ v, Ab w v → Calls Tryd.prog 9 #[] v fun e w' => e = .returned (.bool true) ∧ Below v.heap.size v w'))
    (NT : Hid (∀ v, Ab w v → Calls Tryd.prog 10 #[.int .i64 side, .agg #[.slice pb lb cb, .slice pw lw cw, .slice pt lt ct, .slice ps ls cs, .int .i64 sky, .int .i64 st]] v fun e w' => Below v.heap.size v w' ∧ ∃ gb, e = .returned (.pointer (some ⟨gb, 0, none⟩)) ∧ GridOf n gb w'))
    (LG : Hid (∀ v, Calls Tryd.prog 20 #[.agg #[.slice xb mb db, .slice xw mw dw, .slice xt mq dq, .slice xs ms ds, .int .i64 oky, .int .i64 ost]] v fun e w' => e = .returned (.bool true) ∧ Below v.heap.size v w')) :
    Calls Tryd.prog 6 #[.int .i64 side, .agg #[.int .i64 sd, .float .f64 dt, .float .f64 gr, .float .f64 dr, .int .i64 lim, .bool rv, .slice pr lr cr], .agg #[.slice pb lb cb, .slice pw lw cw, .slice pt lt ct, .slice ps ls cs, .int .i64 sky, .int .i64 st], .int .i64 e, .agg #[.slice xb mb db, .slice xw mw dw, .slice xt mq dq, .slice xs ms ds, .int .i64 oky, .int .i64 ost]] w fun x w' => x = .returned (.bool true) ∧ Below w.heap.size w w' := by
  have A0 : Hid (Ab w (((w.alloc (.cells #[.int .i64 sd, .float .f64 dt, .float .f64 gr, .float .f64 dr, .int .i64 lim, .bool rv, .slice pr lr cr] 25)).alloc (.cells #[.slice pb lb cb, .slice pw lw cw, .slice pt lt ct, .slice ps ls cs, .int .i64 sky, .int .i64 st] 29)).alloc (.cells #[.slice xb mb db, .slice xw mw dw, .slice xt mq dq, .slice xs ms ds, .int .i64 oky, .int .i64 ost] 29))) := bl3 _ _ _ _
  have P0 : Hid ((((w.alloc (.cells #[.int .i64 sd, .float .f64 dt, .float .f64 gr, .float .f64 dr, .int .i64 lim, .bool rv, .slice pr lr cr] 25)).alloc (.cells #[.slice pb lb cb, .slice pw lw cw, .slice pt lt ct, .slice ps ls cs, .int .i64 sky, .int .i64 st] 29)).alloc (.cells #[.slice xb mb db, .slice xw mw dw, .slice xt mq dq, .slice xs ms ds, .int .i64 oky, .int .i64 ost] 29)).heap[w.heap.size]? = some (.cells #[.int .i64 sd, .float .f64 dt, .float .f64 gr, .float .f64 dr, .int .i64 lim, .bool rv, .slice pr lr cr] 25)) := Ab.heap (bl1 _ _) (heap_alloc2_old _ _ _)
  have S0 : Hid ((((w.alloc (.cells #[.int .i64 sd, .float .f64 dt, .float .f64 gr, .float .f64 dr, .int .i64 lim, .bool rv, .slice pr lr cr] 25)).alloc (.cells #[.slice pb lb cb, .slice pw lw cw, .slice pt lt ct, .slice ps ls cs, .int .i64 sky, .int .i64 st] 29)).alloc (.cells #[.slice xb mb db, .slice xw mw dw, .slice xt mq dq, .slice xs ms ds, .int .i64 oky, .int .i64 ost] 29)).heap[w.heap.size + 1]? = some (.cells #[.slice pb lb cb, .slice pw lw cw, .slice pt lt ct, .slice ps ls cs, .int .i64 sky, .int .i64 st] 29)) := Ab.heap (bl1 _ _) (heap_alloc2_new _ _ _)
  have D0 : Hid ((((w.alloc (.cells #[.int .i64 sd, .float .f64 dt, .float .f64 gr, .float .f64 dr, .int .i64 lim, .bool rv, .slice pr lr cr] 25)).alloc (.cells #[.slice pb lb cb, .slice pw lw cw, .slice pt lt ct, .slice ps ls cs, .int .i64 sky, .int .i64 st] 29)).alloc (.cells #[.slice xb mb db, .slice xw mw dw, .slice xt mq dq, .slice xs ms ds, .int .i64 oky, .int .i64 ost] 29)).heap[w.heap.size + 1 + 1]? = some (.cells #[.slice xb mb db, .slice xw mw dw, .slice xt mq dq, .slice xs ms ds, .int .i64 oky, .int .i64 ost] 29)) := by
    have h := heap_alloc_new ((w.alloc (.cells #[.int .i64 sd, .float .f64 dt, .float .f64 gr, .float .f64 dr, .int .i64 lim, .bool rv, .slice pr lr cr] 25)).alloc (.cells #[.slice pb lb cb, .slice pw lw cw, .slice pt lt ct, .slice ps ls cs, .int .i64 sky, .int .i64 st] 29)) (.cells #[.slice xb mb db, .slice xw mw dw, .slice xt mq dq, .slice xs ms ds, .int .i64 oky, .int .i64 ost] 29)
    have e : ((w.alloc (.cells #[.int .i64 sd, .float .f64 dt, .float .f64 gr, .float .f64 dr, .int .i64 lim, .bool rv, .slice pr lr cr] 25)).alloc (.cells #[.slice pb lb cb, .slice pw lw cw, .slice pt lt ct, .slice ps ls cs, .int .i64 sky, .int .i64 st] 29)).heap.size = w.heap.size + 1 + 1 := by simp
    rw [e] at h
    exact h
  go_enter Tryd.func6, Tryd.ntmps6
  go_upto_region 1 with fail
  obtain ⟨gp, hgp⟩ : ∃ g, w.heap.size = g := ⟨_, rfl⟩
  obtain ⟨gs, hgs⟩ : ∃ g, w.heap.size + 1 = g := ⟨_, rfl⟩
  obtain ⟨go, hgo⟩ : ∃ g, w.heap.size + 1 + 1 = g := ⟨_, rfl⟩
  generalize hW : World.alloc (World.alloc (World.alloc w _) _) _ = W at *
  rw [hgo] at D0 ⊢
  rw [hgs] at S0 ⊢
  rw [hgp] at P0 ⊢
  clear hgp hgs hgo hW
  go_wp2_with fail
  refine (LV.out _ A0.out).mono ?_
  rintro e9 v1 ⟨rfl, k1⟩
  have A1 : Hid (Ab w v1) := A0.out.call k1
  have P1 := hid (Ab.heap k1 P0.out)
  have S1 := hid (Ab.heap k1 S0.out)
  have D1 := hid (Ab.heap k1 D0.out)
  clear k1 A0 P0 S0 D0
  have c0 := cell_of_row _ _ 0 _ _ _ S1.out
  have c1 := cell_of_row _ _ 1 _ _ _ S1.out
  have c2 := cell_of_row _ _ 2 _ _ _ S1.out
  have c3 := cell_of_row _ _ 3 _ _ _ S1.out
  have c4 := cell_of_row _ _ 4 _ _ _ S1.out
  have c5 := cell_of_row _ _ 5 _ _ _ S1.out
  go_wp2_with fail
  refine (NT.out _ A1.out).mono ?_
  rintro e9 v2 ⟨k1, gb, rfl, g1⟩
  have A2 : Hid (Ab w v2) := A1.out.call k1
  have P2 := hid (Ab.heap k1 P1.out)
  have S2 := hid (Ab.heap k1 S1.out)
  have D2 := hid (Ab.heap k1 D1.out)
  have G2 := hid g1
  clear k1 g1 A1 P1 S1 D1 c0 c1 c2 c3 c4 c5 LV NT
  have c0 := cell_of_row _ _ 0 _ _ _ D2.out
  have c1 := cell_of_row _ _ 1 _ _ _ D2.out
  have c2 := cell_of_row _ _ 2 _ _ _ D2.out
  have c3 := cell_of_row _ _ 3 _ _ _ D2.out
  have c4 := cell_of_row _ _ 4 _ _ _ D2.out
  have c5 := cell_of_row _ _ 5 _ _ _ D2.out
  go_wp2_with fail
  refine (LG.out _).mono ?_
  rintro e9 v3 ⟨rfl, k1⟩
  have A3 : Hid (Ab w v3) := A2.out.call k1
  have P3 := hid (Ab.heap k1 P2.out)
  have S3 := hid (Ab.heap k1 S2.out)
  have D3 := hid (Ab.heap k1 D2.out)
  have G3 := hid (G2.out.to k1)
  clear k1 A2 P2 S2 D2 G2 c0 c1 c2 c3 c4 c5 LG
  go_wp2
  go_ret
  exact ⟨rfl, A3.out⟩
set_option maxRecDepth 100000 in
set_option maxHeartbeats 16000000 in
theorem local16_none (side : Int) (n N : Nat) (sd : Int) (dt gr dr : Nat) (lim : Int) (rv : Bool) (pr : Option Addr) (lr cr : Nat) (pb : Option Addr) (lb cb : Nat) (pw : Option Addr) (lw cw : Nat) (pt : Option Addr) (lt ct : Nat) (ps : Option Addr) (ls cs : Nat) (sky st : Int) (e : Int) (xb : Option Addr) (mb db : Nat) (xw : Option Addr) (mw dw : Nat) (xt : Option Addr) (mq dq : Nat) (xs : Option Addr) (ms ds : Nat) (oky ost : Int) (X : Nat → Nat) (w : World) (N0 : 0 < N)
    (LV : Hid (∀ v, Ab w v → Calls Tryd.prog 9 #[] v fun e w' => e = .returned (.bool true) ∧ Below v.heap.size v w'))
    (NT : Hid (∀ v, Ab w v → Calls Tryd.prog 10 #[.int .i64 side, .agg #[.slice pb lb cb, .slice pw lw cw, .slice pt lt ct, .slice ps ls cs, .int .i64 sky, .int .i64 st]] v fun e w' => Below v.heap.size v w' ∧ ∃ gb, e = .returned (.pointer (some ⟨gb, 0, none⟩)) ∧ GridOf n gb w'))
    (LG : Hid (∀ v, Calls Tryd.prog 20 #[.agg #[.slice xb mb db, .slice xw mw dw, .slice xt mq dq, .slice xs ms ds, .int .i64 oky, .int .i64 ost]] v fun e w' => e = .returned (.bool false) ∧ Below v.heap.size v w'))
    (EG : Hid (∀ gb v, Ab w v → GridOf n gb v → Calls Tryd.prog 14 #[.pointer (some ⟨gb, 0, none⟩), .int .i64 e] v fun x w' => x = .returned (.tuple #[.agg #[.int .i64 0, .int .i64 0, .int .i64 0, .int .i64 0], .bool false]) ∧ Below v.heap.size v w'))
    (SP : Hid (∀ gb v, Ab w v → GridOf n gb v → Calls Tryd.prog 11 #[.pointer (some ⟨gb, 0, none⟩), .agg #[.int .i64 sd, .float .f64 dt, .float .f64 gr, .float .f64 dr, .int .i64 lim, .bool rv, .slice pr lr cr], .agg #[.slice pb lb cb, .slice pw lw cw, .slice pt lt ct, .slice ps ls cs, .int .i64 sky, .int .i64 st]] v fun e w' => ∃ u, e = .returned (.tuple #[u, .int .i64 0]) ∧ Below v.heap.size v w' ∧ OwnG v.heap.size u ((List.range N).map X) w')) :
    Calls Tryd.prog 6 #[.int .i64 side, .agg #[.int .i64 sd, .float .f64 dt, .float .f64 gr, .float .f64 dr, .int .i64 lim, .bool rv, .slice pr lr cr], .agg #[.slice pb lb cb, .slice pw lw cw, .slice pt lt ct, .slice ps ls cs, .int .i64 sky, .int .i64 st], .int .i64 e, .agg #[.slice xb mb db, .slice xw mw dw, .slice xt mq dq, .slice xs ms ds, .int .i64 oky, .int .i64 ost]] w fun x w' => x = .returned (.bool true) ∧ Below w.heap.size w w' := by
  have A0 : Hid (Ab w (((w.alloc (.cells #[.int .i64 sd, .float .f64 dt, .float .f64 gr, .float .f64 dr, .int .i64 lim, .bool rv, .slice pr lr cr] 25)).alloc (.cells #[.slice pb lb cb, .slice pw lw cw, .slice pt lt ct, .slice ps ls cs, .int .i64 sky, .int .i64 st] 29)).alloc (.cells #[.slice xb mb db, .slice xw mw dw, .slice xt mq dq, .slice xs ms ds, .int .i64 oky, .int .i64 ost] 29))) := bl3 _ _ _ _
  have P0 : Hid ((((w.alloc (.cells #[.int .i64 sd, .float .f64 dt, .float .f64 gr, .float .f64 dr, .int .i64 lim, .bool rv, .slice pr lr cr] 25)).alloc (.cells #[.slice pb lb cb, .slice pw lw cw, .slice pt lt ct, .slice ps ls cs, .int .i64 sky, .int .i64 st] 29)).alloc (.cells #[.slice xb mb db, .slice xw mw dw, .slice xt mq dq, .slice xs ms ds, .int .i64 oky, .int .i64 ost] 29)).heap[w.heap.size]? = some (.cells #[.int .i64 sd, .float .f64 dt, .float .f64 gr, .float .f64 dr, .int .i64 lim, .bool rv, .slice pr lr cr] 25)) := Ab.heap (bl1 _ _) (heap_alloc2_old _ _ _)
  have S0 : Hid ((((w.alloc (.cells #[.int .i64 sd, .float .f64 dt, .float .f64 gr, .float .f64 dr, .int .i64 lim, .bool rv, .slice pr lr cr] 25)).alloc (.cells #[.slice pb lb cb, .slice pw lw cw, .slice pt lt ct, .slice ps ls cs, .int .i64 sky, .int .i64 st] 29)).alloc (.cells #[.slice xb mb db, .slice xw mw dw, .slice xt mq dq, .slice xs ms ds, .int .i64 oky, .int .i64 ost] 29)).heap[w.heap.size + 1]? = some (.cells #[.slice pb lb cb, .slice pw lw cw, .slice pt lt ct, .slice ps ls cs, .int .i64 sky, .int .i64 st] 29)) := Ab.heap (bl1 _ _) (heap_alloc2_new _ _ _)
  have D0 : Hid ((((w.alloc (.cells #[.int .i64 sd, .float .f64 dt, .float .f64 gr, .float .f64 dr, .int .i64 lim, .bool rv, .slice pr lr cr] 25)).alloc (.cells #[.slice pb lb cb, .slice pw lw cw, .slice pt lt ct, .slice ps ls cs, .int .i64 sky, .int .i64 st] 29)).alloc (.cells #[.slice xb mb db, .slice xw mw dw, .slice xt mq dq, .slice xs ms ds, .int .i64 oky, .int .i64 ost] 29)).heap[w.heap.size + 1 + 1]? = some (.cells #[.slice xb mb db, .slice xw mw dw, .slice xt mq dq, .slice xs ms ds, .int .i64 oky, .int .i64 ost] 29)) := by
    have h := heap_alloc_new ((w.alloc (.cells #[.int .i64 sd, .float .f64 dt, .float .f64 gr, .float .f64 dr, .int .i64 lim, .bool rv, .slice pr lr cr] 25)).alloc (.cells #[.slice pb lb cb, .slice pw lw cw, .slice pt lt ct, .slice ps ls cs, .int .i64 sky, .int .i64 st] 29)) (.cells #[.slice xb mb db, .slice xw mw dw, .slice xt mq dq, .slice xs ms ds, .int .i64 oky, .int .i64 ost] 29)
    have e : ((w.alloc (.cells #[.int .i64 sd, .float .f64 dt, .float .f64 gr, .float .f64 dr, .int .i64 lim, .bool rv, .slice pr lr cr] 25)).alloc (.cells #[.slice pb lb cb, .slice pw lw cw, .slice pt lt ct, .slice ps ls cs, .int .i64 sky, .int .i64 st] 29)).heap.size = w.heap.size + 1 + 1 := by simp
    rw [e] at h
    exact h
  go_enter Tryd.func6, Tryd.ntmps6
  go_upto_region 1 with fail
  obtain ⟨gp, hgp⟩ : ∃ g, w.heap.size = g := ⟨_, rfl⟩
  obtain ⟨gs, hgs⟩ : ∃ g, w.heap.size + 1 = g := ⟨_, rfl⟩
  obtain ⟨go, hgo⟩ : ∃ g, w.heap.size + 1 + 1 = g := ⟨_, rfl⟩
  generalize hW : World.alloc (World.alloc (World.alloc w _) _) _ = W at *
  rw [hgo] at D0 ⊢
  rw [hgs] at S0 ⊢
  rw [hgp] at P0 ⊢
  clear hgp hgs hgo hW
  go_wp2_with fail
  refine (LV.out _ A0.out).mono ?_
  rintro e9 v1 ⟨rfl, k1⟩
  have A1 : Hid (Ab w v1) := A0.out.call k1
  have P1 := hid (Ab.heap k1 P0.out)
  have S1 := hid (Ab.heap k1 S0.out)
  have D1 := hid (Ab.heap k1 D0.out)
  clear k1 A0 P0 S0 D0
  have c0 := cell_of_row _ _ 0 _ _ _ S1.out
  have c1 := cell_of_row _ _ 1 _ _ _ S1.out
  have c2 := cell_of_row _ _ 2 _ _ _ S1.out
  have c3 := cell_of_row _ _ 3 _ _ _ S1.out
  have c4 := cell_of_row _ _ 4 _ _ _ S1.out
  have c5 := cell_of_row _ _ 5 _ _ _ S1.out
  go_wp2_with fail
  refine (NT.out _ A1.out).mono ?_
  rintro e9 v2 ⟨k1, gb, rfl, g1⟩
  have A2 : Hid (Ab w v2) := A1.out.call k1
  have P2 := hid (Ab.heap k1 P1.out)
  have S2 := hid (Ab.heap k1 S1.out)
  have D2 := hid (Ab.heap k1 D1.out)
  have G2 := hid g1
  clear k1 g1 A1 P1 S1 D1 c0 c1 c2 c3 c4 c5 LV NT
  have c0 := cell_of_row _ _ 0 _ _ _ D2.out
  have c1 := cell_of_row _ _ 1 _ _ _ D2.out
  have c2 := cell_of_row _ _ 2 _ _ _ D2.out
  have c3 := cell_of_row _ _ 3 _ _ _ D2.out
  have c4 := cell_of_row _ _ 4 _ _ _ D2.out
  have c5 := cell_of_row _ _ 5 _ _ _ D2.out
  go_wp2_with fail
  refine (LG.out _).mono ?_
  rintro e9 v3 ⟨rfl, k1⟩
  have A3 : Hid (Ab w v3) := A2.out.call k1
  have P3 := hid (Ab.heap k1 P2.out)
  have S3 := hid (Ab.heap k1 S2.out)
  have D3 := hid (Ab.heap k1 D2.out)
  have G3 := hid (G2.out.to k1)
  clear k1 A2 P2 S2 D2 G2 c0 c1 c2 c3 c4 c5 LG
  go_wp2_with fail
  refine (EG.out gb _ A3.out G3.out).mono ?_
  rintro e9 v4 ⟨rfl, k1⟩
  have A4 : Hid (Ab v3 v4) := k1
  clear k1 EG
  go_upto_region 7 with fail
  obtain ⟨ge, hge⟩ : ∃ g, v4.heap.size = g := ⟨_, rfl⟩
  have E5 := hid (heap_alloc_new v4 (.cells #[.int .i64 0, .int .i64 0, .int .i64 0, .int .i64 0] 39))
  have A5 : Hid (Ab v3 (v4.alloc (.cells #[.int .i64 0, .int .i64 0, .int .i64 0, .int .i64 0] 39))) := A4.out.trans (bl1 _ _)
  generalize hV : v4.alloc (.cells #[.int .i64 0, .int .i64 0, .int .i64 0, .int .i64 0] 39) = v5 at *
  rw [hge] at E5 ⊢
  clear hV hge A4
  have S5 := hid (Ab.heap A5.out S3.out)
  have P5 := hid (Ab.heap A5.out P3.out)
  have D5 := hid (Ab.heap A5.out D3.out)
  have G5 := hid (G3.out.to A5.out)
  have W5 : Hid (Ab w v5) := A3.out.trans A5.out
  clear A3 S3 P3 D3 G3 A5
  have c0 := cell_of_row _ _ 0 _ _ _ S5.out
  have c1 := cell_of_row _ _ 1 _ _ _ S5.out
  have c2 := cell_of_row _ _ 2 _ _ _ S5.out
  have c3 := cell_of_row _ _ 3 _ _ _ S5.out
  have c4 := cell_of_row _ _ 4 _ _ _ S5.out
  have c5 := cell_of_row _ _ 5 _ _ _ S5.out
  have p0 := cell_of_row _ _ 0 _ _ _ P5.out
  have p1 := cell_of_row _ _ 1 _ _ _ P5.out
  have p2 := cell_of_row _ _ 2 _ _ _ P5.out
  have p3 := cell_of_row _ _ 3 _ _ _ P5.out
  have p4 := cell_of_row _ _ 4 _ _ _ P5.out
  have p5 := cell_of_row _ _ 5 _ _ _ P5.out
  have p6 := cell_of_row _ _ 6 _ _ _ P5.out
  go_wp2_with fail
  refine (SP.out gb _ W5.out G5.out).mono ?_
  rintro e9 v6 ⟨u, rfl, k1, o1⟩
  obtain ⟨bl, cap, Fl, rfl, hB, h1, h2, rl, hf⟩ := ownG_two o1 N0
  have W6 : Hid (Ab w v6) := W5.out.call k1
  have S6 := hid (Ab.heap k1 S5.out)
  have P6 := hid (Ab.heap k1 P5.out)
  have D6 := hid (Ab.heap k1 D5.out)
  have E6 := hid (Ab.heap k1 E5.out)
  have G6 := hid (G5.out.to k1)
  have RL := hid rl
  have HF := hid hf
  have HC := hid h1
  clear k1 o1 hB h1 h2 rl hf W5 S5 P5 D5 E5 G5 SP p0 p1 p2 p3 p4 p5 p6 c0 c1 c2 c3 c4 c5
  go_wp2
  go_ret
  exact ⟨rfl, W6.out⟩
set_option maxRecDepth 100000 in
set_option maxHeartbeats 16000000 in
theorem local16_empty (side : Int) (n N : Nat) (sd : Int) (dt gr dr : Nat) (lim : Int) (rv : Bool) (pr : Option Addr) (lr cr : Nat) (pb : Option Addr) (lb cb : Nat) (pw : Option Addr) (lw cw : Nat) (pt : Option Addr) (lt ct : Nat) (ps : Option Addr) (ls cs : Nat) (sky st : Int) (k : Nat) (xb : Option Addr) (mb db : Nat) (xw : Option Addr) (mw dw : Nat) (xt : Option Addr) (mq dq : Nat) (xs : Option Addr) (ms ds : Nat) (oky ost : Int) (X : Nat → Nat) (lc rc sl sr : Nat) (q1 q2 q3 : Bool) (w : World) (N0 : 0 < N) (hk : k < N) (h1 : ((mb : Int) == 0) = q1) (h2 : ((mw : Int) == 0) = q2) (h3 : ((ms : Int) == 0) = q3) (hq : (q1 || q2 || q3) = true)
    (LV : Hid (∀ v, Ab w v → Calls Tryd.prog 9 #[] v fun e w' => e = .returned (.bool true) ∧ Below v.heap.size v w'))
    (NT : Hid (∀ v, Ab w v → Calls Tryd.prog 10 #[.int .i64 side, .agg #[.slice pb lb cb, .slice pw lw cw, .slice pt lt ct, .slice ps ls cs, .int .i64 sky, .int .i64 st]] v fun e w' => Below v.heap.size v w' ∧ ∃ gb, e = .returned (.pointer (some ⟨gb, 0, none⟩)) ∧ GridOf n gb w'))
    (LG : Hid (∀ v, Calls Tryd.prog 20 #[.agg #[.slice xb mb db, .slice xw mw dw, .slice xt mq dq, .slice xs ms ds, .int .i64 oky, .int .i64 ost]] v fun e w' => e = .returned (.bool false) ∧ Below v.heap.size v w'))
    (EG : Hid (∀ gb v, Ab w v → GridOf n gb v → Calls Tryd.prog 14 #[.pointer (some ⟨gb, 0, none⟩), .int .i64 (k : Nat)] v fun x w' => x = .returned (.tuple #[.agg #[.int .i64 (lc : Nat), .int .i64 (sl : Nat), .int .i64 (rc : Nat), .int .i64 (sr : Nat)], .bool true]) ∧ Below v.heap.size v w'))
    (SP : Hid (∀ gb v, Ab w v → GridOf n gb v → Calls Tryd.prog 11 #[.pointer (some ⟨gb, 0, none⟩), .agg #[.int .i64 sd, .float .f64 dt, .float .f64 gr, .float .f64 dr, .int .i64 lim, .bool rv, .slice pr lr cr], .agg #[.slice pb lb cb, .slice pw lw cw, .slice pt lt ct, .slice ps ls cs, .int .i64 sky, .int .i64 st]] v fun e w' => ∃ u, e = .returned (.tuple #[u, .int .i64 0]) ∧ Below v.heap.size v w' ∧ OwnG v.heap.size u ((List.range N).map X) w'))
    (SPS : Hid (∀ gb v, Ab w v → GridOf n gb v → Calls Tryd.prog 18 #[.pointer (some ⟨gb, 0, none⟩), .agg #[.int .i64 sd, .float .f64 dt, .float .f64 gr, .float .f64 dr, .int .i64 lim, .bool rv, .slice pr lr cr], .agg #[.slice pb lb cb, .slice pw lw cw, .slice pt lt ct, .slice ps ls cs, .int .i64 sky, .int .i64 st], .int .i64 (k : Nat)] v fun x w' => x = .returned (.float .f64 (X k)) ∧ Below v.heap.size v w')) :
    Calls Tryd.prog 6 #[.int .i64 side, .agg #[.int .i64 sd, .float .f64 dt, .float .f64 gr, .float .f64 dr, .int .i64 lim, .bool rv, .slice pr lr cr], .agg #[.slice pb lb cb, .slice pw lw cw, .slice pt lt ct, .slice ps ls cs, .int .i64 sky, .int .i64 st], .int .i64 (k : Nat), .agg #[.slice xb mb db, .slice xw mw dw, .slice xt mq dq, .slice xs ms ds, .int .i64 oky, .int .i64 ost]] w fun x w' => x = .returned (.bool true) ∧ Below w.heap.size w w' := by
  have HQ := hid hq
  clear hq
  have A0 : Hid (Ab w (((w.alloc (.cells #[.int .i64 sd, .float .f64 dt, .float .f64 gr, .float .f64 dr, .int .i64 lim, .bool rv, .slice pr lr cr] 25)).alloc (.cells #[.slice pb lb cb, .slice pw lw cw, .slice pt lt ct, .slice ps ls cs, .int .i64 sky, .int .i64 st] 29)).alloc (.cells #[.slice xb mb db, .slice xw mw dw, .slice xt mq dq, .slice xs ms ds, .int .i64 oky, .int .i64 ost] 29))) := bl3 _ _ _ _
  have P0 : Hid ((((w.alloc (.cells #[.int .i64 sd, .float .f64 dt, .float .f64 gr, .float .f64 dr, .int .i64 lim, .bool rv, .slice pr lr cr] 25)).alloc (.cells #[.slice pb lb cb, .slice pw lw cw, .slice pt lt ct, .slice ps ls cs, .int .i64 sky, .int .i64 st] 29)).alloc (.cells #[.slice xb mb db, .slice xw mw dw, .slice xt mq dq, .slice xs ms ds, .int .i64 oky, .int .i64 ost] 29)).heap[w.heap.size]? = some (.cells #[.int .i64 sd, .float .f64 dt, .float .f64 gr, .float .f64 dr, .int .i64 lim, .bool rv, .slice pr lr cr] 25)) := Ab.heap (bl1 _ _) (heap_alloc2_old _ _ _)
  have S0 : Hid ((((w.alloc (.cells #[.int .i64 sd, .float .f64 dt, .float .f64 gr, .float .f64 dr, .int .i64 lim, .bool rv, .slice pr lr cr] 25)).alloc (.cells #[.slice pb lb cb, .slice pw lw cw, .slice pt lt ct, .slice ps ls cs, .int .i64 sky, .int .i64 st] 29)).alloc (.cells #[.slice xb mb db, .slice xw mw dw, .slice xt mq dq, .slice xs ms ds, .int .i64 oky, .int .i64 ost] 29)).heap[w.heap.size + 1]? = some (.cells #[.slice pb lb cb, .slice pw lw cw, .slice pt lt ct, .slice ps ls cs, .int .i64 sky, .int .i64 st] 29)) := Ab.heap (bl1 _ _) (heap_alloc2_new _ _ _)
  have D0 : Hid ((((w.alloc (.cells #[.int .i64 sd, .float .f64 dt, .float .f64 gr, .float .f64 dr, .int .i64 lim, .bool rv, .slice pr lr cr] 25)).alloc (.cells #[.slice pb lb cb, .slice pw lw cw, .slice pt lt ct, .slice ps ls cs, .int .i64 sky, .int .i64 st] 29)).alloc (.cells #[.slice xb mb db, .slice xw mw dw, .slice xt mq dq, .slice xs ms ds, .int .i64 oky, .int .i64 ost] 29)).heap[w.heap.size + 1 + 1]? = some (.cells #[.slice xb mb db, .slice xw mw dw, .slice xt mq dq, .slice xs ms ds, .int .i64 oky, .int .i64 ost] 29)) := by
    have h := heap_alloc_new ((w.alloc (.cells #[.int .i64 sd, .float .f64 dt, .float .f64 gr, .float .f64 dr, .int .i64 lim, .bool rv, .slice pr lr cr] 25)).alloc (.cells #[.slice pb lb cb, .slice pw lw cw, .slice pt lt ct, .slice ps ls cs, .int .i64 sky, .int .i64 st] 29)) (.cells #[.slice xb mb db, .slice xw mw dw, .slice xt mq dq, .slice xs ms ds, .int .i64 oky, .int .i64 ost] 29)
    have e : ((w.alloc (.cells #[.int .i64 sd, .float .f64 dt, .float .f64 gr, .float .f64 dr, .int .i64 lim, .bool rv, .slice pr lr cr] 25)).alloc (.cells #[.slice pb lb cb, .slice pw lw cw, .slice pt lt ct, .slice ps ls cs, .int .i64 sky, .int .i64 st] 29)).heap.size = w.heap.size + 1 + 1 := by simp
    rw [e] at h
    exact h
  go_enter Tryd.func6, Tryd.ntmps6
  go_upto_region 1 with fail
  obtain ⟨gp, hgp⟩ : ∃ g, w.heap.size = g := ⟨_, rfl⟩
  obtain ⟨gs, hgs⟩ : ∃ g, w.heap.size + 1 = g := ⟨_, rfl⟩
  obtain ⟨go, hgo⟩ : ∃ g, w.heap.size + 1 + 1 = g := ⟨_, rfl⟩
  generalize hW : World.alloc (World.alloc (World.alloc w _) _) _ = W at *
  rw [hgo] at D0 ⊢
  rw [hgs] at S0 ⊢
  rw [hgp] at P0 ⊢
  clear hgp hgs hgo hW
  go_wp2_with fail
  refine (LV.out _ A0.out).mono ?_
  rintro e9 v1 ⟨rfl, k1⟩
  have A1 : Hid (Ab w v1) := A0.out.call k1
  have P1 := hid (Ab.heap k1 P0.out)
  have S1 := hid (Ab.heap k1 S0.out)
  have D1 := hid (Ab.heap k1 D0.out)
  clear k1 A0 P0 S0 D0
  have c0 := cell_of_row _ _ 0 _ _ _ S1.out
  have c1 := cell_of_row _ _ 1 _ _ _ S1.out
  have c2 := cell_of_row _ _ 2 _ _ _ S1.out
  have c3 := cell_of_row _ _ 3 _ _ _ S1.out
  have c4 := cell_of_row _ _ 4 _ _ _ S1.out
  have c5 := cell_of_row _ _ 5 _ _ _ S1.out
  go_wp2_with fail
  refine (NT.out _ A1.out).mono ?_
  rintro e9 v2 ⟨k1, gb, rfl, g1⟩
  have A2 : Hid (Ab w v2) := A1.out.call k1
  have P2 := hid (Ab.heap k1 P1.out)
  have S2 := hid (Ab.heap k1 S1.out)
  have D2 := hid (Ab.heap k1 D1.out)
  have G2 := hid g1
  clear k1 g1 A1 P1 S1 D1 c0 c1 c2 c3 c4 c5 LV NT
  have c0 := cell_of_row _ _ 0 _ _ _ D2.out
  have c1 := cell_of_row _ _ 1 _ _ _ D2.out
  have c2 := cell_of_row _ _ 2 _ _ _ D2.out
  have c3 := cell_of_row _ _ 3 _ _ _ D2.out
  have c4 := cell_of_row _ _ 4 _ _ _ D2.out
  have c5 := cell_of_row _ _ 5 _ _ _ D2.out
  go_wp2_with fail
  refine (LG.out _).mono ?_
  rintro e9 v3 ⟨rfl, k1⟩
  have A3 : Hid (Ab w v3) := A2.out.call k1
  have P3 := hid (Ab.heap k1 P2.out)
  have S3 := hid (Ab.heap k1 S2.out)
  have D3 := hid (Ab.heap k1 D2.out)
  have G3 := hid (G2.out.to k1)
  clear k1 A2 P2 S2 D2 G2 c0 c1 c2 c3 c4 c5 LG
  go_wp2_with fail
  refine (EG.out gb _ A3.out G3.out).mono ?_
  rintro e9 v4 ⟨rfl, k1⟩
  have A4 : Hid (Ab v3 v4) := k1
  clear k1 EG
  go_upto_region 7 with fail
  obtain ⟨ge, hge⟩ : ∃ g, v4.heap.size = g := ⟨_, rfl⟩
  have E5 := hid (heap_alloc_new v4 (.cells #[.int .i64 (lc : Nat), .int .i64 (sl : Nat), .int .i64 (rc : Nat), .int .i64 (sr : Nat)] 39))
  have A5 : Hid (Ab v3 (v4.alloc (.cells #[.int .i64 (lc : Nat), .int .i64 (sl : Nat), .int .i64 (rc : Nat), .int .i64 (sr : Nat)] 39))) := A4.out.trans (bl1 _ _)
  generalize hV : v4.alloc (.cells #[.int .i64 (lc : Nat), .int .i64 (sl : Nat), .int .i64 (rc : Nat), .int .i64 (sr : Nat)] 39) = v5 at *
  rw [hge] at E5 ⊢
  clear hV hge A4
  have S5 := hid (Ab.heap A5.out S3.out)
  have P5 := hid (Ab.heap A5.out P3.out)
  have D5 := hid (Ab.heap A5.out D3.out)
  have G5 := hid (G3.out.to A5.out)
  have W5 : Hid (Ab w v5) := A3.out.trans A5.out
  clear A3 S3 P3 D3 G3 A5
  have c0 := cell_of_row _ _ 0 _ _ _ S5.out
  have c1 := cell_of_row _ _ 1 _ _ _ S5.out
  have c2 := cell_of_row _ _ 2 _ _ _ S5.out
  have c3 := cell_of_row _ _ 3 _ _ _ S5.out
  have c4 := cell_of_row _ _ 4 _ _ _ S5.out
  have c5 := cell_of_row _ _ 5 _ _ _ S5.out
  have p0 := cell_of_row _ _ 0 _ _ _ P5.out
  have p1 := cell_of_row _ _ 1 _ _ _ P5.out
  have p2 := cell_of_row _ _ 2 _ _ _ P5.out
  have p3 := cell_of_row _ _ 3 _ _ _ P5.out
  have p4 := cell_of_row _ _ 4 _ _ _ P5.out
  have p5 := cell_of_row _ _ 5 _ _ _ P5.out
  have p6 := cell_of_row _ _ 6 _ _ _ P5.out
  go_wp2_with fail
  refine (SP.out gb _ W5.out G5.out).mono ?_
  rintro e9 v6 ⟨u, rfl, k1, o1⟩
  obtain ⟨bl, cap, Fl, rfl, hB, j1, j2, rl, hf⟩ := ownG_two o1 N0
  have W6 : Hid (Ab w v6) := W5.out.call k1
  have S6 := hid (Ab.heap k1 S5.out)
  have P6 := hid (Ab.heap k1 P5.out)
  have D6 := hid (Ab.heap k1 D5.out)
  have E6 := hid (Ab.heap k1 E5.out)
  have G6 := hid (G5.out.to k1)
  have RL := hid rl
  have HF := hid hf
  have HC := hid j1
  clear k1 o1 hB j1 j2 rl hf W5 S5 P5 D5 E5 G5 SP p0 p1 p2 p3 p4 p5 p6 c0 c1 c2 c3 c4 c5
  have HK := hid hk
  have kI : (k : Int) < N := by omega
  have kN : ¬ ((k : Int) < 0) := by omega
  clear hk N0
  have xk := RL.out.cell (i := k) (by have := HC.out; have := HK.out; omega)
  rw [HF.out k HK.out] at xk
  have c0 := cell_of_row _ _ 0 _ _ _ S6.out
  have c1 := cell_of_row _ _ 1 _ _ _ S6.out
  have c2 := cell_of_row _ _ 2 _ _ _ S6.out
  have c3 := cell_of_row _ _ 3 _ _ _ S6.out
  have c4 := cell_of_row _ _ 4 _ _ _ S6.out
  have c5 := cell_of_row _ _ 5 _ _ _ S6.out
  have p0 := cell_of_row _ _ 0 _ _ _ P6.out
  have p1 := cell_of_row _ _ 1 _ _ _ P6.out
  have p2 := cell_of_row _ _ 2 _ _ _ P6.out
  have p3 := cell_of_row _ _ 3 _ _ _ P6.out
  have p4 := cell_of_row _ _ 4 _ _ _ P6.out
  have p5 := cell_of_row _ _ 5 _ _ _ P6.out
  have p6 := cell_of_row _ _ 6 _ _ _ P6.out
  go_wp2_with fail
  refine (SPS.out gb _ W6.out G6.out).mono ?_
  rintro e9 v7 ⟨rfl, k1⟩
  have A7 : Hid (Ab v6 v7) := k1
  clear k1 c0 c1 c2 c3 c4 c5 p0 p1 p2 p3 p4 p5 p6 xk
  have xk := (rowIs.ab RL.out A7.out).cell (i := k) (by have := HC.out; have := HK.out; omega)
  rw [HF.out k HK.out] at xk
  go_wp2_with fail
  refine (same16 (X k) _).mono ?_
  rintro e9 v8 ⟨rfl, hv⟩
  have hv2 := hv.symm
  subst hv2
  have S7 := hid (Ab.heap A7.out S6.out)
  have P7 := hid (Ab.heap A7.out P6.out)
  have D7 := hid (Ab.heap A7.out D6.out)
  have E7 := hid (Ab.heap A7.out E6.out)
  have G7 := hid (G6.out.to A7.out)
  have W7 : Hid (Ab w v7) := W6.out.trans A7.out
  clear xk A7 S6 P6 D6 E6 G6 W6 RL HF HC SPS
  have c0 := cell_of_row _ _ 0 _ _ _ D7.out
  have c1 := cell_of_row _ _ 1 _ _ _ D7.out
  have c3 := cell_of_row _ _ 3 _ _ _ D7.out
  cases q1
  · cases q2
    · cases q3
      · exact absurd HQ.out (by decide)
      · go_wp2
        go_ret
        exact ⟨rfl, W7.out⟩
    · go_wp2
      go_ret
      exact ⟨rfl, W7.out⟩
  · go_wp2
    go_ret
    exact ⟨rfl, W7.out⟩
set_option maxRecDepth 100000 in
set_option maxHeartbeats 64000000 in
theorem local16_go (side : Int) (n M N : Nat) (bb bo wb wo sb so : Nat) (sd : Int) (dt gr dr : Nat) (lim : Int) (rv : Bool) (pr : Option Addr) (lr cr : Nat) (cb : Nat) (B : Nat → Nat) (cw : Nat) (Wt : Nat → Int) (pt : Option Addr) (ct : Nat) (cs : Nat) (Sp : Nat → Nat) (sky st : Int) (Tr : Nat → Int) (k : Nat) (xb xo mb db yb yo mw dw : Nat) (xt : Option Addr) (mq dq zb zo ms ds : Nat) (oky ost : Int) (OB : Nat → Nat) (OW : Nat → Int) (OS : Nat → Nat) (X : Nat → Nat) (lc rc sl sr : Nat) (w : World) (N0 : 0 < N) (hk : k < N) (hN : N ≤ 65536) (hM : M ≤ 65536) (hmb : 0 < mb) (hmw : 0 < mw) (hms : 0 < ms)
    (LV : Hid (∀ v, Ab w v → Calls Tryd.prog 9 #[] v fun e w' => e = .returned (.bool true) ∧ Below v.heap.size v w'))
    (NT : Hid (∀ v, Ab w v → Calls Tryd.prog 10 #[.int .i64 side, .agg #[.slice (some ⟨bb, bo, none⟩) M cb, .slice (some ⟨wb, wo, none⟩) M cw, .slice pt M ct, .slice (some ⟨sb, so, none⟩) N cs, .int .i64 sky, .int .i64 st]] v fun e w' => Below v.heap.size v w' ∧ ∃ gb, e = .returned (.pointer (some ⟨gb, 0, none⟩)) ∧ GridOf n gb w'))
    (LG : Hid (∀ v, Calls Tryd.prog 20 #[.agg #[.slice (some ⟨xb, xo, none⟩) mb db, .slice (some ⟨yb, yo, none⟩) mw dw, .slice xt mq dq, .slice (some ⟨zb, zo, none⟩) ms ds, .int .i64 oky, .int .i64 ost]] v fun e w' => e = .returned (.bool false) ∧ Below v.heap.size v w'))
    (EG : Hid (∀ gb v, Ab w v → GridOf n gb v → Calls Tryd.prog 14 #[.pointer (some ⟨gb, 0, none⟩), .int .i64 (k : Nat)] v fun x w' => x = .returned (.tuple #[.agg #[.int .i64 (lc : Nat), .int .i64 (sl : Nat), .int .i64 (rc : Nat), .int .i64 (sr : Nat)], .bool true]) ∧ Below v.heap.size v w'))
    (SP : Hid (∀ gb v, Ab w v → GridOf n gb v → Calls Tryd.prog 11 #[.pointer (some ⟨gb, 0, none⟩), .agg #[.int .i64 sd, .float .f64 dt, .float .f64 gr, .float .f64 dr, .int .i64 lim, .bool rv, .slice pr lr cr], .agg #[.slice (some ⟨bb, bo, none⟩) M cb, .slice (some ⟨wb, wo, none⟩) M cw, .slice pt M ct, .slice (some ⟨sb, so, none⟩) N cs, .int .i64 sky, .int .i64 st]] v fun e w' => ∃ u, e = .returned (.tuple #[u, .int .i64 0]) ∧ Below v.heap.size v w' ∧ OwnG v.heap.size u ((List.range N).map X) w'))
    (SPS : Hid (∀ gb v, Ab w v → GridOf n gb v → Calls Tryd.prog 18 #[.pointer (some ⟨gb, 0, none⟩), .agg #[.int .i64 sd, .float .f64 dt, .float .f64 gr, .float .f64 dr, .int .i64 lim, .bool rv, .slice pr lr cr], .agg #[.slice (some ⟨bb, bo, none⟩) M cb, .slice (some ⟨wb, wo, none⟩) M cw, .slice pt M ct, .slice (some ⟨sb, so, none⟩) N cs, .int .i64 sky, .int .i64 st], .int .i64 (k : Nat)] v fun x w' => x = .returned (.float .f64 (X k)) ∧ Below v.heap.size v w'))
    (CP : Hid (∀ v, Ab w v → Calls Tryd.prog 19 #[.agg #[.slice (some ⟨bb, bo, none⟩) M cb, .slice (some ⟨wb, wo, none⟩) M cw, .slice pt M ct, .slice (some ⟨sb, so, none⟩) N cs, .int .i64 sky, .int .i64 st]] v fun e w' => ∃ tb tw tt ts, e = .returned (.agg #[.slice (some ⟨tb, 0, none⟩) M (M + 9), .slice (some ⟨tw, 0, none⟩) M (M + 9), .slice (some ⟨tt, 0, none⟩) M (M + 9), .slice (some ⟨ts, 0, none⟩) N (N + 9), .int .i64 sky, .int .i64 st]) ∧ Below v.heap.size v w' ∧ w'.rowIs tb 22 (M + 9) (mkF M (fun k => .float .f64 (B k)) (.float .f64 4635118810238550016) (.float .f64 0)) ∧ w'.rowIs tw 2 (M + 9) (mkF M (fun k => .int .i64 (Wt k)) (.int .i64 77) (.int .i64 0)) ∧ w'.rowIs tt 2 (M + 9) (mkF M (fun k => .int .i64 (Tr k)) (.int .i64 77) (.int .i64 0)) ∧ w'.rowIs ts 22 (N + 9) (mkF N (fun k => .float .f64 (Sp k)) (.float .f64 4635118810238550016) (.float .f64 0)) ∧ (v.heap.size ≤ tb ∧ v.heap.size ≤ tw ∧ v.heap.size ≤ tt ∧ v.heap.size ≤ ts ∧ tb ≠ tw ∧ tb ≠ tt ∧ tb ≠ ts ∧ tw ≠ tt ∧ tw ≠ ts ∧ tt ≠ ts)))
    (SPT : Hid (∀ gb tb tw tt ts v, Ab w v → GridOf n gb v → IsFl v (some ⟨tb, 0, none⟩) M (fun i => if i < M ∧ (i == lc || i == rc) = false then OB (i % mb) else B i) → IsIn v (some ⟨tw, 0, none⟩) M (fun i => if i < M ∧ (i == lc || i == rc) = false then OW (i % mw) else Wt i) → IsFl v (some ⟨ts, 0, none⟩) N (fun i => if i < N ∧ (i == k) = false then OS (i % ms) else Sp i) → Calls Tryd.prog 18 #[.pointer (some ⟨gb, 0, none⟩), .agg #[.int .i64 sd, .float .f64 dt, .float .f64 gr, .float .f64 dr, .int .i64 lim, .bool rv, .slice pr lr cr], .agg #[.slice (some ⟨tb, 0, none⟩) M (M + 9), .slice (some ⟨tw, 0, none⟩) M (M + 9), .slice (some ⟨tt, 0, none⟩) M (M + 9), .slice (some ⟨ts, 0, none⟩) N (N + 9), .int .i64 sky, .int .i64 st], .int .i64 (k : Nat)] v fun x w' => x = .returned (.float .f64 (X k)) ∧ Below v.heap.size v w'))
    (IB : Hid (IsFl w (some ⟨bb, bo, none⟩) M B)) (IW : Hid (IsIn w (some ⟨wb, wo, none⟩) M Wt)) (IS : Hid (IsFl w (some ⟨sb, so, none⟩) N Sp))
    (JB : Hid (IsFl w (some ⟨xb, xo, none⟩) mb OB)) (JW : Hid (IsIn w (some ⟨yb, yo, none⟩) mw OW)) (JS : Hid (IsFl w (some ⟨zb, zo, none⟩) ms OS)) :
    Calls Tryd.prog 6 #[.int .i64 side, .agg #[.int .i64 sd, .float .f64 dt, .float .f64 gr, .float .f64 dr, .int .i64 lim, .bool rv, .slice pr lr cr], .agg #[.slice (some ⟨bb, bo, none⟩) M cb, .slice (some ⟨wb, wo, none⟩) M cw, .slice pt M ct, .slice (some ⟨sb, so, none⟩) N cs, .int .i64 sky, .int .i64 st], .int .i64 (k : Nat), .agg #[.slice (some ⟨xb, xo, none⟩) mb db, .slice (some ⟨yb, yo, none⟩) mw dw, .slice xt mq dq, .slice (some ⟨zb, zo, none⟩) ms ds, .int .i64 oky, .int .i64 ost]] w fun x w' => x = .returned (.bool true) ∧ Below w.heap.size w w' := by
  have HO : Hid (0 < mb ∧ 0 < mw ∧ 0 < ms) := ⟨hmb, hmw, hms⟩
  have b1 : ((mb : Int) == 0) = false := by rw [beq_eq_false_iff_ne]; omega
  have b2 : ((mw : Int) == 0) = false := by rw [beq_eq_false_iff_ne]; omega
  have b3 : ((ms : Int) == 0) = false := by rw [beq_eq_false_iff_ne]; omega
  have NB := hid hN
  have MB := hid hM
  clear hmb hmw hms hN hM
  have A0 : Hid (Ab w (((w.alloc (.cells #[.int .i64 sd, .float .f64 dt, .float .f64 gr, .float .f64 dr, .int .i64 lim, .bool rv, .slice pr lr cr] 25)).alloc (.cells #[.slice (some ⟨bb, bo, none⟩) M cb, .slice (some ⟨wb, wo, none⟩) M cw, .slice pt M ct, .slice (some ⟨sb, so, none⟩) N cs, .int .i64 sky, .int .i64 st] 29)).alloc (.cells #[.slice (some ⟨xb, xo, none⟩) mb db, .slice (some ⟨yb, yo, none⟩) mw dw, .slice xt mq dq, .slice (some ⟨zb, zo, none⟩) ms ds, .int .i64 oky, .int .i64 ost] 29))) := bl3 _ _ _ _
  have P0 : Hid ((((w.alloc (.cells #[.int .i64 sd, .float .f64 dt, .float .f64 gr, .float .f64 dr, .int .i64 lim, .bool rv, .slice pr lr cr] 25)).alloc (.cells #[.slice (some ⟨bb, bo, none⟩) M cb, .slice (some ⟨wb, wo, none⟩) M cw, .slice pt M ct, .slice (some ⟨sb, so, none⟩) N cs, .int .i64 sky, .int .i64 st] 29)).alloc (.cells #[.slice (some ⟨xb, xo, none⟩) mb db, .slice (some ⟨yb, yo, none⟩) mw dw, .slice xt mq dq, .slice (some ⟨zb, zo, none⟩) ms ds, .int .i64 oky, .int .i64 ost] 29)).heap[w.heap.size]? = some (.cells #[.int .i64 sd, .float .f64 dt, .float .f64 gr, .float .f64 dr, .int .i64 lim, .bool rv, .slice pr lr cr] 25)) := Ab.heap (bl1 _ _) (heap_alloc2_old _ _ _)
  have S0 : Hid ((((w.alloc (.cells #[.int .i64 sd, .float .f64 dt, .float .f64 gr, .float .f64 dr, .int .i64 lim, .bool rv, .slice pr lr cr] 25)).alloc (.cells #[.slice (some ⟨bb, bo, none⟩) M cb, .slice (some ⟨wb, wo, none⟩) M cw, .slice pt M ct, .slice (some ⟨sb, so, none⟩) N cs, .int .i64 sky, .int .i64 st] 29)).alloc (.cells #[.slice (some ⟨xb, xo, none⟩) mb db, .slice (some ⟨yb, yo, none⟩) mw dw, .slice xt mq dq, .slice (some ⟨zb, zo, none⟩) ms ds, .int .i64 oky, .int .i64 ost] 29)).heap[w.heap.size + 1]? = some (.cells #[.slice (some ⟨bb, bo, none⟩) M cb, .slice (some ⟨wb, wo, none⟩) M cw, .slice pt M ct, .slice (some ⟨sb, so, none⟩) N cs, .int .i64 sky, .int .i64 st] 29)) := Ab.heap (bl1 _ _) (heap_alloc2_new _ _ _)
  have D0 : Hid ((((w.alloc (.cells #[.int .i64 sd, .float .f64 dt, .float .f64 gr, .float .f64 dr, .int .i64 lim, .bool rv, .slice pr lr cr] 25)).alloc (.cells #[.slice (some ⟨bb, bo, none⟩) M cb, .slice (some ⟨wb, wo, none⟩) M cw, .slice pt M ct, .slice (some ⟨sb, so, none⟩) N cs, .int .i64 sky, .int .i64 st] 29)).alloc (.cells #[.slice (some ⟨xb, xo, none⟩) mb db, .slice (some ⟨yb, yo, none⟩) mw dw, .slice xt mq dq, .slice (some ⟨zb, zo, none⟩) ms ds, .int .i64 oky, .int .i64 ost] 29)).heap[w.heap.size + 1 + 1]? = some (.cells #[.slice (some ⟨xb, xo, none⟩) mb db, .slice (some ⟨yb, yo, none⟩) mw dw, .slice xt mq dq, .slice (some ⟨zb, zo, none⟩) ms ds, .int .i64 oky, .int .i64 ost] 29)) := by
    have h := heap_alloc_new ((w.alloc (.cells #[.int .i64 sd, .float .f64 dt, .float .f64 gr, .float .f64 dr, .int .i64 lim, .bool rv, .slice pr lr cr] 25)).alloc (.cells #[.slice (some ⟨bb, bo, none⟩) M cb, .slice (some ⟨wb, wo, none⟩) M cw, .slice pt M ct, .slice (some ⟨sb, so, none⟩) N cs, .int .i64 sky, .int .i64 st] 29)) (.cells #[.slice (some ⟨xb, xo, none⟩) mb db, .slice (some ⟨yb, yo, none⟩) mw dw, .slice xt mq dq, .slice (some ⟨zb, zo, none⟩) ms ds, .int .i64 oky, .int .i64 ost] 29)
    have e : ((w.alloc (.cells #[.int .i64 sd, .float .f64 dt, .float .f64 gr, .float .f64 dr, .int .i64 lim, .bool rv, .slice pr lr cr] 25)).alloc (.cells #[.slice (some ⟨bb, bo, none⟩) M cb, .slice (some ⟨wb, wo, none⟩) M cw, .slice pt M ct, .slice (some ⟨sb, so, none⟩) N cs, .int .i64 sky, .int .i64 st] 29)).heap.size = w.heap.size + 1 + 1 := by simp
    rw [e] at h
    exact h
  go_enter Tryd.func6, Tryd.ntmps6
  go_upto_region 1 with fail
  obtain ⟨gp, hgp⟩ : ∃ g, w.heap.size = g := ⟨_, rfl⟩
  obtain ⟨gs, hgs⟩ : ∃ g, w.heap.size + 1 = g := ⟨_, rfl⟩
  obtain ⟨go, hgo⟩ : ∃ g, w.heap.size + 1 + 1 = g := ⟨_, rfl⟩
  generalize hW : World.alloc (World.alloc (World.alloc w _) _) _ = W at *
  rw [hgo] at D0 ⊢
  rw [hgs] at S0 ⊢
  rw [hgp] at P0 ⊢
  clear hgp hgs hgo hW
  go_wp2_with fail
  refine (LV.out _ A0.out).mono ?_
  rintro e9 v1 ⟨rfl, k1⟩
  have A1 : Hid (Ab w v1) := A0.out.call k1
  have P1 := hid (Ab.heap k1 P0.out)
  have S1 := hid (Ab.heap k1 S0.out)
  have D1 := hid (Ab.heap k1 D0.out)
  clear k1 A0 P0 S0 D0
  have c0 := cell_of_row _ _ 0 _ _ _ S1.out
  have c1 := cell_of_row _ _ 1 _ _ _ S1.out
  have c2 := cell_of_row _ _ 2 _ _ _ S1.out
  have c3 := cell_of_row _ _ 3 _ _ _ S1.out
  have c4 := cell_of_row _ _ 4 _ _ _ S1.out
  have c5 := cell_of_row _ _ 5 _ _ _ S1.out
  go_wp2_with fail
  refine (NT.out _ A1.out).mono ?_
  rintro e9 v2 ⟨k1, gb, rfl, g1⟩
  have A2 : Hid (Ab w v2) := A1.out.call k1
  have P2 := hid (Ab.heap k1 P1.out)
  have S2 := hid (Ab.heap k1 S1.out)
  have D2 := hid (Ab.heap k1 D1.out)
  have G2 := hid g1
  clear k1 g1 A1 P1 S1 D1 c0 c1 c2 c3 c4 c5 LV NT
  have c0 := cell_of_row _ _ 0 _ _ _ D2.out
  have c1 := cell_of_row _ _ 1 _ _ _ D2.out
  have c2 := cell_of_row _ _ 2 _ _ _ D2.out
  have c3 := cell_of_row _ _ 3 _ _ _ D2.out
  have c4 := cell_of_row _ _ 4 _ _ _ D2.out
  have c5 := cell_of_row _ _ 5 _ _ _ D2.out
  go_wp2_with fail
  refine (LG.out _).mono ?_
  rintro e9 v3 ⟨rfl, k1⟩
  have A3 : Hid (Ab w v3) := A2.out.call k1
  have P3 := hid (Ab.heap k1 P2.out)
  have S3 := hid (Ab.heap k1 S2.out)
  have D3 := hid (Ab.heap k1 D2.out)
  have G3 := hid (G2.out.to k1)
  clear k1 A2 P2 S2 D2 G2 c0 c1 c2 c3 c4 c5 LG
  go_wp2_with fail
  refine (EG.out gb _ A3.out G3.out).mono ?_
  rintro e9 v4 ⟨rfl, k1⟩
  have A4 : Hid (Ab v3 v4) := k1
  clear k1 EG
  go_upto_region 7 with fail
  obtain ⟨ge, hge⟩ : ∃ g, v4.heap.size = g := ⟨_, rfl⟩
  have E5 := hid (heap_alloc_new v4 (.cells #[.int .i64 (lc : Nat), .int .i64 (sl : Nat), .int .i64 (rc : Nat), .int .i64 (sr : Nat)] 39))
  have A5 : Hid (Ab v3 (v4.alloc (.cells #[.int .i64 (lc : Nat), .int .i64 (sl : Nat), .int .i64 (rc : Nat), .int .i64 (sr : Nat)] 39))) := A4.out.trans (bl1 _ _)
  generalize hV : v4.alloc (.cells #[.int .i64 (lc : Nat), .int .i64 (sl : Nat), .int .i64 (rc : Nat), .int .i64 (sr : Nat)] 39) = v5 at *
  rw [hge] at E5 ⊢
  clear hV hge A4
  have S5 := hid (Ab.heap A5.out S3.out)
  have P5 := hid (Ab.heap A5.out P3.out)
  have D5 := hid (Ab.heap A5.out D3.out)
  have G5 := hid (G3.out.to A5.out)
  have W5 : Hid (Ab w v5) := A3.out.trans A5.out
  clear A3 S3 P3 D3 G3 A5
  have c0 := cell_of_row _ _ 0 _ _ _ S5.out
  have c1 := cell_of_row _ _ 1 _ _ _ S5.out
  have c2 := cell_of_row _ _ 2 _ _ _ S5.out
  have c3 := cell_of_row _ _ 3 _ _ _ S5.out
  have c4 := cell_of_row _ _ 4 _ _ _ S5.out
  have c5 := cell_of_row _ _ 5 _ _ _ S5.out
  have p0 := cell_of_row _ _ 0 _ _ _ P5.out
  have p1 := cell_of_row _ _ 1 _ _ _ P5.out
  have p2 := cell_of_row _ _ 2 _ _ _ P5.out
  have p3 := cell_of_row _ _ 3 _ _ _ P5.out
  have p4 := cell_of_row _ _ 4 _ _ _ P5.out
  have p5 := cell_of_row _ _ 5 _ _ _ P5.out
  have p6 := cell_of_row _ _ 6 _ _ _ P5.out
  go_wp2_with fail
  refine (SP.out gb _ W5.out G5.out).mono ?_
  rintro e9 v6 ⟨u, rfl, k1, o1⟩
  obtain ⟨bl, cap, Fl, rfl, hB, h1, h2, rl, hf⟩ := ownG_two o1 N0
  have W6 : Hid (Ab w v6) := W5.out.call k1
  have S6 := hid (Ab.heap k1 S5.out)
  have P6 := hid (Ab.heap k1 P5.out)
  have D6 := hid (Ab.heap k1 D5.out)
  have E6 := hid (Ab.heap k1 E5.out)
  have G6 := hid (G5.out.to k1)
  have RL := hid rl
  have HF := hid hf
  have HC := hid h1
  clear k1 o1 hB h1 h2 rl hf W5 S5 P5 D5 E5 G5 SP p0 p1 p2 p3 p4 p5 p6 c0 c1 c2 c3 c4 c5
  have HK := hid hk
  have kI : (k : Int) < N := by omega
  have kN : ¬ ((k : Int) < 0) := by omega
  clear hk N0
  have xk := RL.out.cell (i := k) (by have := HC.out; have := HK.out; omega)
  rw [HF.out k HK.out] at xk
  have c0 := cell_of_row _ _ 0 _ _ _ S6.out
  have c1 := cell_of_row _ _ 1 _ _ _ S6.out
  have c2 := cell_of_row _ _ 2 _ _ _ S6.out
  have c3 := cell_of_row _ _ 3 _ _ _ S6.out
  have c4 := cell_of_row _ _ 4 _ _ _ S6.out
  have c5 := cell_of_row _ _ 5 _ _ _ S6.out
  have p0 := cell_of_row _ _ 0 _ _ _ P6.out
  have p1 := cell_of_row _ _ 1 _ _ _ P6.out
  have p2 := cell_of_row _ _ 2 _ _ _ P6.out
  have p3 := cell_of_row _ _ 3 _ _ _ P6.out
  have p4 := cell_of_row _ _ 4 _ _ _ P6.out
  have p5 := cell_of_row _ _ 5 _ _ _ P6.out
  have p6 := cell_of_row _ _ 6 _ _ _ P6.out
  go_wp2_with fail
  refine (SPS.out gb _ W6.out G6.out).mono ?_
  rintro e9 v7 ⟨rfl, k1⟩
  have A7 : Hid (Ab v6 v7) := k1
  clear k1 c0 c1 c2 c3 c4 c5 p0 p1 p2 p3 p4 p5 p6 xk
  have xk := (rowIs.ab RL.out A7.out).cell (i := k) (by have := HC.out; have := HK.out; omega)
  rw [HF.out k HK.out] at xk
  go_wp2_with fail
  refine (same16 (X k) _).mono ?_
  rintro e9 v8 ⟨rfl, hv⟩
  have hv2 := hv.symm
  subst hv2
  have S7 := hid (Ab.heap A7.out S6.out)
  have P7 := hid (Ab.heap A7.out P6.out)
  have D7 := hid (Ab.heap A7.out D6.out)
  have E7 := hid (Ab.heap A7.out E6.out)
  have G7 := hid (G6.out.to A7.out)
  have W7 : Hid (Ab w v7) := W6.out.trans A7.out
  clear xk A7 S6 P6 D6 E6 G6 W6 RL HF HC SPS
  have c0 := cell_of_row _ _ 0 _ _ _ D7.out
  have c1 := cell_of_row _ _ 1 _ _ _ D7.out
  have c3 := cell_of_row _ _ 3 _ _ _ D7.out
  have s0 := cell_of_row _ _ 0 _ _ _ S7.out
  have s1 := cell_of_row _ _ 1 _ _ _ S7.out
  have s2 := cell_of_row _ _ 2 _ _ _ S7.out
  have s3 := cell_of_row _ _ 3 _ _ _ S7.out
  have s4 := cell_of_row _ _ 4 _ _ _ S7.out
  have s5 := cell_of_row _ _ 5 _ _ _ S7.out
  go_wp2_with fail
  refine (CP.out _ W7.out).mono ?_
  rintro e9 v8 ⟨tb, tw, tt, ts, rfl, k6, r1, r2, r3, r4, nb⟩
  clear CP c0 c1 c3 s0 s1 s2 s3 s4 s5 b1 b2 b3
  go_upto_region 16 with fail
  have hge6 : tb < v8.heap.size ∧ tw < v8.heap.size ∧ tt < v8.heap.size ∧ ts < v8.heap.size := ⟨r1.lt, r2.lt, r3.lt, r4.lt⟩
  obtain ⟨gt, hgt⟩ : ∃ g, v8.heap.size = g := ⟨_, rfl⟩
  have CX : Hid (CpX v7 gt tb tw tt ts M N #[.slice (some ⟨tb, 0, none⟩) M (M + 9), .slice (some ⟨tw, 0, none⟩) M (M + 9), .slice (some ⟨tt, 0, none⟩) M (M + 9), .slice (some ⟨ts, 0, none⟩) N (N + 9), .int .i64 sky, .int .i64 st] 29 (.float .f64 4635118810238550016) (.int .i64 77) (.float .f64 0) (.int .i64 0) (fun k => .float .f64 (B k)) (fun k => .int .i64 (Wt k)) (fun k => .int .i64 (Tr k)) (fun k => .float .f64 (Sp k)) (v8.alloc (.cells #[.slice (some ⟨tb, 0, none⟩) M (M + 9), .slice (some ⟨tw, 0, none⟩) M (M + 9), .slice (some ⟨tt, 0, none⟩) M (M + 9), .slice (some ⟨ts, 0, none⟩) N (N + 9), .int .i64 sky, .int .i64 st] 29))) := ⟨Ab.trans k6 (bl1 _ _), by rw [← hgt]; exact heap_alloc_new _ _, r1.alloc _, r2.alloc _, r3.alloc _, r4.alloc _⟩
  have UN : Hid (Unl v7 gt tb tw tt ts) := by
    obtain ⟨n1, n2, n3, n4, n5, n6, n7, n8, n9, n10⟩ := nb
    exact ⟨⟨n1, n2, n3, n4⟩, ⟨by omega, by omega, by omega, by omega⟩, n5, n6, n7, n8, n9, n10⟩
  clear r1 r2 r3 r4 nb k6 hge6
  generalize v8.alloc (.cells #[.slice (some ⟨tb, 0, none⟩) M (M + 9), .slice (some ⟨tw, 0, none⟩) M (M + 9), .slice (some ⟨tt, 0, none⟩) M (M + 9), .slice (some ⟨ts, 0, none⟩) N (N + 9), .int .i64 sky, .int .i64 st] 29) = a0 at *
  rw [hgt]
  clear hgt
  have c0 := cell_of_row _ _ 0 _ _ _ CX.out.2.1
  go_wp2
  clear c0
  go_loopw [18] (fun iv wr => ∃ c : Nat, c ≤ M ∧ iv = .int .i64 (c : Nat) ∧ CpX v7 gt tb tw tt ts M N #[.slice (some ⟨tb, 0, none⟩) M (M + 9), .slice (some ⟨tw, 0, none⟩) M (M + 9), .slice (some ⟨tt, 0, none⟩) M (M + 9), .slice (some ⟨ts, 0, none⟩) N (N + 9), .int .i64 sky, .int .i64 st] 29 (.float .f64 4635118810238550016) (.int .i64 77) (.float .f64 0) (.int .i64 0) (fun i => .float .f64 (if i < c ∧ (i == lc || i == rc) = false then OB (i % mb) else B i)) (fun i => .int .i64 (if i < c ∧ (i == lc || i == rc) = false then OW (i % mw) else Wt i)) (fun i => .int .i64 (if i < c then 5 else Tr i)) (fun k => .float .f64 (Sp k)) wr) (fun iv _ => M - (intOf iv).toNat)
  case atStart => exact ⟨0, by omega, rfl, CX.out.congr (fun k _ => by simp) (fun k _ => by simp) (fun k _ => by simp) (fun k _ => rfl)⟩
  case round =>
    obtain ⟨c, hc, rfl, cx⟩ := hrel
    have CR := hid cx
    clear cx CX
    have t0 := cell_of_row _ _ 0 _ _ _ CR.out.2.1
    by_cases hcM : c < M
    · have HC := hid hcM
      have hcI : (c : Int) < M := by omega
      have hcB : (c : Int) ≤ 65536 := by have := MB.out; omega
      have e0 := cell_of_row _ _ 0 _ _ _ (CR.out.1.heap E7.out)
      have e2 := cell_of_row _ _ 2 _ _ _ (CR.out.1.heap E7.out)
      have t2 := cell_of_row _ _ 2 _ _ _ CR.out.2.1
      have xc := CR.out.2.2.2.2.1.cell (show c < M + 9 by omega)
      have xf := CR.out.2.2.2.2.1.frozen c
      clear hcM
      go_upto_region 20 with fail
      have C0 : Hid (CpX v7 gt tb tw tt ts M N #[.slice (some ⟨tb, 0, none⟩) M (M + 9), .slice (some ⟨tw, 0, none⟩) M (M + 9), .slice (some ⟨tt, 0, none⟩) M (M + 9), .slice (some ⟨ts, 0, none⟩) N (N + 9), .int .i64 sky, .int .i64 st] 29 (.float .f64 4635118810238550016) (.int .i64 77) (.float .f64 0) (.int .i64 0) (fun i => .float .f64 (if i < c ∧ (i == lc || i == rc) = false then OB (i % mb) else B i)) (fun i => .int .i64 (if i < c ∧ (i == lc || i == rc) = false then OW (i % mw) else Wt i)) (fun i => .int .i64 (if i < c + 1 then 5 else Tr i)) (fun k => .float .f64 (Sp k)) (wr.setCell ⟨tt, c, none⟩ (.int .i64 5))) := (CR.out.setT UN.out c (.int .i64 5) HC.out).congr (fun _ _ => rfl) (fun _ _ => rfl) (fun i _ => by
        by_cases e : i = c
        · subst e; simp
        · have e3 : (i < c + 1) ↔ i < c := by omega
          simp [e, e3]) (fun _ _ => rfl)
      clear xc xf t2 t0 e0 e2 CR
      generalize World.setCell wr _ _ = y0 at *
      have CR := C0
      clear C0
      have e0 := cell_of_row _ _ 0 _ _ _ (CR.out.1.heap E7.out)
      have e2 := cell_of_row _ _ 2 _ _ _ (CR.out.1.heap E7.out)
      by_cases el : c = lc
      · have FC : Hid ((c == lc || c == rc) = true) := by show _ = _; simp [el]
        have n1 : ((c : Int) != (lc : Int)) = false := by rw [el]; simp
        clear el
        go_wp2
        exact ⟨⟨c + 1, by have := HC.out; omega, by simp, CR.out.congr (fun j _ => upd_yes (F := fun i => i == lc || i == rc) (Value.float .f64) (fun i => OB (i % mb)) B FC.out j) (fun j _ => upd_yes (F := fun i => i == lc || i == rc) (Value.int .i64) (fun i => OW (i % mw)) Wt FC.out j) (fun _ _ => rfl) (fun _ _ => rfl)⟩, by have := HC.out; simp [intOf]; omega⟩
      · have n1 : ((c : Int) != (lc : Int)) = true := by rw [bne_iff_ne]; omega
        by_cases er : c = rc
        · have FC : Hid ((c == lc || c == rc) = true) := by show _ = _; simp [er]
          have n2 : ((c : Int) != (rc : Int)) = false := by rw [er]; simp
          clear el er
          go_wp2
          exact ⟨⟨c + 1, by have := HC.out; omega, by simp, CR.out.congr (fun j _ => upd_yes (F := fun i => i == lc || i == rc) (Value.float .f64) (fun i => OB (i % mb)) B FC.out j) (fun j _ => upd_yes (F := fun i => i == lc || i == rc) (Value.int .i64) (fun i => OW (i % mw)) Wt FC.out j) (fun _ _ => rfl) (fun _ _ => rfl)⟩, by have := HC.out; simp [intOf]; omega⟩
        · have FC : Hid ((c == lc || c == rc) = false) := by show _ = _; simp [el, er]
          have n2 : ((c : Int) != (rc : Int)) = true := by rw [bne_iff_ne]; omega
          clear el er
          obtain ⟨m1, hm1⟩ : ∃ y, c % mb = y := ⟨_, rfl⟩
          have lm1 : m1 < mb := by rw [← hm1]; exact Nat.mod_lt _ (by have := HO.out; omega)
          have im1 : (m1 : Int) < mb := by omega
          have tm1 : (c : Int).tmod mb = m1 := by rw [← hm1]; rw [Int.tmod_eq_emod_of_nonneg (by omega)]; rfl
          have Hm1 := hid hm1
          have Lm1 := hid lm1
          clear hm1 lm1
          have mbz : ¬ (((mb : Nat) : Int) = 0) := by have := HO.out; omega
          have mby : (((mb : Nat) : Int) == 0) = false := by have := HO.out; rw [beq_eq_false_iff_ne]; omega
          obtain ⟨m2, hm2⟩ : ∃ y, c % mw = y := ⟨_, rfl⟩
          have lm2 : m2 < mw := by rw [← hm2]; exact Nat.mod_lt _ (by have := HO.out; omega)
          have im2 : (m2 : Int) < mw := by omega
          have tm2 : (c : Int).tmod mw = m2 := by rw [← hm2]; rw [Int.tmod_eq_emod_of_nonneg (by omega)]; rfl
          have Hm2 := hid hm2
          have Lm2 := hid lm2
          clear hm2 lm2
          have mwz : ¬ (((mw : Nat) : Int) = 0) := by have := HO.out; omega
          have mwy : (((mw : Nat) : Int) == 0) = false := by have := HO.out; rw [beq_eq_false_iff_ne]; omega
          go_upto_region 21 with fail
          clear e0 e2
          obtain ⟨UU, E, hF1, hF2⟩ := cls y0
          have HU := hid hF2
          have HU1 := hid hF1
          have ta : ∀ u, (E u).cell? ⟨gt, 0, none⟩ = some (.slice (some ⟨tb, 0, none⟩) M (M + 9)) := fun u => cell_of_row _ _ 0 _ _ _ ((CR.out.to (hF1 u)).2.1)
          have tbb : ∀ u, (E u).cell? ⟨go, 0, none⟩ = some (.slice (some ⟨xb, xo, none⟩) mb db) := fun u => cell_of_row _ _ 0 _ _ _ ((CR.out.1.trans (hF1 u)).heap D7.out)
          have tc : ∀ u, (E u).cell? ⟨xb, xo + m1, none⟩ = some (.float .f64 (OB m1)) := fun u => ((JB.out.below (W7.out.trans (CR.out.1.trans (hF1 u)))).at0 Lm1.out).2.2
          have DD0 := HU.out _ (Ab.refl y0).drew
          clear hF1 hF2
          refine region_tail 13 E (by kernel_rfl) (by kernel_rfl) (by kernel_rfl) DD0 ?_
          simp only [List.take_succ_cons, List.take_zero, List.drop_succ_cons, List.drop_zero]
          repeat (go_big_quiet_step (first
            | (with_reducible rfl)))
          refine wpQuiet_nil ?_
          intro yz hwz
          obtain ⟨u0, hu⟩ := hwz
          have AZ : Hid (Ab y0 yz) := by rw [hu]; exact HU1.out u0
          clear hu u0
          clear HU HU1 DD0 ta tbb tc
          clear E UU
          have C1 := hid (CR.out.to AZ.out)
          have xc := C1.out.2.2.1.cell (show c < M + 9 by have := HC.out; omega)
          have xf := C1.out.2.2.1.frozen c
          have S1 := hid (C1.out.setB UN.out c (.float .f64 (OB m1)) HC.out)
          clear AZ CR
          go_upto_region 22 with fail
          clear xc xf C1
          generalize World.setCell yz _ _ = u1 at *
          have CR := S1
          clear S1
          obtain ⟨UU, E, hF1, hF2⟩ := cls u1
          have HU := hid hF2
          have HU1 := hid hF1
          have ta : ∀ u, (E u).cell? ⟨gt, 1, none⟩ = some (.slice (some ⟨tw, 0, none⟩) M (M + 9)) := fun u => cell_of_row _ _ 1 _ _ _ ((CR.out.to (hF1 u)).2.1)
          have tbb : ∀ u, (E u).cell? ⟨go, 1, none⟩ = some (.slice (some ⟨yb, yo, none⟩) mw dw) := fun u => cell_of_row _ _ 1 _ _ _ ((CR.out.1.trans (hF1 u)).heap D7.out)
          have tc : ∀ u, (E u).cell? ⟨yb, yo + m2, none⟩ = some (.int .i64 (OW m2)) := fun u => ((JW.out.below (W7.out.trans (CR.out.1.trans (hF1 u)))).at0 Lm2.out).2.2
          have DD0 := HU.out _ (Ab.refl u1).drew
          clear hF1 hF2
          refine region_tail 13 E (by kernel_rfl) (by kernel_rfl) (by kernel_rfl) DD0 ?_
          simp only [List.take_succ_cons, List.take_zero, List.drop_succ_cons, List.drop_zero]
          repeat (go_big_quiet_step (first
            | (with_reducible rfl)))
          refine wpQuiet_nil ?_
          intro yz hwz
          obtain ⟨u0, hu⟩ := hwz
          have AZ : Hid (Ab u1 yz) := by rw [hu]; exact HU1.out u0
          clear hu u0
          clear HU HU1 DD0 ta tbb tc
          clear E UU
          have C1 := hid (CR.out.to AZ.out)
          have xc := C1.out.2.2.2.1.cell (show c < M + 9 by have := HC.out; omega)
          have xf := C1.out.2.2.2.1.frozen c
          have S1 := hid (C1.out.setW UN.out c (.int .i64 (OW m2)) HC.out)
          clear AZ CR
          go_wp2
          refine ⟨⟨c + 1, by have := HC.out; omega, by simp, S1.out.congr (fun j _ => ?_) (fun j _ => ?_) (fun _ _ => rfl) (fun _ _ => rfl)⟩, by have := HC.out; simp [intOf]; omega⟩
          · rw [← Hm1.out]; exact upd_no (F := fun i => i == lc || i == rc) (Value.float .f64) (fun i => OB (i % mb)) B FC.out j
          · rw [← Hm2.out]; exact upd_no (F := fun i => i == lc || i == rc) (Value.int .i64) (fun i => OW (i % mw)) Wt FC.out j
    · have e6 : M = c := by omega
      subst e6
      have CY := CR
      clear CR
      go_upto_region 23 with fail
      clear t0
      have t3 := cell_of_row _ _ 3 _ _ _ CY.out.2.1
      go_wp2
      clear t3
      go_loopw [19] (fun iv w2 => ∃ c : Nat, c ≤ N ∧ iv = .int .i64 (c : Nat) ∧ CpX v7 gt tb tw tt ts M N #[.slice (some ⟨tb, 0, none⟩) M (M + 9), .slice (some ⟨tw, 0, none⟩) M (M + 9), .slice (some ⟨tt, 0, none⟩) M (M + 9), .slice (some ⟨ts, 0, none⟩) N (N + 9), .int .i64 sky, .int .i64 st] 29 (.float .f64 4635118810238550016) (.int .i64 77) (.float .f64 0) (.int .i64 0) (fun i => .float .f64 (if i < M ∧ (i == lc || i == rc) = false then OB (i % mb) else B i)) (fun i => .int .i64 (if i < M ∧ (i == lc || i == rc) = false then OW (i % mw) else Wt i)) (fun i => .int .i64 (if i < M then 5 else Tr i)) (fun i => .float .f64 (if i < c ∧ (i == k) = false then OS (i % ms) else Sp i)) w2) (fun iv _ => N - (intOf iv).toNat)
      case atStart => exact ⟨0, by omega, rfl, CY.out.congr (fun _ _ => rfl) (fun _ _ => rfl) (fun _ _ => rfl) (fun _ _ => by simp)⟩
      case round =>
        obtain ⟨c, hc, rfl, cx⟩ := hrel
        have CR := hid cx
        clear cx CY
        have t3 := cell_of_row _ _ 3 _ _ _ CR.out.2.1
        by_cases hcN : c < N
        · have HC := hid hcN
          have hcI : (c : Int) < N := by omega
          have hcB : (c : Int) ≤ 65536 := by have := NB.out; omega
          clear hcN
          by_cases ek : c = k
          · have n1 : ((c : Int) != (k : Int)) = false := by rw [ek]; simp
            have EK := hid ek
            clear ek
            go_wp2
            exact ⟨⟨c + 1, by have := HC.out; omega, by simp, CR.out.congr (fun _ _ => rfl) (fun _ _ => rfl) (fun _ _ => rfl) (fun j _ => upd_yes (F := fun j => j == k) (Value.float .f64) (fun j => OS (j % ms)) Sp (by simp [EK.out]) j)⟩, by have := HC.out; simp [intOf]; omega⟩
          · have n1 : ((c : Int) != (k : Int)) = true := by rw [bne_iff_ne]; omega
            have EK := hid ek
            clear ek
            obtain ⟨m3, hm3⟩ : ∃ y, c % ms = y := ⟨_, rfl⟩
            have lm3 : m3 < ms := by rw [← hm3]; exact Nat.mod_lt _ (by have := HO.out; omega)
            have im3 : (m3 : Int) < ms := by omega
            have tm3 : (c : Int).tmod ms = m3 := by rw [← hm3]; rw [Int.tmod_eq_emod_of_nonneg (by omega)]; rfl
            have Hm3 := hid hm3
            have Lm3 := hid lm3
            clear hm3 lm3
            have msz : ¬ (((ms : Nat) : Int) = 0) := by have := HO.out; omega
            have msy : (((ms : Nat) : Int) == 0) = false := by have := HO.out; rw [beq_eq_false_iff_ne]; omega
            go_upto_region 27 with fail
            clear t3
            obtain ⟨UU, E, hF1, hF2⟩ := cls wr
            have HU := hid hF2
            have HU1 := hid hF1
            have ta : ∀ u, (E u).cell? ⟨gt, 3, none⟩ = some (.slice (some ⟨ts, 0, none⟩) N (N + 9)) := fun u => cell_of_row _ _ 3 _ _ _ ((CR.out.to (hF1 u)).2.1)
            have tbb : ∀ u, (E u).cell? ⟨go, 3, none⟩ = some (.slice (some ⟨zb, zo, none⟩) ms ds) := fun u => cell_of_row _ _ 3 _ _ _ ((CR.out.1.trans (hF1 u)).heap D7.out)
            have tc : ∀ u, (E u).cell? ⟨zb, zo + m3, none⟩ = some (.float .f64 (OS m3)) := fun u => ((JS.out.below (W7.out.trans (CR.out.1.trans (hF1 u)))).at0 Lm3.out).2.2
            have DD0 := HU.out _ (Ab.refl wr).drew
            clear hF1 hF2
            refine region_tail 13 E (by kernel_rfl) (by kernel_rfl) (by kernel_rfl) DD0 ?_
            simp only [List.take_succ_cons, List.take_zero, List.drop_succ_cons, List.drop_zero]
            repeat (go_big_quiet_step (first
              | (with_reducible rfl)))
            refine wpQuiet_nil ?_
            intro yz hwz
            obtain ⟨u0, hu⟩ := hwz
            have AZ : Hid (Ab wr yz) := by rw [hu]; exact HU1.out u0
            clear hu u0
            clear HU HU1 DD0 ta tbb tc
            clear E UU
            have C1 := hid (CR.out.to AZ.out)
            have xc := C1.out.2.2.2.2.2.cell (show c < N + 9 by have := HC.out; omega)
            have xf := C1.out.2.2.2.2.2.frozen c
            have S1 := hid (C1.out.setS UN.out c (.float .f64 (OS m3)) HC.out)
            clear AZ CR
            go_wp2
            refine ⟨⟨c + 1, by have := HC.out; omega, by simp, S1.out.congr (fun _ _ => rfl) (fun _ _ => rfl) (fun _ _ => rfl) (fun j _ => ?_)⟩, by have := HC.out; simp [intOf]; omega⟩
            rw [← Hm3.out]
            exact upd_no (F := fun j => j == k) (Value.float .f64) (fun j => OS (j % ms)) Sp (by simpa using EK.out) j
        · have e6 : N = c := by omega
          subst e6
          have I1 := hid (mk_fl CR.out.2.2.1 (fun j hj => by
            by_cases q : j < M ∧ (j == lc || j == rc) = false
            · rw [if_pos q]; exact (JB.out.at0 (Nat.mod_lt _ (by have := HO.out; omega))).1
            · rw [if_neg q]; exact (IB.out.at0 hj).1))
          have I2 := hid (mk_in CR.out.2.2.2.1 (fun j hj => by
            by_cases q : j < M ∧ (j == lc || j == rc) = false
            · rw [if_pos q]; exact (JW.out _ (Nat.mod_lt _ (by have := HO.out; omega))).1
            · rw [if_neg q]; exact (IW.out j hj).1))
          have I3 := hid (mk_fl CR.out.2.2.2.2.2 (fun j hj => by
            by_cases q : j < N ∧ (j == k) = false
            · rw [if_pos q]; exact (JS.out.at0 (Nat.mod_lt _ (by have := HO.out; omega))).1
            · rw [if_neg q]; exact (IS.out.at0 hj).1))
          have WR : Hid (Ab w wr) := W7.out.trans CR.out.1
          have SQ := hid (SPT.out gb tb tw tt ts wr WR.out (G7.out.to CR.out.1) I1.out I2.out I3.out)
          have PR := hid (Ab.heap CR.out.1 P7.out)
          have p0 := cell_of_row _ _ 0 _ _ _ PR.out
          have p1 := cell_of_row _ _ 1 _ _ _ PR.out
          have p2 := cell_of_row _ _ 2 _ _ _ PR.out
          have p3 := cell_of_row _ _ 3 _ _ _ PR.out
          have p4 := cell_of_row _ _ 4 _ _ _ PR.out
          have p5 := cell_of_row _ _ 5 _ _ _ PR.out
          have p6 := cell_of_row _ _ 6 _ _ _ PR.out
          have d0 := cell_of_row _ _ 0 _ _ _ CR.out.2.1
          have d1 := cell_of_row _ _ 1 _ _ _ CR.out.2.1
          have d2 := cell_of_row _ _ 2 _ _ _ CR.out.2.1
          have d4 := cell_of_row _ _ 4 _ _ _ CR.out.2.1
          have d5 := cell_of_row _ _ 5 _ _ _ CR.out.2.1
          go_wp2_with fail
          refine SQ.out.mono ?_
          rintro e9 z1 ⟨rfl, k9⟩
          have W9 : Hid (Ab w z1) := WR.out.call k9
          clear k9
          go_wp2_with fail
          refine (same16 (X k) _).mono ?_
          rintro e9 z2 ⟨rfl, hv⟩
          have hv2 := hv.symm
          subst hv2
          go_wp2
          go_ret
          exact ⟨rfl, W9.out⟩
/-- an edge hangs on its two cells alone -/
theorem sp_local {n gr dt dr k : Nat} {B B' : Nat → Nat} {W W' : Nat → Int} {S S' : Nat → Nat} (h1 : B' (eL n k) = B (eL n k)) (h2 : B' (eR n k) = B (eR n k)) (h3 : W' (eL n k) = W (eL n k)) (h4 : W' (eR n k) = W (eR n k)) (h5 : S' k = S k) : spE n gr dt dr B' W' S' k = spE n gr dt dr B W S k := by
  unfold spE opE lvC dpC
  rw [h1, h2, h3, h4, h5]
/-- AN EDGE HANGS ON ITS TWO CELLS ALONE -/
theorem local16_at (OC : OpenC) (SC : SpeedsC) (VC : SpeedC) (side : Int) (sd : Int) (dt gr dr : Nat) (lim : Int) (rv : Bool) (pr : Option Addr) (lr cr : Nat) (pb : Option Addr) (lb cb : Nat) (B : Nat → Nat) (pw : Option Addr) (lw cw : Nat) (Wt : Nat → Int) (pt : Option Addr) (lt ct : Nat) (ps : Option Addr) (ls cs : Nat) (Sp : Nat → Nat) (sky st : Int) (Tr : Nat → Int) (e : Int) (xb : Option Addr) (mb db : Nat) (xw : Option Addr) (mw dw : Nat) (xt : Option Addr) (mq dq : Nat) (xs : Option Addr) (ms ds : Nat) (oky ost : Int) (OB : Nat → Nat) (OW : Nat → Int) (OS : Nat → Nat) (w : World) (hF : Fr w) (IB : IsFl w pb lb B) (IW : IsIn w pw lw Wt) (IS : IsFl w ps ls Sp) (hp : dt < 18446744073709551616 ∧ gr < 18446744073709551616 ∧ dr < 18446744073709551616) (IT : IsIn w pt lt Tr) (he : -9223372036854775808 ≤ e ∧ e ≤ 9223372036854775807) (JB : IsFl w xb mb OB) (JW : IsIn w xw mw OW) (JS : IsFl w xs ms OS) :
    Calls Tryd.prog 6 #[.int .i64 side, .agg #[.int .i64 sd, .float .f64 dt, .float .f64 gr, .float .f64 dr, .int .i64 lim, .bool rv, .slice pr lr cr], .agg #[.slice pb lb cb, .slice pw lw cw, .slice pt lt ct, .slice ps ls cs, .int .i64 sky, .int .i64 st], .int .i64 e, .agg #[.slice xb mb db, .slice xw mw dw, .slice xt mq dq, .slice xs ms ds, .int .i64 oky, .int .i64 ost]] w fun x w' => x = .returned (.bool true) ∧ Below w.heap.size w w' := by
  by_cases h : ∃ n : Nat, side = (n : Int) ∧ (1 ≤ n ∧ n ≤ 32) ∧ fit4 n lb lw lt ls
  · obtain ⟨n, rfl, hn, hf⟩ := h
    obtain ⟨m1, m2, m3, m4⟩ := n6_16 hn
    have NT : ∀ v, Ab w v → _ := fun v hv => net16_yes n pb pw pt ps lb cb lw cw lt ct ls cs sky st v (hF.to hv) hn hf
    by_cases hl : 65536 < mb ∨ 65536 < mw ∨ 65536 < mq ∨ 65536 < ms
    · exact local16_long (n : Int) n sd dt gr dr lim rv pr lr cr pb lb cb pw lw cw pt lt ct ps ls cs sky st e xb mb db xw mw dw xt mq dq xs ms ds oky ost w (fun v hv => lives16_at OC SC v (hF.to hv)) NT (fun v => by
        have h := long16_at xb xw xt xs mb db mw dw mq dq ms ds oky ost v
        rw [decide_eq_true hl] at h
        exact h)
    · have LG : ∀ v, Calls Tryd.prog 20 #[.agg #[.slice xb mb db, .slice xw mw dw, .slice xt mq dq, .slice xs ms ds, .int .i64 oky, .int .i64 ost]] v fun e w' => e = .returned (.bool false) ∧ Below v.heap.size v w' := fun v => by
        have h := long16_at xb xw xt xs mb db mw dw mq dq ms ds oky ost v
        rw [decide_eq_false hl] at h
        exact h
      have SP : ∀ gb v, Ab w v → GridOf n gb v → _ := fun gb v (hv : Ab w v) (g : GridOf n gb v) => (SC n gb sd dt gr dr lim rv pr lr cr pb lb cb B pw lw cw Wt pt lt ct ps ls cs Sp sky st v hn g (IB.below hv) (IW.below hv) (IS.below hv) hp).1 hf
      by_cases hr : inR e (12 * n * n : Nat) = true
      · obtain ⟨k, rfl, hk⟩ := inR_nat hr
        obtain ⟨c1, c2, c3⟩ := ends16 hn.1 hk
        have SPS : ∀ gb v, Ab w v → GridOf n gb v → _ := fun gb v (hv : Ab w v) (g : GridOf n gb v) => (VC n gb sd dt gr dr lim rv pr lr cr pb lb cb B pw lw cw Wt pt lt ct ps ls cs Sp sky st (k : Int) v hn g (IB.below hv) (IW.below hv) (IS.below hv) hp he).1 ⟨hf, hr⟩
        by_cases hz : mb = 0 ∨ mw = 0 ∨ ms = 0
        · refine local16_empty (n : Int) n (12 * n * n) sd dt gr dr lim rv pr lr cr pb lb cb pw lw cw pt lt ct ps ls cs sky st k xb mb db xw mw dw xt mq dq xs ms ds oky ost (spE n gr dt dr B Wt Sp) (eL n k) (eR n k) (edT n k % 4) (mt n (edT n k) % 4) _ _ _ w m4 hk rfl rfl rfl ?_ (fun v hv => lives16_at OC SC v (hF.to hv)) NT LG (fun gb v _ g => edge16 hn hk g) SP SPS
          rcases hz with rfl | rfl | rfl
          · simp
          · simp
          · simp
        · obtain ⟨f1, f2, f3, f4⟩ := hf
          subst f1 f2 f3 f4
          obtain ⟨bb, bo, rfl⟩ := IB.some0 (by omega)
          obtain ⟨wb, wo, rfl⟩ := IW.some0 (by omega)
          obtain ⟨sb, so, rfl⟩ := IS.some0 (by omega)
          obtain ⟨xb, xo, rfl⟩ := JB.some0 (by omega)
          obtain ⟨yb, yo, rfl⟩ := JW.some0 (by omega)
          obtain ⟨zb, zo, rfl⟩ := JS.some0 (by omega)
          refine local16_go (n : Int) n (6 * n * n) (12 * n * n) bb bo wb wo sb so sd dt gr dr lim rv pr lr cr cb B cw Wt pt ct cs Sp sky st Tr k xb xo mb db yb yo mw dw xt mq dq zb zo ms ds oky ost OB OW OS (spE n gr dt dr B Wt Sp) (eL n k) (eR n k) (edT n k % 4) (mt n (edT n k) % 4) w m4 hk m2 m1 (by omega) (by omega) (by omega) (fun v hv => lives16_at OC SC v (hF.to hv)) NT LG (fun gb v _ g => edge16 hn hk g) SP SPS
            (fun v hv => copied16_at _ _ pt _ _ cb _ cw _ ct _ cs B Wt Tr Sp sky st v (IB.below hv) (IW.below hv) (IT.below hv) (IS.below hv) (by omega)) (fun gb tb tw tt ts v hv g i1 i2 i3 => ?_) IB IW IS JB JW JS
          have h := (VC n gb sd dt gr dr lim rv pr lr cr _ _ (6 * n * n + 9) _ _ _ (6 * n * n + 9) _ (some ⟨tt, 0, none⟩) (6 * n * n) (6 * n * n + 9) _ _ (12 * n * n + 9) _ sky st (k : Int) v hn g i1 i2 i3 hp he).1 ⟨⟨rfl, rfl, rfl, rfl⟩, hr⟩
          rw [show ((k : Int)).toNat = k from rfl, sp_local (B := B) (W := Wt) (S := Sp) (by simp) (by simp) (by simp) (by simp) (by simp)] at h
          exact h
      · have hr2 : inR e (12 * n * n : Nat) = false := by simpa using hr
        exact local16_none (n : Int) n (12 * n * n) sd dt gr dr lim rv pr lr cr pb lb cb pw lw cw pt lt ct ps ls cs sky st e xb mb db xw mw dw xt mq dq xs ms ds oky ost (spE n gr dt dr B Wt Sp) w m4 (fun v hv => lives16_at OC SC v (hF.to hv)) NT LG (fun gb v _ g => gEdge_no hr2 g) SP
  · exact local16_nil side sd dt gr dr lim rv pr lr cr pb lb cb pw lw cw pt lt ct ps ls cs sky st e xb mb db xw mw dw xt mq dq xs ms ds oky ost w (fun v hv => lives16_at OC SC v (hF.to hv)) (fun v hv => net16_nil side pb pw pt ps lb cb lw cw lt ct ls cs sky st v (hF.to hv) h)
end Fc
end Go.Proofs.YtpfoohpncbkkfaaDoor
