/-
  Some of the texts of this proof, one behind the other.
-/
import Derived.Deep.QuietTactic
import Derived.Test.YtpfoohpncbkkfaaDoorZ15
namespace Go.Proofs.YtpfoohpncbkkfaaDoor
open Go.RowKit Tf Cu Go.Deep Rl
attribute [local go_sem] run_bits run_from raw_feq raw_fne raw_flt raw_fgt run_neg run_store_float
namespace Fc
set_option maxRecDepth 100000 in
set_option maxHeartbeats 8000000 in
theorem edgeOf_no (gp : Value) (pb pw pt ps : Option Addr) (lb cb lw cw lt ct ls cs : Nat) (sky st : Int) (e : Int) (w : World)
    (EG : Hid (∀ v, Ab w v → Calls Tryd.prog 14 #[gp, .int .i64 e] v fun x w' => x = .returned (.tuple #[.agg #[.int .i64 0, .int .i64 0, .int .i64 0, .int .i64 0], .bool false]) ∧ Below v.heap.size v w')) :
    Calls Tryd.prog 33 #[gp, .agg #[.slice pb lb cb, .slice pw lw cw, .slice pt lt ct, .slice ps ls cs, .int .i64 sky, .int .i64 st], .int .i64 e] w fun x w' => x = .returned (.tuple #[.agg #[.float .f64 0, .int .i64 0, .int .i64 0, .float .f64 0, .int .i64 0, .int .i64 0, .float .f64 0, .float .f64 0], .bool false]) ∧ Below w.heap.size w w' := by
  have W_W0 : Hid (Ab w ((w.alloc (.cells #[.slice pb lb cb, .slice pw lw cw, .slice pt lt ct, .slice ps ls cs, .int .i64 sky, .int .i64 st] 29)).alloc (.cells #[.float .f64 0, .int .i64 0, .int .i64 0, .float .f64 0, .int .i64 0, .int .i64 0, .float .f64 0, .float .f64 0] 73))) := bl2 _ _ _
  have RS : Hid (((w.alloc (.cells #[.slice pb lb cb, .slice pw lw cw, .slice pt lt ct, .slice ps ls cs, .int .i64 sky, .int .i64 st] 29)).alloc (.cells #[.float .f64 0, .int .i64 0, .int .i64 0, .float .f64 0, .int .i64 0, .int .i64 0, .float .f64 0, .float .f64 0] 73)).heap[w.heap.size]? = some (.cells #[.slice pb lb cb, .slice pw lw cw, .slice pt lt ct, .slice ps ls cs, .int .i64 sky, .int .i64 st] 29)) := heap_alloc2_old _ _ _
  have RC : Hid (((w.alloc (.cells #[.slice pb lb cb, .slice pw lw cw, .slice pt lt ct, .slice ps ls cs, .int .i64 sky, .int .i64 st] 29)).alloc (.cells #[.float .f64 0, .int .i64 0, .int .i64 0, .float .f64 0, .int .i64 0, .int .i64 0, .float .f64 0, .float .f64 0] 73)).heap[w.heap.size + 1]? = some (.cells #[.float .f64 0, .int .i64 0, .int .i64 0, .float .f64 0, .int .i64 0, .int .i64 0, .float .f64 0, .float .f64 0] 73)) := heap_alloc2_new _ _ _
  have LG : Hid (w.heap.size ≤ w.heap.size + 1) := Nat.le_succ _
  go_enter Tryd.func33, Tryd.ntmps33
  go_upto_region 1 with fail
  generalize hW : World.alloc (World.alloc w _) _ = W0 at *
  obtain ⟨gs, hgs⟩ : ∃ g, w.heap.size = g := ⟨_, rfl⟩
  obtain ⟨gc, hgc⟩ : ∃ g, w.heap.size + 1 = g := ⟨_, rfl⟩
  rw [hgc] at RC LG ⊢
  rw [hgs] at RS ⊢
  clear hgs hgc hW
  go_wp2_with fail
  refine (EG.out _ W_W0.out).mono ?_
  rintro e9 v1 ⟨rfl, k1⟩
  have W_v1 : Hid (Ab w v1) := W_W0.out.call k1
  have RS1 := hid (Ab.heap k1 RS.out)
  have RC1 := hid (Ab.heap k1 RC.out)
  clear k1 W_W0 RS RC
  go_upto_region 2 with fail
  have RE := hid (heap_alloc_new v1 (.cells #[.int .i64 0, .int .i64 0, .int .i64 0, .int .i64 0] 39))
  have W_V : Hid (Ab w (v1.alloc (.cells #[.int .i64 0, .int .i64 0, .int .i64 0, .int .i64 0] 39))) := W_v1.out.trans (bl1 _ _)
  have RS2 : Hid ((v1.alloc (.cells #[.int .i64 0, .int .i64 0, .int .i64 0, .int .i64 0] 39)).heap[gs]? = some (.cells #[.slice pb lb cb, .slice pw lw cw, .slice pt lt ct, .slice ps ls cs, .int .i64 sky, .int .i64 st] 29)) := Ab.heap (bl1 _ _) RS1.out
  have RC2 : Hid ((v1.alloc (.cells #[.int .i64 0, .int .i64 0, .int .i64 0, .int .i64 0] 39)).heap[gc]? = some (.cells #[.float .f64 0, .int .i64 0, .int .i64 0, .float .f64 0, .int .i64 0, .int .i64 0, .float .f64 0, .float .f64 0] 73)) := Ab.heap (bl1 _ _) RC1.out
  generalize hV : v1.alloc (.cells #[.int .i64 0, .int .i64 0, .int .i64 0, .int .i64 0] 39) = V at *
  obtain ⟨ge, hge⟩ : ∃ g, v1.heap.size = g := ⟨_, rfl⟩
  rw [hge] at RE ⊢
  clear hV hge W_v1 RS1 RC1
  have o0 := cell_of_row _ _ 0 _ _ _ RC2.out
  have q0 := free_row RC2.out 0
  have o1 := cell_of_row _ _ 1 _ _ _ RC2.out
  have q1 := free_row RC2.out 1
  have o2 := cell_of_row _ _ 2 _ _ _ RC2.out
  have q2 := free_row RC2.out 2
  have o3 := cell_of_row _ _ 3 _ _ _ RC2.out
  have q3 := free_row RC2.out 3
  have o4 := cell_of_row _ _ 4 _ _ _ RC2.out
  have q4 := free_row RC2.out 4
  have o5 := cell_of_row _ _ 5 _ _ _ RC2.out
  have q5 := free_row RC2.out 5
  have o6 := cell_of_row _ _ 6 _ _ _ RC2.out
  have q6 := free_row RC2.out 6
  have o7 := cell_of_row _ _ 7 _ _ _ RC2.out
  have q7 := free_row RC2.out 7
  go_wp2
  refine bodyPost_ret ?_ rfl ⟨rfl, ?_⟩
  · exact res_two Tryd.results33 _ _ gc _ _ (0, 0) _ _ rfl rfl (row8 RC2.out) Tryd.underlying73 rfl (by kernel_rfl)
  · exact ((((((((W_V.out.setk LG.out _).setk LG.out _).setk LG.out _).setk LG.out _).setk LG.out _).setk LG.out _).setk LG.out _).setk LG.out _)
set_option maxRecDepth 100000 in
set_option maxHeartbeats 8000000 in
theorem edgeOf_bad (gb : Nat) (pb pw pt ps : Option Addr) (lb cb lw cw lt ct ls cs : Nat) (sky st : Int) (e : Int) (lc s1 rc s2 : Nat) (w : World)
    (EG : Hid (∀ v, Ab w v → Calls Tryd.prog 14 #[.pointer (some ⟨gb, 0, none⟩), .int .i64 e] v fun x w' => x = .returned (.tuple #[.agg #[.int .i64 (lc : Nat), .int .i64 (s1 : Nat), .int .i64 (rc : Nat), .int .i64 (s2 : Nat)], .bool true]) ∧ Below v.heap.size v w'))
    (CF : Hid (∀ v, Ab w v → Calls Tryd.prog 27 #[.pointer (some ⟨gb, 0, none⟩), .agg #[.slice pb lb cb, .slice pw lw cw, .slice pt lt ct, .slice ps ls cs, .int .i64 sky, .int .i64 st]] v fun x w' => x = .returned (.bool false) ∧ Below v.heap.size v w')) :
    Calls Tryd.prog 33 #[.pointer (some ⟨gb, 0, none⟩), .agg #[.slice pb lb cb, .slice pw lw cw, .slice pt lt ct, .slice ps ls cs, .int .i64 sky, .int .i64 st], .int .i64 e] w fun x w' => x = .returned (.tuple #[.agg #[.float .f64 0, .int .i64 0, .int .i64 0, .float .f64 0, .int .i64 0, .int .i64 0, .float .f64 0, .float .f64 0], .bool false]) ∧ Below w.heap.size w w' := by
  have W_W0 : Hid (Ab w ((w.alloc (.cells #[.slice pb lb cb, .slice pw lw cw, .slice pt lt ct, .slice ps ls cs, .int .i64 sky, .int .i64 st] 29)).alloc (.cells #[.float .f64 0, .int .i64 0, .int .i64 0, .float .f64 0, .int .i64 0, .int .i64 0, .float .f64 0, .float .f64 0] 73))) := bl2 _ _ _
  have RS : Hid (((w.alloc (.cells #[.slice pb lb cb, .slice pw lw cw, .slice pt lt ct, .slice ps ls cs, .int .i64 sky, .int .i64 st] 29)).alloc (.cells #[.float .f64 0, .int .i64 0, .int .i64 0, .float .f64 0, .int .i64 0, .int .i64 0, .float .f64 0, .float .f64 0] 73)).heap[w.heap.size]? = some (.cells #[.slice pb lb cb, .slice pw lw cw, .slice pt lt ct, .slice ps ls cs, .int .i64 sky, .int .i64 st] 29)) := heap_alloc2_old _ _ _
  have RC : Hid (((w.alloc (.cells #[.slice pb lb cb, .slice pw lw cw, .slice pt lt ct, .slice ps ls cs, .int .i64 sky, .int .i64 st] 29)).alloc (.cells #[.float .f64 0, .int .i64 0, .int .i64 0, .float .f64 0, .int .i64 0, .int .i64 0, .float .f64 0, .float .f64 0] 73)).heap[w.heap.size + 1]? = some (.cells #[.float .f64 0, .int .i64 0, .int .i64 0, .float .f64 0, .int .i64 0, .int .i64 0, .float .f64 0, .float .f64 0] 73)) := heap_alloc2_new _ _ _
  have LG : Hid (w.heap.size ≤ w.heap.size + 1) := Nat.le_succ _
  go_enter Tryd.func33, Tryd.ntmps33
  go_upto_region 1 with fail
  generalize hW : World.alloc (World.alloc w _) _ = W0 at *
  obtain ⟨gs, hgs⟩ : ∃ g, w.heap.size = g := ⟨_, rfl⟩
  obtain ⟨gc, hgc⟩ : ∃ g, w.heap.size + 1 = g := ⟨_, rfl⟩
  rw [hgc] at RC LG ⊢
  rw [hgs] at RS ⊢
  clear hgs hgc hW
  go_wp2_with fail
  refine (EG.out _ W_W0.out).mono ?_
  rintro e9 v1 ⟨rfl, k1⟩
  have W_v1 : Hid (Ab w v1) := W_W0.out.call k1
  have RS1 := hid (Ab.heap k1 RS.out)
  have RC1 := hid (Ab.heap k1 RC.out)
  clear k1 W_W0 RS RC
  go_upto_region 2 with fail
  have RE := hid (heap_alloc_new v1 (.cells #[.int .i64 (lc : Nat), .int .i64 (s1 : Nat), .int .i64 (rc : Nat), .int .i64 (s2 : Nat)] 39))
  have W_V : Hid (Ab w (v1.alloc (.cells #[.int .i64 (lc : Nat), .int .i64 (s1 : Nat), .int .i64 (rc : Nat), .int .i64 (s2 : Nat)] 39))) := W_v1.out.trans (bl1 _ _)
  have RS2 : Hid ((v1.alloc (.cells #[.int .i64 (lc : Nat), .int .i64 (s1 : Nat), .int .i64 (rc : Nat), .int .i64 (s2 : Nat)] 39)).heap[gs]? = some (.cells #[.slice pb lb cb, .slice pw lw cw, .slice pt lt ct, .slice ps ls cs, .int .i64 sky, .int .i64 st] 29)) := Ab.heap (bl1 _ _) RS1.out
  have RC2 : Hid ((v1.alloc (.cells #[.int .i64 (lc : Nat), .int .i64 (s1 : Nat), .int .i64 (rc : Nat), .int .i64 (s2 : Nat)] 39)).heap[gc]? = some (.cells #[.float .f64 0, .int .i64 0, .int .i64 0, .float .f64 0, .int .i64 0, .int .i64 0, .float .f64 0, .float .f64 0] 73)) := Ab.heap (bl1 _ _) RC1.out
  generalize hV : v1.alloc (.cells #[.int .i64 (lc : Nat), .int .i64 (s1 : Nat), .int .i64 (rc : Nat), .int .i64 (s2 : Nat)] 39) = V at *
  obtain ⟨ge, hge⟩ : ∃ g, v1.heap.size = g := ⟨_, rfl⟩
  rw [hge] at RE ⊢
  clear hV hge W_v1 RS1 RC1
  have y0 := cell_of_row _ _ 0 _ _ _ RS2.out
  have y1 := cell_of_row _ _ 1 _ _ _ RS2.out
  have y2 := cell_of_row _ _ 2 _ _ _ RS2.out
  have y3 := cell_of_row _ _ 3 _ _ _ RS2.out
  have y4 := cell_of_row _ _ 4 _ _ _ RS2.out
  have y5 := cell_of_row _ _ 5 _ _ _ RS2.out
  go_wp2_with fail
  refine (CF.out _ W_V.out).mono ?_
  rintro e9 v2 ⟨rfl, k1⟩
  have W_v2 : Hid (Ab w v2) := W_V.out.call k1
  have RC3 := hid (Ab.heap k1 RC2.out)
  clear k1 W_V RC2 y0 y1 y2 y3 y4 y5
  have o0 := cell_of_row _ _ 0 _ _ _ RC3.out
  have q0 := free_row RC3.out 0
  have o1 := cell_of_row _ _ 1 _ _ _ RC3.out
  have q1 := free_row RC3.out 1
  have o2 := cell_of_row _ _ 2 _ _ _ RC3.out
  have q2 := free_row RC3.out 2
  have o3 := cell_of_row _ _ 3 _ _ _ RC3.out
  have q3 := free_row RC3.out 3
  have o4 := cell_of_row _ _ 4 _ _ _ RC3.out
  have q4 := free_row RC3.out 4
  have o5 := cell_of_row _ _ 5 _ _ _ RC3.out
  have q5 := free_row RC3.out 5
  have o6 := cell_of_row _ _ 6 _ _ _ RC3.out
  have q6 := free_row RC3.out 6
  have o7 := cell_of_row _ _ 7 _ _ _ RC3.out
  have q7 := free_row RC3.out 7
  go_wp2
  refine bodyPost_ret ?_ rfl ⟨rfl, ?_⟩
  · exact res_two Tryd.results33 _ _ gc _ _ (0, 0) _ _ rfl rfl (row8 RC3.out) Tryd.underlying73 rfl (by kernel_rfl)
  · exact ((((((((W_v2.out.setk LG.out _).setk LG.out _).setk LG.out _).setk LG.out _).setk LG.out _).setk LG.out _).setk LG.out _).setk LG.out _)
set_option maxRecDepth 100000 in
set_option maxHeartbeats 8000000 in
theorem edgeOf_go (gb bb bo wb wo sb so M N cb cw cs : Nat) (pt : Option Addr) (lt ct : Nat) (sky st : Int) (e lc s1 rc s2 : Nat) (bl br gap vu : Nat) (wl al wr ar : Int) (w : World) (he : ((e : Nat) : Int) < N)
    (EG : Hid (∀ v, Ab w v → Calls Tryd.prog 14 #[.pointer (some ⟨gb, 0, none⟩), .int .i64 (e : Nat)] v fun x w' => x = .returned (.tuple #[.agg #[.int .i64 (lc : Nat), .int .i64 (s1 : Nat), .int .i64 (rc : Nat), .int .i64 (s2 : Nat)], .bool true]) ∧ Below v.heap.size v w'))
    (CF : Hid (∀ v, Ab w v → Calls Tryd.prog 27 #[.pointer (some ⟨gb, 0, none⟩), .agg #[.slice (some ⟨bb, bo, none⟩) M cb, .slice (some ⟨wb, wo, none⟩) M cw, .slice pt lt ct, .slice (some ⟨sb, so, none⟩) N cs, .int .i64 sky, .int .i64 st]] v fun x w' => x = .returned (.bool true) ∧ Below v.heap.size v w'))
    (CL : Hid (∀ v, Ab w v → Calls Tryd.prog 52 #[.pointer (some ⟨gb, 0, none⟩), .agg #[.slice (some ⟨bb, bo, none⟩) M cb, .slice (some ⟨wb, wo, none⟩) M cw, .slice pt lt ct, .slice (some ⟨sb, so, none⟩) N cs, .int .i64 sky, .int .i64 st], .int .i64 (lc : Nat)] v fun x w' => x = .returned (.agg #[.float .f64 bl, .int .i64 wl, .int .i64 al]) ∧ Below v.heap.size v w'))
    (CR : Hid (∀ v, Ab w v → Calls Tryd.prog 52 #[.pointer (some ⟨gb, 0, none⟩), .agg #[.slice (some ⟨bb, bo, none⟩) M cb, .slice (some ⟨wb, wo, none⟩) M cw, .slice pt lt ct, .slice (some ⟨sb, so, none⟩) N cs, .int .i64 sky, .int .i64 st], .int .i64 (rc : Nat)] v fun x w' => x = .returned (.agg #[.float .f64 br, .int .i64 wr, .int .i64 ar]) ∧ Below v.heap.size v w'))
    (CG : Hid (∀ v, Ab w v → Calls Tryd.prog 53 #[.pointer (some ⟨gb, 0, none⟩), .int .i64 (e : Nat)] v fun x w' => x = .returned (.float .f64 gap) ∧ Below v.heap.size v w'))
    (FSp : Hid (∀ v, Ab w v → v.cell? ⟨sb, so + e, none⟩ = some (.float .f64 vu))) :
    Calls Tryd.prog 33 #[.pointer (some ⟨gb, 0, none⟩), .agg #[.slice (some ⟨bb, bo, none⟩) M cb, .slice (some ⟨wb, wo, none⟩) M cw, .slice pt lt ct, .slice (some ⟨sb, so, none⟩) N cs, .int .i64 sky, .int .i64 st], .int .i64 (e : Nat)] w fun x w' => x = .returned (.tuple #[.agg #[.float .f64 bl, .int .i64 wl, .int .i64 al, .float .f64 br, .int .i64 wr, .int .i64 ar, .float .f64 gap, .float .f64 vu], .bool true]) ∧ Below w.heap.size w w' := by
  have W_W0 : Hid (Ab w ((w.alloc (.cells #[.slice (some ⟨bb, bo, none⟩) M cb, .slice (some ⟨wb, wo, none⟩) M cw, .slice pt lt ct, .slice (some ⟨sb, so, none⟩) N cs, .int .i64 sky, .int .i64 st] 29)).alloc (.cells #[.float .f64 0, .int .i64 0, .int .i64 0, .float .f64 0, .int .i64 0, .int .i64 0, .float .f64 0, .float .f64 0] 73))) := bl2 _ _ _
  have RS : Hid (((w.alloc (.cells #[.slice (some ⟨bb, bo, none⟩) M cb, .slice (some ⟨wb, wo, none⟩) M cw, .slice pt lt ct, .slice (some ⟨sb, so, none⟩) N cs, .int .i64 sky, .int .i64 st] 29)).alloc (.cells #[.float .f64 0, .int .i64 0, .int .i64 0, .float .f64 0, .int .i64 0, .int .i64 0, .float .f64 0, .float .f64 0] 73)).heap[w.heap.size]? = some (.cells #[.slice (some ⟨bb, bo, none⟩) M cb, .slice (some ⟨wb, wo, none⟩) M cw, .slice pt lt ct, .slice (some ⟨sb, so, none⟩) N cs, .int .i64 sky, .int .i64 st] 29)) := heap_alloc2_old _ _ _
  have RC : Hid (((w.alloc (.cells #[.slice (some ⟨bb, bo, none⟩) M cb, .slice (some ⟨wb, wo, none⟩) M cw, .slice pt lt ct, .slice (some ⟨sb, so, none⟩) N cs, .int .i64 sky, .int .i64 st] 29)).alloc (.cells #[.float .f64 0, .int .i64 0, .int .i64 0, .float .f64 0, .int .i64 0, .int .i64 0, .float .f64 0, .float .f64 0] 73)).heap[w.heap.size + 1]? = some (.cells #[.float .f64 0, .int .i64 0, .int .i64 0, .float .f64 0, .int .i64 0, .int .i64 0, .float .f64 0, .float .f64 0] 73)) := heap_alloc2_new _ _ _
  have LG : Hid (w.heap.size ≤ w.heap.size + 1) := Nat.le_succ _
  go_enter Tryd.func33, Tryd.ntmps33
  go_upto_region 1 with fail
  generalize hW : World.alloc (World.alloc w _) _ = W0 at *
  obtain ⟨gs, hgs⟩ : ∃ g, w.heap.size = g := ⟨_, rfl⟩
  obtain ⟨gc, hgc⟩ : ∃ g, w.heap.size + 1 = g := ⟨_, rfl⟩
  rw [hgc] at RC LG ⊢
  rw [hgs] at RS ⊢
  clear hgs hgc hW
  go_wp2_with fail
  refine (EG.out _ W_W0.out).mono ?_
  rintro e9 v1 ⟨rfl, k1⟩
  have W_v1 : Hid (Ab w v1) := W_W0.out.call k1
  have RS1 := hid (Ab.heap k1 RS.out)
  have RC1 := hid (Ab.heap k1 RC.out)
  clear k1 W_W0 RS RC
  go_upto_region 2 with fail
  have RE := hid (heap_alloc_new v1 (.cells #[.int .i64 (lc : Nat), .int .i64 (s1 : Nat), .int .i64 (rc : Nat), .int .i64 (s2 : Nat)] 39))
  have W_V : Hid (Ab w (v1.alloc (.cells #[.int .i64 (lc : Nat), .int .i64 (s1 : Nat), .int .i64 (rc : Nat), .int .i64 (s2 : Nat)] 39))) := W_v1.out.trans (bl1 _ _)
  have RS2 : Hid ((v1.alloc (.cells #[.int .i64 (lc : Nat), .int .i64 (s1 : Nat), .int .i64 (rc : Nat), .int .i64 (s2 : Nat)] 39)).heap[gs]? = some (.cells #[.slice (some ⟨bb, bo, none⟩) M cb, .slice (some ⟨wb, wo, none⟩) M cw, .slice pt lt ct, .slice (some ⟨sb, so, none⟩) N cs, .int .i64 sky, .int .i64 st] 29)) := Ab.heap (bl1 _ _) RS1.out
  have RC2 : Hid ((v1.alloc (.cells #[.int .i64 (lc : Nat), .int .i64 (s1 : Nat), .int .i64 (rc : Nat), .int .i64 (s2 : Nat)] 39)).heap[gc]? = some (.cells #[.float .f64 0, .int .i64 0, .int .i64 0, .float .f64 0, .int .i64 0, .int .i64 0, .float .f64 0, .float .f64 0] 73)) := Ab.heap (bl1 _ _) RC1.out
  generalize hV : v1.alloc (.cells #[.int .i64 (lc : Nat), .int .i64 (s1 : Nat), .int .i64 (rc : Nat), .int .i64 (s2 : Nat)] 39) = V at *
  obtain ⟨ge, hge⟩ : ∃ g, v1.heap.size = g := ⟨_, rfl⟩
  rw [hge] at RE ⊢
  clear hV hge W_v1 RS1 RC1
  have y0 := cell_of_row _ _ 0 _ _ _ RS2.out
  have y1 := cell_of_row _ _ 1 _ _ _ RS2.out
  have y2 := cell_of_row _ _ 2 _ _ _ RS2.out
  have y3 := cell_of_row _ _ 3 _ _ _ RS2.out
  have y4 := cell_of_row _ _ 4 _ _ _ RS2.out
  have y5 := cell_of_row _ _ 5 _ _ _ RS2.out
  go_wp2_with fail
  refine (CF.out _ W_V.out).mono ?_
  rintro e9 v2 ⟨rfl, k1⟩
  have W_v2 : Hid (Ab w v2) := W_V.out.call k1
  have RC3 := hid (Ab.heap k1 RC2.out)
  have RS3 := hid (Ab.heap k1 RS2.out)
  have RE3 := hid (Ab.heap k1 RE.out)
  clear k1 W_V RC2 RS2 RE y0 y1 y2 y3 y4 y5
  go_upto_region 4 with fail
  obtain ⟨UU, E, hF1, hF2⟩ := cls v2
  have HU := hid hF2
  have HU1 := hid hF1
  have HX : Hid (∀ u, Ab w (E u)) := fun u => W_v2.out.trans (hF1 u)
  have x0 : ∀ u, (E u).cell? ⟨gs, 0, none⟩ = some (.slice (some ⟨bb, bo, none⟩) M cb) := fun u => cell_of_row _ _ 0 _ _ _ ((hF1 u).heap RS3.out)
  have x1 : ∀ u, (E u).cell? ⟨gs, 1, none⟩ = some (.slice (some ⟨wb, wo, none⟩) M cw) := fun u => cell_of_row _ _ 1 _ _ _ ((hF1 u).heap RS3.out)
  have x2 : ∀ u, (E u).cell? ⟨gs, 2, none⟩ = some (.slice pt lt ct) := fun u => cell_of_row _ _ 2 _ _ _ ((hF1 u).heap RS3.out)
  have x3 : ∀ u, (E u).cell? ⟨gs, 3, none⟩ = some (.slice (some ⟨sb, so, none⟩) N cs) := fun u => cell_of_row _ _ 3 _ _ _ ((hF1 u).heap RS3.out)
  have x4 : ∀ u, (E u).cell? ⟨gs, 4, none⟩ = some (.int .i64 sky) := fun u => cell_of_row _ _ 4 _ _ _ ((hF1 u).heap RS3.out)
  have x5 : ∀ u, (E u).cell? ⟨gs, 5, none⟩ = some (.int .i64 st) := fun u => cell_of_row _ _ 5 _ _ _ ((hF1 u).heap RS3.out)
  have ye : ∀ u, (E u).cell? ⟨ge, 0, none⟩ = some (.int .i64 (lc : Nat)) := fun u => cell_of_row _ _ 0 _ _ _ ((hF1 u).heap RE3.out)
  have yf : ∀ u, (E u).cell? ⟨ge, 2, none⟩ = some (.int .i64 (rc : Nat)) := fun u => cell_of_row _ _ 2 _ _ _ ((hF1 u).heap RE3.out)
  have ys : ∀ u, (E u).cell? ⟨sb, so + e, none⟩ = some (.float .f64 vu) := fun u => FSp.out _ (HX.out u)
  have DD0 := HU.out _ (Ab.refl v2).drew
  clear hF1 hF2
  refine region_tail 19 E (by kernel_rfl) (by kernel_rfl) (by kernel_rfl) DD0 ?_
  simp only [List.take_succ_cons, List.take_zero, List.drop_succ_cons, List.drop_zero]
  repeat (go_big_quiet_step (first
    | (with_reducible rfl)
    | (go_at_call_of 52 lc; exact calls_cls HU HU1 (CL.out _ (HX.out _)))
    | (go_at_call_of 52 rc; exact calls_cls HU HU1 (CR.out _ (HX.out _)))
    | (go_at_call 53; exact calls_cls HU HU1 (CG.out _ (HX.out _)))))
  refine wpQuiet_nil ?_
  intro z hwz
  obtain ⟨u0, hu⟩ := hwz
  have AZ : Hid (Ab v2 z) := by rw [hu]; exact HU1.out u0
  clear hu u0
  clear HU HU1 DD0 HX x0 x1 x2 x3 x4 x5 ye yf ys
  clear E UU
  have W_z : Hid (Ab w z) := W_v2.out.trans AZ.out
  have RZ := hid (Ab.heap AZ.out RC3.out)
  have o0 := cell_of_row _ _ 0 _ _ _ RZ.out
  have q0 := free_row RZ.out 0
  have o1 := cell_of_row _ _ 1 _ _ _ RZ.out
  have q1 := free_row RZ.out 1
  have o2 := cell_of_row _ _ 2 _ _ _ RZ.out
  have q2 := free_row RZ.out 2
  have o3 := cell_of_row _ _ 3 _ _ _ RZ.out
  have q3 := free_row RZ.out 3
  have o4 := cell_of_row _ _ 4 _ _ _ RZ.out
  have q4 := free_row RZ.out 4
  have o5 := cell_of_row _ _ 5 _ _ _ RZ.out
  have q5 := free_row RZ.out 5
  have o6 := cell_of_row _ _ 6 _ _ _ RZ.out
  have q6 := free_row RZ.out 6
  have o7 := cell_of_row _ _ 7 _ _ _ RZ.out
  have q7 := free_row RZ.out 7
  go_wp2
  refine bodyPost_ret ?_ rfl ⟨rfl, ?_⟩
  · exact res_two Tryd.results33 _ _ gc _ _ (0, 0) _ _ rfl rfl (row8 RZ.out) Tryd.underlying73 rfl (by kernel_rfl)
  · exact ((((((((W_z.out.setk LG.out _).setk LG.out _).setk LG.out _).setk LG.out _).setk LG.out _).setk LG.out _).setk LG.out _).setk LG.out _)
end Fc
end Go.Proofs.YtpfoohpncbkkfaaDoor

namespace Go.Proofs.YtpfoohpncbkkfaaDoor
open Go.RowKit Tf Cu Go.Deep Rl
attribute [local go_sem] run_bits run_from raw_feq raw_fne raw_flt raw_fgt run_neg run_store_float
namespace Fc
set_option maxRecDepth 100000 in
set_option maxHeartbeats 8000000 in
theorem open_no (gp : Value) (pb pw pt ps : Option Addr) (lb cb lw cw lt ct ls cs : Nat) (sky st : Int) (e : Int) (w : World)
    (EO : Hid (∀ v, Ab w v → Calls Tryd.prog 33 #[gp, .agg #[.slice pb lb cb, .slice pw lw cw, .slice pt lt ct, .slice ps ls cs, .int .i64 sky, .int .i64 st], .int .i64 e] v fun x w' => x = .returned (.tuple #[.agg #[.float .f64 0, .int .i64 0, .int .i64 0, .float .f64 0, .int .i64 0, .int .i64 0, .float .f64 0, .float .f64 0], .bool false]) ∧ Below v.heap.size v w')) :
    Calls Tryd.prog 15 #[gp, .agg #[.slice pb lb cb, .slice pw lw cw, .slice pt lt ct, .slice ps ls cs, .int .i64 sky, .int .i64 st], .int .i64 e] w fun x w' => x = .returned (.bool false) ∧ Below w.heap.size w w' := by
  have W_W0 : Hid (Ab w (w.alloc (.cells #[.slice pb lb cb, .slice pw lw cw, .slice pt lt ct, .slice ps ls cs, .int .i64 sky, .int .i64 st] 29))) := bl1 _ _
  have RS : Hid ((w.alloc (.cells #[.slice pb lb cb, .slice pw lw cw, .slice pt lt ct, .slice ps ls cs, .int .i64 sky, .int .i64 st] 29)).heap[w.heap.size]? = some (.cells #[.slice pb lb cb, .slice pw lw cw, .slice pt lt ct, .slice ps ls cs, .int .i64 sky, .int .i64 st] 29)) := heap_alloc_new _ _
  go_enter Tryd.func15, Tryd.ntmps15
  go_upto_region 1 with fail
  generalize hW : World.alloc w _ = W0 at *
  obtain ⟨gs, hgs⟩ : ∃ g, w.heap.size = g := ⟨_, rfl⟩
  rw [hgs] at RS ⊢
  clear hgs hW
  have y0 := cell_of_row _ _ 0 _ _ _ RS.out
  have y1 := cell_of_row _ _ 1 _ _ _ RS.out
  have y2 := cell_of_row _ _ 2 _ _ _ RS.out
  have y3 := cell_of_row _ _ 3 _ _ _ RS.out
  have y4 := cell_of_row _ _ 4 _ _ _ RS.out
  have y5 := cell_of_row _ _ 5 _ _ _ RS.out
  go_wp2_with fail
  refine (EO.out _ W_W0.out).mono ?_
  rintro e9 v1 ⟨rfl, k1⟩
  have W_v1 : Hid (Ab w v1) := W_W0.out.call k1
  clear k1 W_W0 RS y0 y1 y2 y3 y4 y5
  have W_V : Hid (Ab w (v1.alloc (.cells #[.float .f64 0, .int .i64 0, .int .i64 0, .float .f64 0, .int .i64 0, .int .i64 0, .float .f64 0, .float .f64 0] 73))) := W_v1.out.trans (bl1 _ _)
  go_wp2
  go_ret
  exact ⟨rfl, W_V.out⟩
set_option maxRecDepth 100000 in
set_option maxHeartbeats 8000000 in
theorem open_go (gp : Value) (pb pw pt ps : Option Addr) (lb cb lw cw lt ct ls cs : Nat) (sky st : Int) (e : Int) (bl br gap vu : Nat) (wl al wr ar : Int) (q : Bool) (w : World)
    (EO : Hid (∀ v, Ab w v → Calls Tryd.prog 33 #[gp, .agg #[.slice pb lb cb, .slice pw lw cw, .slice pt lt ct, .slice ps ls cs, .int .i64 sky, .int .i64 st], .int .i64 e] v fun x w' => x = .returned (.tuple #[.agg #[.float .f64 bl, .int .i64 wl, .int .i64 al, .float .f64 br, .int .i64 wr, .int .i64 ar, .float .f64 gap, .float .f64 vu], .bool true]) ∧ Below v.heap.size v w'))
    (OP : Hid (∀ v, Calls Tryd.prog 34 #[.agg #[.float .f64 bl, .int .i64 wl, .int .i64 al, .float .f64 br, .int .i64 wr, .int .i64 ar, .float .f64 gap, .float .f64 vu]] v fun x w' => x = .returned (.bool q) ∧ Below v.heap.size v w')) :
    Calls Tryd.prog 15 #[gp, .agg #[.slice pb lb cb, .slice pw lw cw, .slice pt lt ct, .slice ps ls cs, .int .i64 sky, .int .i64 st], .int .i64 e] w fun x w' => x = .returned (.bool q) ∧ Below w.heap.size w w' := by
  have W_W0 : Hid (Ab w (w.alloc (.cells #[.slice pb lb cb, .slice pw lw cw, .slice pt lt ct, .slice ps ls cs, .int .i64 sky, .int .i64 st] 29))) := bl1 _ _
  have RS : Hid ((w.alloc (.cells #[.slice pb lb cb, .slice pw lw cw, .slice pt lt ct, .slice ps ls cs, .int .i64 sky, .int .i64 st] 29)).heap[w.heap.size]? = some (.cells #[.slice pb lb cb, .slice pw lw cw, .slice pt lt ct, .slice ps ls cs, .int .i64 sky, .int .i64 st] 29)) := heap_alloc_new _ _
  go_enter Tryd.func15, Tryd.ntmps15
  go_upto_region 1 with fail
  generalize hW : World.alloc w _ = W0 at *
  obtain ⟨gs, hgs⟩ : ∃ g, w.heap.size = g := ⟨_, rfl⟩
  rw [hgs] at RS ⊢
  clear hgs hW
  have y0 := cell_of_row _ _ 0 _ _ _ RS.out
  have y1 := cell_of_row _ _ 1 _ _ _ RS.out
  have y2 := cell_of_row _ _ 2 _ _ _ RS.out
  have y3 := cell_of_row _ _ 3 _ _ _ RS.out
  have y4 := cell_of_row _ _ 4 _ _ _ RS.out
  have y5 := cell_of_row _ _ 5 _ _ _ RS.out
  go_wp2_with fail
  refine (EO.out _ W_W0.out).mono ?_
  rintro e9 v1 ⟨rfl, k1⟩
  have W_v1 : Hid (Ab w v1) := W_W0.out.call k1
  clear k1 W_W0 RS y0 y1 y2 y3 y4 y5
  have W_V : Hid (Ab w (v1.alloc (.cells #[.float .f64 bl, .int .i64 wl, .int .i64 al, .float .f64 br, .int .i64 wr, .int .i64 ar, .float .f64 gap, .float .f64 vu] 73))) := W_v1.out.trans (bl1 _ _)
  go_wp2_with fail
  refine (OP.out _).mono ?_
  rintro e9 v2 ⟨rfl, k1⟩
  have W_v2 : Hid (Ab w v2) := W_V.out.call k1
  clear k1 W_V W_v1
  go_wp2
  go_ret
  exact ⟨rfl, W_v2.out⟩
set_option maxRecDepth 100000 in
set_option maxHeartbeats 8000000 in
theorem speed_no (g9 : Value) (sd : Int) (dt gr dr : Nat) (lim : Int) (rv : Bool) (pr : Option Addr) (lr cr : Nat) (pb pw pt ps : Option Addr) (lb cb lw cw lt ct ls cs : Nat) (sky st : Int) (e : Int) (w : World)
    (EO : Hid (∀ v, Ab w v → Calls Tryd.prog 33 #[g9, .agg #[.slice pb lb cb, .slice pw lw cw, .slice pt lt ct, .slice ps ls cs, .int .i64 sky, .int .i64 st], .int .i64 e] v fun x w' => x = .returned (.tuple #[.agg #[.float .f64 0, .int .i64 0, .int .i64 0, .float .f64 0, .int .i64 0, .int .i64 0, .float .f64 0, .float .f64 0], .bool false]) ∧ Below v.heap.size v w')) :
    Calls Tryd.prog 18 #[g9, .agg #[.int .i64 sd, .float .f64 dt, .float .f64 gr, .float .f64 dr, .int .i64 lim, .bool rv, .slice pr lr cr], .agg #[.slice pb lb cb, .slice pw lw cw, .slice pt lt ct, .slice ps ls cs, .int .i64 sky, .int .i64 st], .int .i64 e] w fun x w' => x = .returned (.float .f64 0) ∧ Below w.heap.size w w' := by
  have W_W0 : Hid (Ab w ((w.alloc (.cells #[.int .i64 sd, .float .f64 dt, .float .f64 gr, .float .f64 dr, .int .i64 lim, .bool rv, .slice pr lr cr] 25)).alloc (.cells #[.slice pb lb cb, .slice pw lw cw, .slice pt lt ct, .slice ps ls cs, .int .i64 sky, .int .i64 st] 29))) := bl2 _ _ _
  have RP : Hid (((w.alloc (.cells #[.int .i64 sd, .float .f64 dt, .float .f64 gr, .float .f64 dr, .int .i64 lim, .bool rv, .slice pr lr cr] 25)).alloc (.cells #[.slice pb lb cb, .slice pw lw cw, .slice pt lt ct, .slice ps ls cs, .int .i64 sky, .int .i64 st] 29)).heap[w.heap.size]? = some (.cells #[.int .i64 sd, .float .f64 dt, .float .f64 gr, .float .f64 dr, .int .i64 lim, .bool rv, .slice pr lr cr] 25)) := heap_alloc2_old _ _ _
  have RS : Hid (((w.alloc (.cells #[.int .i64 sd, .float .f64 dt, .float .f64 gr, .float .f64 dr, .int .i64 lim, .bool rv, .slice pr lr cr] 25)).alloc (.cells #[.slice pb lb cb, .slice pw lw cw, .slice pt lt ct, .slice ps ls cs, .int .i64 sky, .int .i64 st] 29)).heap[w.heap.size + 1]? = some (.cells #[.slice pb lb cb, .slice pw lw cw, .slice pt lt ct, .slice ps ls cs, .int .i64 sky, .int .i64 st] 29)) := heap_alloc2_new _ _ _
  go_enter Tryd.func18, Tryd.ntmps18
  go_upto_region 1 with fail
  generalize hW : World.alloc (World.alloc w _) _ = W0 at *
  obtain ⟨gp, hgp⟩ : ∃ g, w.heap.size = g := ⟨_, rfl⟩
  obtain ⟨gs, hgs⟩ : ∃ g, w.heap.size + 1 = g := ⟨_, rfl⟩
  rw [hgs] at RS ⊢
  rw [hgp] at RP ⊢
  clear hgs hgp hW
  have y0 := cell_of_row _ _ 0 _ _ _ RS.out
  have y1 := cell_of_row _ _ 1 _ _ _ RS.out
  have y2 := cell_of_row _ _ 2 _ _ _ RS.out
  have y3 := cell_of_row _ _ 3 _ _ _ RS.out
  have y4 := cell_of_row _ _ 4 _ _ _ RS.out
  have y5 := cell_of_row _ _ 5 _ _ _ RS.out
  go_wp2_with fail
  refine (EO.out _ W_W0.out).mono ?_
  rintro e9 v1 ⟨rfl, k1⟩
  have W_v1 : Hid (Ab w v1) := W_W0.out.call k1
  have RP1 := hid (Ab.heap k1 RP.out)
  clear k1 W_W0 RS RP y0 y1 y2 y3 y4 y5
  have W_V : Hid (Ab w (v1.alloc (.cells #[.float .f64 0, .int .i64 0, .int .i64 0, .float .f64 0, .int .i64 0, .int .i64 0, .float .f64 0, .float .f64 0] 73))) := W_v1.out.trans (bl1 _ _)
  go_wp2
  go_ret
  exact ⟨rfl, W_V.out⟩
set_option maxRecDepth 100000 in
set_option maxHeartbeats 8000000 in
theorem speed_shut (g9 : Value) (sd : Int) (dt gr dr : Nat) (lim : Int) (rv : Bool) (pr : Option Addr) (lr cr : Nat) (pb pw pt ps : Option Addr) (lb cb lw cw lt ct ls cs : Nat) (sky st : Int) (e : Int) (bl br gap vu : Nat) (wl al wr ar : Int) (w : World)
    (EO : Hid (∀ v, Ab w v → Calls Tryd.prog 33 #[g9, .agg #[.slice pb lb cb, .slice pw lw cw, .slice pt lt ct, .slice ps ls cs, .int .i64 sky, .int .i64 st], .int .i64 e] v fun x w' => x = .returned (.tuple #[.agg #[.float .f64 bl, .int .i64 wl, .int .i64 al, .float .f64 br, .int .i64 wr, .int .i64 ar, .float .f64 gap, .float .f64 vu], .bool true]) ∧ Below v.heap.size v w'))
    (OP : Hid (∀ v, Calls Tryd.prog 34 #[.agg #[.float .f64 bl, .int .i64 wl, .int .i64 al, .float .f64 br, .int .i64 wr, .int .i64 ar, .float .f64 gap, .float .f64 vu]] v fun x w' => x = .returned (.bool false) ∧ Below v.heap.size v w')) :
    Calls Tryd.prog 18 #[g9, .agg #[.int .i64 sd, .float .f64 dt, .float .f64 gr, .float .f64 dr, .int .i64 lim, .bool rv, .slice pr lr cr], .agg #[.slice pb lb cb, .slice pw lw cw, .slice pt lt ct, .slice ps ls cs, .int .i64 sky, .int .i64 st], .int .i64 e] w fun x w' => x = .returned (.float .f64 0) ∧ Below w.heap.size w w' := by
  have W_W0 : Hid (Ab w ((w.alloc (.cells #[.int .i64 sd, .float .f64 dt, .float .f64 gr, .float .f64 dr, .int .i64 lim, .bool rv, .slice pr lr cr] 25)).alloc (.cells #[.slice pb lb cb, .slice pw lw cw, .slice pt lt ct, .slice ps ls cs, .int .i64 sky, .int .i64 st] 29))) := bl2 _ _ _
  have RP : Hid (((w.alloc (.cells #[.int .i64 sd, .float .f64 dt, .float .f64 gr, .float .f64 dr, .int .i64 lim, .bool rv, .slice pr lr cr] 25)).alloc (.cells #[.slice pb lb cb, .slice pw lw cw, .slice pt lt ct, .slice ps ls cs, .int .i64 sky, .int .i64 st] 29)).heap[w.heap.size]? = some (.cells #[.int .i64 sd, .float .f64 dt, .float .f64 gr, .float .f64 dr, .int .i64 lim, .bool rv, .slice pr lr cr] 25)) := heap_alloc2_old _ _ _
  have RS : Hid (((w.alloc (.cells #[.int .i64 sd, .float .f64 dt, .float .f64 gr, .float .f64 dr, .int .i64 lim, .bool rv, .slice pr lr cr] 25)).alloc (.cells #[.slice pb lb cb, .slice pw lw cw, .slice pt lt ct, .slice ps ls cs, .int .i64 sky, .int .i64 st] 29)).heap[w.heap.size + 1]? = some (.cells #[.slice pb lb cb, .slice pw lw cw, .slice pt lt ct, .slice ps ls cs, .int .i64 sky, .int .i64 st] 29)) := heap_alloc2_new _ _ _
  go_enter Tryd.func18, Tryd.ntmps18
  go_upto_region 1 with fail
  generalize hW : World.alloc (World.alloc w _) _ = W0 at *
  obtain ⟨gp, hgp⟩ : ∃ g, w.heap.size = g := ⟨_, rfl⟩
  obtain ⟨gs, hgs⟩ : ∃ g, w.heap.size + 1 = g := ⟨_, rfl⟩
  rw [hgs] at RS ⊢
  rw [hgp] at RP ⊢
  clear hgs hgp hW
  have y0 := cell_of_row _ _ 0 _ _ _ RS.out
  have y1 := cell_of_row _ _ 1 _ _ _ RS.out
  have y2 := cell_of_row _ _ 2 _ _ _ RS.out
  have y3 := cell_of_row _ _ 3 _ _ _ RS.out
  have y4 := cell_of_row _ _ 4 _ _ _ RS.out
  have y5 := cell_of_row _ _ 5 _ _ _ RS.out
  go_wp2_with fail
  refine (EO.out _ W_W0.out).mono ?_
  rintro e9 v1 ⟨rfl, k1⟩
  have W_v1 : Hid (Ab w v1) := W_W0.out.call k1
  have RP1 := hid (Ab.heap k1 RP.out)
  clear k1 W_W0 RS RP y0 y1 y2 y3 y4 y5
  have W_V : Hid (Ab w (v1.alloc (.cells #[.float .f64 bl, .int .i64 wl, .int .i64 al, .float .f64 br, .int .i64 wr, .int .i64 ar, .float .f64 gap, .float .f64 vu] 73))) := W_v1.out.trans (bl1 _ _)
  go_wp2_with fail
  refine (OP.out _).mono ?_
  rintro e9 v2 ⟨rfl, k1⟩
  have W_v2 : Hid (Ab w v2) := W_V.out.call k1
  clear k1 W_V W_v1
  go_wp2
  go_ret
  exact ⟨rfl, W_v2.out⟩
set_option maxRecDepth 100000 in
set_option maxHeartbeats 8000000 in
theorem speed_go (g9 : Value) (sd : Int) (dt gr dr : Nat) (lim : Int) (rv : Bool) (pr : Option Addr) (lr cr : Nat) (pb pw pt ps : Option Addr) (lb cb lw cw lt ct ls cs : Nat) (sky st : Int) (e : Int) (bl br gap vu : Nat) (wl al wr ar : Int) (y : Nat) (UQ HQ : Nat → Prop) (w : World)
    (EO : Hid (∀ v, Ab w v → Calls Tryd.prog 33 #[g9, .agg #[.slice pb lb cb, .slice pw lw cw, .slice pt lt ct, .slice ps ls cs, .int .i64 sky, .int .i64 st], .int .i64 e] v fun x w' => x = .returned (.tuple #[.agg #[.float .f64 bl, .int .i64 wl, .int .i64 al, .float .f64 br, .int .i64 wr, .int .i64 ar, .float .f64 gap, .float .f64 vu], .bool true]) ∧ Below v.heap.size v w'))
    (OP : Hid (∀ v, Calls Tryd.prog 34 #[.agg #[.float .f64 bl, .int .i64 wl, .int .i64 al, .float .f64 br, .int .i64 wr, .int .i64 ar, .float .f64 gap, .float .f64 vu]] v fun x w' => x = .returned (.bool true) ∧ Below v.heap.size v w'))
    (PU : Hid (∀ v, Calls Tryd.prog 38 #[.agg #[.float .f64 bl, .int .i64 wl, .int .i64 al, .float .f64 br, .int .i64 wr, .int .i64 ar, .float .f64 gap, .float .f64 vu], .agg #[.int .i64 sd, .float .f64 dt, .float .f64 gr, .float .f64 dr, .int .i64 lim, .bool rv, .slice pr lr cr]] v fun x w' => (∃ r, x = .returned (.float .f64 r) ∧ UQ r) ∧ Below v.heap.size v w'))
    (DE : Hid (∀ v, Calls Tryd.prog 39 #[.agg #[.float .f64 bl, .int .i64 wl, .int .i64 al, .float .f64 br, .int .i64 wr, .int .i64 ar, .float .f64 gap, .float .f64 vu]] v fun x w' => (∃ r, x = .returned (.float .f64 r) ∧ HQ r) ∧ Below v.heap.size v w'))
    (DG : Hid (∀ u h, UQ u → HQ h → ∀ v, Calls Tryd.prog 37 #[.agg #[.int .i64 sd, .float .f64 dt, .float .f64 gr, .float .f64 dr, .int .i64 lim, .bool rv, .slice pr lr cr], .float .f64 u, .float .f64 h] v fun x w' => x = .returned (.float .f64 y) ∧ Below v.heap.size v w')) :
    Calls Tryd.prog 18 #[g9, .agg #[.int .i64 sd, .float .f64 dt, .float .f64 gr, .float .f64 dr, .int .i64 lim, .bool rv, .slice pr lr cr], .agg #[.slice pb lb cb, .slice pw lw cw, .slice pt lt ct, .slice ps ls cs, .int .i64 sky, .int .i64 st], .int .i64 e] w fun x w' => x = .returned (.float .f64 y) ∧ Below w.heap.size w w' := by
  have W_W0 : Hid (Ab w ((w.alloc (.cells #[.int .i64 sd, .float .f64 dt, .float .f64 gr, .float .f64 dr, .int .i64 lim, .bool rv, .slice pr lr cr] 25)).alloc (.cells #[.slice pb lb cb, .slice pw lw cw, .slice pt lt ct, .slice ps ls cs, .int .i64 sky, .int .i64 st] 29))) := bl2 _ _ _
  have RP : Hid (((w.alloc (.cells #[.int .i64 sd, .float .f64 dt, .float .f64 gr, .float .f64 dr, .int .i64 lim, .bool rv, .slice pr lr cr] 25)).alloc (.cells #[.slice pb lb cb, .slice pw lw cw, .slice pt lt ct, .slice ps ls cs, .int .i64 sky, .int .i64 st] 29)).heap[w.heap.size]? = some (.cells #[.int .i64 sd, .float .f64 dt, .float .f64 gr, .float .f64 dr, .int .i64 lim, .bool rv, .slice pr lr cr] 25)) := heap_alloc2_old _ _ _
  have RS : Hid (((w.alloc (.cells #[.int .i64 sd, .float .f64 dt, .float .f64 gr, .float .f64 dr, .int .i64 lim, .bool rv, .slice pr lr cr] 25)).alloc (.cells #[.slice pb lb cb, .slice pw lw cw, .slice pt lt ct, .slice ps ls cs, .int .i64 sky, .int .i64 st] 29)).heap[w.heap.size + 1]? = some (.cells #[.slice pb lb cb, .slice pw lw cw, .slice pt lt ct, .slice ps ls cs, .int .i64 sky, .int .i64 st] 29)) := heap_alloc2_new _ _ _
  go_enter Tryd.func18, Tryd.ntmps18
  go_upto_region 1 with fail
  generalize hW : World.alloc (World.alloc w _) _ = W0 at *
  obtain ⟨gp, hgp⟩ : ∃ g, w.heap.size = g := ⟨_, rfl⟩
  obtain ⟨gs, hgs⟩ : ∃ g, w.heap.size + 1 = g := ⟨_, rfl⟩
  rw [hgs] at RS ⊢
  rw [hgp] at RP ⊢
  clear hgs hgp hW
  have y0 := cell_of_row _ _ 0 _ _ _ RS.out
  have y1 := cell_of_row _ _ 1 _ _ _ RS.out
  have y2 := cell_of_row _ _ 2 _ _ _ RS.out
  have y3 := cell_of_row _ _ 3 _ _ _ RS.out
  have y4 := cell_of_row _ _ 4 _ _ _ RS.out
  have y5 := cell_of_row _ _ 5 _ _ _ RS.out
  go_wp2_with fail
  refine (EO.out _ W_W0.out).mono ?_
  rintro e9 v1 ⟨rfl, k1⟩
  have W_v1 : Hid (Ab w v1) := W_W0.out.call k1
  have RP1 := hid (Ab.heap k1 RP.out)
  clear k1 W_W0 RS RP y0 y1 y2 y3 y4 y5
  have W_V : Hid (Ab w (v1.alloc (.cells #[.float .f64 bl, .int .i64 wl, .int .i64 al, .float .f64 br, .int .i64 wr, .int .i64 ar, .float .f64 gap, .float .f64 vu] 73))) := W_v1.out.trans (bl1 _ _)
  have RE1 := hid (heap_alloc_new v1 (.cells #[.float .f64 bl, .int .i64 wl, .int .i64 al, .float .f64 br, .int .i64 wr, .int .i64 ar, .float .f64 gap, .float .f64 vu] 73))
  have RPV : Hid ((v1.alloc (.cells #[.float .f64 bl, .int .i64 wl, .int .i64 al, .float .f64 br, .int .i64 wr, .int .i64 ar, .float .f64 gap, .float .f64 vu] 73)).heap[gp]? = some (.cells #[.int .i64 sd, .float .f64 dt, .float .f64 gr, .float .f64 dr, .int .i64 lim, .bool rv, .slice pr lr cr] 25)) := Ab.heap (bl1 _ _) RP1.out
  go_wp2_with fail
  refine (OP.out _).mono ?_
  rintro e9 v2 ⟨rfl, k1⟩
  have W_W0 : Hid (Ab w v2) := W_V.out.call k1
  have RE2 := hid (Ab.heap k1 RE1.out)
  have RP2 := hid (Ab.heap k1 RPV.out)
  clear k1 W_V RE1 RPV RP1 W_v1
  go_upto_region 4 with fail
  obtain ⟨ge, hge⟩ : ∃ g, v1.heap.size = g := ⟨_, rfl⟩
  rw [hge] at RE2 ⊢
  clear hge
  refine Rl.region_rel (fun i v => match i with
      | 0 => v = .agg #[.int .i64 sd, .float .f64 dt, .float .f64 gr, .float .f64 dr, .int .i64 lim, .bool rv, .slice pr lr cr]
      | 1 => v = .agg #[.float .f64 bl, .int .i64 wl, .int .i64 al, .float .f64 br, .int .i64 wr, .int .i64 ar, .float .f64 gap, .float .f64 vu]
      | 2 => v = .agg #[.int .i64 sd, .float .f64 dt, .float .f64 gr, .float .f64 dr, .int .i64 lim, .bool rv, .slice pr lr cr]
      | 3 => ∃ r, v = .float .f64 r ∧ UQ r
      | 4 => v = .agg #[.float .f64 bl, .int .i64 wl, .int .i64 al, .float .f64 br, .int .i64 wr, .int .i64 ar, .float .f64 gap, .float .f64 vu]
      | 5 => ∃ r, v = .float .f64 r ∧ HQ r
      | 6 => v = .float .f64 y
      | _ => v = .float .f64 y) (fun w9 => Ab v2 w9) (by kernel_rfl) (by kernel_rfl) (by kernel_rfl) (Ab.refl v2).drew ?_ ?_
  · refine Rl.rel_cons 1 (fun v => v = .agg #[.int .i64 sd, .float .f64 dt, .float .f64 gr, .float .f64 dr, .int .i64 lim, .bool rv, .slice pr lr cr]) rfl rfl ?_ ?_
    · intro x v hC hR
      have y0 := cell_of_row _ _ 0 _ _ _ (hC.heap RP2.out)
      have y1 := cell_of_row _ _ 1 _ _ _ (hC.heap RP2.out)
      have y2 := cell_of_row _ _ 2 _ _ _ (hC.heap RP2.out)
      have y3 := cell_of_row _ _ 3 _ _ _ (hC.heap RP2.out)
      have y4 := cell_of_row _ _ 4 _ _ _ (hC.heap RP2.out)
      have y5 := cell_of_row _ _ 5 _ _ _ (hC.heap RP2.out)
      have y6 := cell_of_row _ _ 6 _ _ _ (hC.heap RP2.out)
      clear hR
      intro K hK
      simp only [putAll, Act.put, List.setIfInBounds_toArray, List.set_cons_zero, List.set_cons_succ, Nat.reduceAdd, Nat.zero_add] at hK ⊢
      go_simp
      exact hK.out _ _ rfl hC
    refine Rl.rel_cons 2 (fun v => v = .agg #[.float .f64 bl, .int .i64 wl, .int .i64 al, .float .f64 br, .int .i64 wr, .int .i64 ar, .float .f64 gap, .float .f64 vu]) rfl rfl ?_ ?_
    · intro x v hC hR
      have y0 := cell_of_row _ _ 0 _ _ _ (hC.heap RE2.out)
      have y1 := cell_of_row _ _ 1 _ _ _ (hC.heap RE2.out)
      have y2 := cell_of_row _ _ 2 _ _ _ (hC.heap RE2.out)
      have y3 := cell_of_row _ _ 3 _ _ _ (hC.heap RE2.out)
      have y4 := cell_of_row _ _ 4 _ _ _ (hC.heap RE2.out)
      have y5 := cell_of_row _ _ 5 _ _ _ (hC.heap RE2.out)
      have y6 := cell_of_row _ _ 6 _ _ _ (hC.heap RE2.out)
      have y7 := cell_of_row _ _ 7 _ _ _ (hC.heap RE2.out)
      clear hR
      intro K hK
      simp only [putAll, Act.put, List.setIfInBounds_toArray, List.set_cons_zero, List.set_cons_succ, Nat.reduceAdd, Nat.zero_add] at hK ⊢
      go_simp
      exact hK.out _ _ rfl hC
    refine Rl.rel_cons 3 (fun v => v = .agg #[.int .i64 sd, .float .f64 dt, .float .f64 gr, .float .f64 dr, .int .i64 lim, .bool rv, .slice pr lr cr]) rfl rfl ?_ ?_
    · intro x v hC hR
      have y0 := cell_of_row _ _ 0 _ _ _ (hC.heap RP2.out)
      have y1 := cell_of_row _ _ 1 _ _ _ (hC.heap RP2.out)
      have y2 := cell_of_row _ _ 2 _ _ _ (hC.heap RP2.out)
      have y3 := cell_of_row _ _ 3 _ _ _ (hC.heap RP2.out)
      have y4 := cell_of_row _ _ 4 _ _ _ (hC.heap RP2.out)
      have y5 := cell_of_row _ _ 5 _ _ _ (hC.heap RP2.out)
      have y6 := cell_of_row _ _ 6 _ _ _ (hC.heap RP2.out)
      clear hR
      intro K hK
      simp only [putAll, Act.put, List.setIfInBounds_toArray, List.set_cons_zero, List.set_cons_succ, Nat.reduceAdd, Nat.zero_add] at hK ⊢
      go_simp
      exact hK.out _ _ rfl hC
    refine Rl.rel_cons 4 (fun v => ∃ r, v = .float .f64 r ∧ UQ r) rfl rfl ?_ ?_
    · intro x v hC hR
      have h0 : x 1 = .agg #[.float .f64 bl, .int .i64 wl, .int .i64 al, .float .f64 br, .int .i64 wr, .int .i64 ar, .float .f64 gap, .float .f64 vu] := hR 1 (by kernel_rfl)
      have h1 : x 2 = .agg #[.int .i64 sd, .float .f64 dt, .float .f64 gr, .float .f64 dr, .int .i64 lim, .bool rv, .slice pr lr cr] := hR 2 (by kernel_rfl)
      clear hR
      intro K hK
      simp only [putAll, Act.put, List.setIfInBounds_toArray, List.set_cons_zero, List.set_cons_succ, Nat.reduceAdd, Nat.zero_add] at hK ⊢
      simp only [h0, h1] at hK ⊢
      go_simp
      refine (PU.out _).mono ?_
      rintro e w8 ⟨⟨r, rfl, hr⟩, kb⟩
      exact hK.out _ _ ⟨r, rfl, hr⟩ (hC.call kb)
    refine Rl.rel_cons 5 (fun v => v = .agg #[.float .f64 bl, .int .i64 wl, .int .i64 al, .float .f64 br, .int .i64 wr, .int .i64 ar, .float .f64 gap, .float .f64 vu]) rfl rfl ?_ ?_
    · intro x v hC hR
      have y0 := cell_of_row _ _ 0 _ _ _ (hC.heap RE2.out)
      have y1 := cell_of_row _ _ 1 _ _ _ (hC.heap RE2.out)
      have y2 := cell_of_row _ _ 2 _ _ _ (hC.heap RE2.out)
      have y3 := cell_of_row _ _ 3 _ _ _ (hC.heap RE2.out)
      have y4 := cell_of_row _ _ 4 _ _ _ (hC.heap RE2.out)
      have y5 := cell_of_row _ _ 5 _ _ _ (hC.heap RE2.out)
      have y6 := cell_of_row _ _ 6 _ _ _ (hC.heap RE2.out)
      have y7 := cell_of_row _ _ 7 _ _ _ (hC.heap RE2.out)
      clear hR
      intro K hK
      simp only [putAll, Act.put, List.setIfInBounds_toArray, List.set_cons_zero, List.set_cons_succ, Nat.reduceAdd, Nat.zero_add] at hK ⊢
      go_simp
      exact hK.out _ _ rfl hC
    refine Rl.rel_cons 6 (fun v => ∃ r, v = .float .f64 r ∧ HQ r) rfl rfl ?_ ?_
    · intro x v hC hR
      have h0 : x 4 = .agg #[.float .f64 bl, .int .i64 wl, .int .i64 al, .float .f64 br, .int .i64 wr, .int .i64 ar, .float .f64 gap, .float .f64 vu] := hR 4 (by kernel_rfl)
      clear hR
      intro K hK
      simp only [putAll, Act.put, List.setIfInBounds_toArray, List.set_cons_zero, List.set_cons_succ, Nat.reduceAdd, Nat.zero_add] at hK ⊢
      simp only [h0] at hK ⊢
      go_simp
      refine (DE.out _).mono ?_
      rintro e w8 ⟨⟨r, rfl, hr⟩, kb⟩
      exact hK.out _ _ ⟨r, rfl, hr⟩ (hC.call kb)
    refine Rl.rel_cons 7 (fun v => v = .float .f64 y) rfl rfl ?_ ?_
    · intro x v hC hR
      have h5 : x 0 = .agg #[.int .i64 sd, .float .f64 dt, .float .f64 gr, .float .f64 dr, .int .i64 lim, .bool rv, .slice pr lr cr] := hR 0 (by kernel_rfl)
      have h0 : ∃ r, x 3 = .float .f64 r ∧ UQ r := hR 3 (by kernel_rfl)
      have h1 : ∃ r, x 5 = .float .f64 r ∧ HQ r := hR 5 (by kernel_rfl)
      obtain ⟨r1, e1, i1⟩ := h0
      obtain ⟨r2, e2, i2⟩ := h1
      have DG1 := hid (DG.out r1 r2 i1 i2)
      clear i1 i2
      clear hR
      intro K hK
      simp only [putAll, Act.put, List.setIfInBounds_toArray, List.set_cons_zero, List.set_cons_succ, Nat.reduceAdd, Nat.zero_add] at hK ⊢
      simp only [h5, e1, e2] at hK ⊢
      go_simp
      refine (DG1.out _).mono ?_
      rintro e w8 ⟨rfl, kb⟩
      exact hK.out _ _ rfl (hC.call kb)
    refine Rl.rel_cons 8 (fun v => v = .float .f64 y) rfl rfl ?_ ?_
    · intro x v hC hR
      have h0 : x 6 = .float .f64 y := hR 6 (by kernel_rfl)
      clear hR
      intro K hK
      simp only [putAll, Act.put, List.setIfInBounds_toArray, List.set_cons_zero, List.set_cons_succ, Nat.reduceAdd, Nat.zero_add] at hK ⊢
      simp only [h0] at hK ⊢
      go_simp
      exact hK.out _ _ rfl hC
    exact Rl.rel_nil
  · intro x z hz hR
    have h0 : x 7 = .float .f64 y := hR 7 (by decide)
    clear hR
    have WZ : Hid (Ab w z) := W_W0.out.trans hz
    clear hz
    simp only [putAll, Act.put, List.setIfInBounds_toArray, List.set_cons_zero, List.set_cons_succ, Nat.reduceAdd, Nat.zero_add, h0]
    go_wp2
    go_ret
    exact ⟨rfl, WZ.out⟩
end Fc
end Go.Proofs.YtpfoohpncbkkfaaDoor

namespace Go.Proofs.YtpfoohpncbkkfaaDoor
open Go.RowKit Tf Cu Go.Deep Rl
attribute [local go_sem] run_bits run_from raw_feq raw_fne raw_flt raw_fgt run_neg run_store_float
namespace Fc
theorem row_ownF {B g cap n : Nat} {F : Nat → Value} {x : Nat → Nat} {w : World} (h : w.rowIs g 22 cap F) (hB : B ≤ g) (hn : n ≤ cap) (hc : cap ≤ maxLen) (hF : ∀ i, i < n → F i = .float .f64 (x i)) : OwnG B (.slice (some ⟨g, 0, none⟩) n cap) ((List.range n).map x) w := by
  obtain ⟨c, hb, hs, hf⟩ := h
  refine ⟨by simp, .inr ⟨g, cap, c, by simp, hB, hb, by simpa using hn, hc, by omega, ?_⟩⟩
  apply List.ext_getElem?
  intro i
  rw [List.getElem?_take, List.length_map, List.length_range]
  by_cases hi : i < n
  · have e := hf i (by omega)
    rw [hF i hi] at e
    rw [if_pos (by omega)]
    rw [← Array.getElem?_toList] at e
    rw [e]
    simp [hi]
  · rw [if_neg (by omega), List.getElem?_eq_none (by simp; omega)]
set_option maxRecDepth 100000 in
set_option maxHeartbeats 8000000 in
theorem speeds_no (gb : Nat) (sd : Int) (dt gr dr : Nat) (lim : Int) (rv : Bool) (pr : Option Addr) (lr cr : Nat) (pb pw pt ps : Option Addr) (lb cb lw cw lt ct ls cs : Nat) (sky st : Int) (w : World)
    (CF : Hid (∀ v, Ab w v → Calls Tryd.prog 27 #[.pointer (some ⟨gb, 0, none⟩), .agg #[.slice pb lb cb, .slice pw lw cw, .slice pt lt ct, .slice ps ls cs, .int .i64 sky, .int .i64 st]] v fun x w' => x = .returned (.bool false) ∧ Below v.heap.size v w')) :
    Calls Tryd.prog 11 #[.pointer (some ⟨gb, 0, none⟩), .agg #[.int .i64 sd, .float .f64 dt, .float .f64 gr, .float .f64 dr, .int .i64 lim, .bool rv, .slice pr lr cr], .agg #[.slice pb lb cb, .slice pw lw cw, .slice pt lt ct, .slice ps ls cs, .int .i64 sky, .int .i64 st]] w fun e w' => e = .returned (.tuple #[.slice none 0 0, .int .i64 1]) ∧ Below w.heap.size w w' := by
  have W_W0 : Hid (Ab w ((w.alloc (.cells #[.int .i64 sd, .float .f64 dt, .float .f64 gr, .float .f64 dr, .int .i64 lim, .bool rv, .slice pr lr cr] 25)).alloc (.cells #[.slice pb lb cb, .slice pw lw cw, .slice pt lt ct, .slice ps ls cs, .int .i64 sky, .int .i64 st] 29))) := bl2 _ _ _
  have RP : Hid (((w.alloc (.cells #[.int .i64 sd, .float .f64 dt, .float .f64 gr, .float .f64 dr, .int .i64 lim, .bool rv, .slice pr lr cr] 25)).alloc (.cells #[.slice pb lb cb, .slice pw lw cw, .slice pt lt ct, .slice ps ls cs, .int .i64 sky, .int .i64 st] 29)).heap[w.heap.size]? = some (.cells #[.int .i64 sd, .float .f64 dt, .float .f64 gr, .float .f64 dr, .int .i64 lim, .bool rv, .slice pr lr cr] 25)) := heap_alloc2_old _ _ _
  have RS : Hid (((w.alloc (.cells #[.int .i64 sd, .float .f64 dt, .float .f64 gr, .float .f64 dr, .int .i64 lim, .bool rv, .slice pr lr cr] 25)).alloc (.cells #[.slice pb lb cb, .slice pw lw cw, .slice pt lt ct, .slice ps ls cs, .int .i64 sky, .int .i64 st] 29)).heap[w.heap.size + 1]? = some (.cells #[.slice pb lb cb, .slice pw lw cw, .slice pt lt ct, .slice ps ls cs, .int .i64 sky, .int .i64 st] 29)) := heap_alloc2_new _ _ _
  go_enter Tryd.func11, Tryd.ntmps11
  go_upto_region 3 with fail
  generalize hW : World.alloc (World.alloc w _) _ = W0 at *
  obtain ⟨gp, hgp⟩ : ∃ g, w.heap.size = g := ⟨_, rfl⟩
  obtain ⟨gs, hgs⟩ : ∃ g, w.heap.size + 1 = g := ⟨_, rfl⟩
  rw [hgs] at RS ⊢
  rw [hgp] at RP ⊢
  clear hgs hgp hW
  have y0 := cell_of_row _ _ 0 _ _ _ RS.out
  have y1 := cell_of_row _ _ 1 _ _ _ RS.out
  have y2 := cell_of_row _ _ 2 _ _ _ RS.out
  have y3 := cell_of_row _ _ 3 _ _ _ RS.out
  have y4 := cell_of_row _ _ 4 _ _ _ RS.out
  have y5 := cell_of_row _ _ 5 _ _ _ RS.out
  go_wp2_with fail
  refine (CF.out _ W_W0.out).mono ?_
  rintro e9 v1 ⟨rfl, k1⟩
  have W_v1 : Hid (Ab w v1) := W_W0.out.call k1
  have RP1 := hid (Ab.heap k1 RP.out)
  have RS1 := hid (Ab.heap k1 RS.out)
  clear k1 W_W0 RS RP y0 y1 y2 y3 y4 y5
  go_wp2
  go_ret2
  exact ⟨rfl, W_v1.out⟩
set_option maxRecDepth 100000 in
set_option maxHeartbeats 8000000 in
theorem speeds_go (gb : Nat) (sd : Int) (dt gr dr : Nat) (lim : Int) (rv : Bool) (pr : Option Addr) (lr cr : Nat) (pb pw pt ps : Option Addr) (lb cb lw cw lt ct ls cs : Nat) (sky st : Int) (N : Nat) (D : Nat → Nat) (w : World) (hN : N ≤ 1048576)
    (CF : Hid (∀ v, Ab w v → Calls Tryd.prog 27 #[.pointer (some ⟨gb, 0, none⟩), .agg #[.slice pb lb cb, .slice pw lw cw, .slice pt lt ct, .slice ps ls cs, .int .i64 sky, .int .i64 st]] v fun x w' => x = .returned (.bool true) ∧ Below v.heap.size v w'))
    (CE : Hid (∀ v, Ab w v → Calls Tryd.prog 28 #[.pointer (some ⟨gb, 0, none⟩)] v fun e w' => e = .returned (.int .i64 (N : Nat)) ∧ w' = v))
    (CS : Hid (∀ c : Nat, c < N → ∀ v, Ab w v → Calls Tryd.prog 18 #[.pointer (some ⟨gb, 0, none⟩), .agg #[.int .i64 sd, .float .f64 dt, .float .f64 gr, .float .f64 dr, .int .i64 lim, .bool rv, .slice pr lr cr], .agg #[.slice pb lb cb, .slice pw lw cw, .slice pt lt ct, .slice ps ls cs, .int .i64 sky, .int .i64 st], .int .i64 (c : Nat)] v fun e w' => e = .returned (.float .f64 (D c)) ∧ Below v.heap.size v w')) :
    Calls Tryd.prog 11 #[.pointer (some ⟨gb, 0, none⟩), .agg #[.int .i64 sd, .float .f64 dt, .float .f64 gr, .float .f64 dr, .int .i64 lim, .bool rv, .slice pr lr cr], .agg #[.slice pb lb cb, .slice pw lw cw, .slice pt lt ct, .slice ps ls cs, .int .i64 sky, .int .i64 st]] w fun e w' => ∃ b, e = .returned (.tuple #[.slice (some ⟨b, 0, none⟩) N N, .int .i64 0]) ∧ Below w.heap.size w w' ∧ w'.rowIs b 22 N (fun i => .float .f64 (D i)) ∧ w.heap.size ≤ b := by
  have M1 : ∀ v : World, (Instr.makeSlice 26 (.int .i64 (N : Nat)) (.int .i64 (N : Nat))).run Tryd.prog v = .ok (.slice (some ⟨v.heap.size, 0, none⟩) N N) (v.alloc (Obj.cells (madeCells #[.float .f64 0] N) 22)) := fun v =>
    run_make_row' (P := Tryd.prog) 26 22 (.float .f64 0) 8 Tryd.underlying26 infoF64 rfl .i64 .i64 N (by omega) (by omega) v
  have HN := hid hN
  clear hN
  have W_W0 : Hid (Ab w ((w.alloc (.cells #[.int .i64 sd, .float .f64 dt, .float .f64 gr, .float .f64 dr, .int .i64 lim, .bool rv, .slice pr lr cr] 25)).alloc (.cells #[.slice pb lb cb, .slice pw lw cw, .slice pt lt ct, .slice ps ls cs, .int .i64 sky, .int .i64 st] 29))) := bl2 _ _ _
  have RP : Hid (((w.alloc (.cells #[.int .i64 sd, .float .f64 dt, .float .f64 gr, .float .f64 dr, .int .i64 lim, .bool rv, .slice pr lr cr] 25)).alloc (.cells #[.slice pb lb cb, .slice pw lw cw, .slice pt lt ct, .slice ps ls cs, .int .i64 sky, .int .i64 st] 29)).heap[w.heap.size]? = some (.cells #[.int .i64 sd, .float .f64 dt, .float .f64 gr, .float .f64 dr, .int .i64 lim, .bool rv, .slice pr lr cr] 25)) := heap_alloc2_old _ _ _
  have RS : Hid (((w.alloc (.cells #[.int .i64 sd, .float .f64 dt, .float .f64 gr, .float .f64 dr, .int .i64 lim, .bool rv, .slice pr lr cr] 25)).alloc (.cells #[.slice pb lb cb, .slice pw lw cw, .slice pt lt ct, .slice ps ls cs, .int .i64 sky, .int .i64 st] 29)).heap[w.heap.size + 1]? = some (.cells #[.slice pb lb cb, .slice pw lw cw, .slice pt lt ct, .slice ps ls cs, .int .i64 sky, .int .i64 st] 29)) := heap_alloc2_new _ _ _
  go_enter Tryd.func11, Tryd.ntmps11
  go_upto_region 3 with fail
  generalize hW : World.alloc (World.alloc w _) _ = W0 at *
  obtain ⟨gp, hgp⟩ : ∃ g, w.heap.size = g := ⟨_, rfl⟩
  obtain ⟨gs, hgs⟩ : ∃ g, w.heap.size + 1 = g := ⟨_, rfl⟩
  rw [hgs] at RS ⊢
  rw [hgp] at RP ⊢
  clear hgs hgp hW
  have y0 := cell_of_row _ _ 0 _ _ _ RS.out
  have y1 := cell_of_row _ _ 1 _ _ _ RS.out
  have y2 := cell_of_row _ _ 2 _ _ _ RS.out
  have y3 := cell_of_row _ _ 3 _ _ _ RS.out
  have y4 := cell_of_row _ _ 4 _ _ _ RS.out
  have y5 := cell_of_row _ _ 5 _ _ _ RS.out
  go_wp2_with fail
  refine (CF.out _ W_W0.out).mono ?_
  rintro e9 v1 ⟨rfl, k1⟩
  have W_v1 : Hid (Ab w v1) := W_W0.out.call k1
  have RP1 := hid (Ab.heap k1 RP.out)
  have RS1 := hid (Ab.heap k1 RS.out)
  clear k1 W_W0 RS RP y0 y1 y2 y3 y4 y5
  go_wp2_with fail
  refine (CE.out _ W_v1.out).mono ?_
  rintro e9 vq ⟨rfl, hvq⟩
  have hvq2 := hvq.symm
  subst hvq2
  have LZ : Hid (w.heap.size ≤ v1.heap.size ∧ gs ≠ v1.heap.size ∧ gp ≠ v1.heap.size) := ⟨W_v1.out.size, by have := lt_of_block RS1.out; omega, by have := lt_of_block RP1.out; omega⟩
  have A1 : Hid (Ab w (v1.alloc (Obj.cells (madeCells #[.float .f64 0] N) 22))) := W_v1.out.alloc _
  have A2 : Hid ((v1.alloc (Obj.cells (madeCells #[.float .f64 0] N) 22)).heap[gs]? = some (.cells #[.slice pb lb cb, .slice pw lw cw, .slice pt lt ct, .slice ps ls cs, .int .i64 sky, .int .i64 st] 29)) := Ab.heap (bl1 _ _) RS1.out
  have A3 : Hid ((v1.alloc (Obj.cells (madeCells #[.float .f64 0] N) 22)).heap[gp]? = some (.cells #[.int .i64 sd, .float .f64 dt, .float .f64 gr, .float .f64 dr, .int .i64 lim, .bool rv, .slice pr lr cr] 25)) := Ab.heap (bl1 _ _) RP1.out
  have A4 : Hid ((v1.alloc (Obj.cells (madeCells #[.float .f64 0] N) 22)).rowIs v1.heap.size 22 N (fun _ => .float .f64 0)) := World.rowIs_made _ _ _ _
  go_upto_region 6 with fail
  generalize hV : World.alloc v1 _ = V at *
  obtain ⟨b, hb⟩ : ∃ b, v1.heap.size = b := ⟨_, rfl⟩
  rw [hb] at A4 LZ ⊢
  clear hV hb W_v1 RS1 RP1 M1
  have IN : Hid (Ab w V ∧ V.heap[gs]? = some (.cells #[.slice pb lb cb, .slice pw lw cw, .slice pt lt ct, .slice ps ls cs, .int .i64 sky, .int .i64 st] 29) ∧ V.heap[gp]? = some (.cells #[.int .i64 sd, .float .f64 dt, .float .f64 gr, .float .f64 dr, .int .i64 lim, .bool rv, .slice pr lr cr] 25) ∧ V.rowIs b 22 N (fun i => .float .f64 (if i < 0 then D i else 0))) := ⟨A1.out, A2.out, A3.out, A4.out.congr (fun i _ => by simp)⟩
  clear A1 A2 A3 A4
  go_wp2
  go_loopw [21] (fun iv wr => ∃ c : Nat, c ≤ N ∧ iv = .int .i64 (c : Nat) ∧ Ab w wr ∧ wr.heap[gs]? = some (.cells #[.slice pb lb cb, .slice pw lw cw, .slice pt lt ct, .slice ps ls cs, .int .i64 sky, .int .i64 st] 29) ∧ wr.heap[gp]? = some (.cells #[.int .i64 sd, .float .f64 dt, .float .f64 gr, .float .f64 dr, .int .i64 lim, .bool rv, .slice pr lr cr] 25) ∧ wr.rowIs b 22 N (fun i => .float .f64 (if i < c then D i else 0))) (fun iv _ => ((N : Int) - intOf iv).toNat)
  case atStart => exact ⟨0, by omega, rfl, IN.out⟩
  case round =>
    obtain ⟨c, hc, rfl, a1, r1, r2, o1⟩ := hrel
    clear IN
    have AR := hid a1
    have RR := hid r1
    have RP := hid r2
    have OO := hid o1
    clear a1 r1 r2 o1
    by_cases hcN : c < N
    · have HC := hid hcN
      have hcI : (c : Int) < N := by omega
      have hcB : (c : Int) ≤ 1048576 := by have := HN.out; omega
      obtain ⟨y, hy⟩ : ∃ y, D c = y := ⟨_, rfl⟩
      have CSc := hid (CS.out c hcN)
      rw [hy] at CSc
      have HY := hid hy
      clear hy hcN
      have y0 := cell_of_row _ _ 0 _ _ _ RR.out
      have y1 := cell_of_row _ _ 1 _ _ _ RR.out
      have y2 := cell_of_row _ _ 2 _ _ _ RR.out
      have y3 := cell_of_row _ _ 3 _ _ _ RR.out
      have y4 := cell_of_row _ _ 4 _ _ _ RR.out
      have y5 := cell_of_row _ _ 5 _ _ _ RR.out
      have p0 := cell_of_row _ _ 0 _ _ _ RP.out
      have p1 := cell_of_row _ _ 1 _ _ _ RP.out
      have p2 := cell_of_row _ _ 2 _ _ _ RP.out
      have p3 := cell_of_row _ _ 3 _ _ _ RP.out
      have p4 := cell_of_row _ _ 4 _ _ _ RP.out
      have p5 := cell_of_row _ _ 5 _ _ _ RP.out
      have p6 := cell_of_row _ _ 6 _ _ _ RP.out
      go_wp2_with fail
      refine (CSc.out _ AR.out).mono ?_
      rintro e9 vz ⟨rfl, bz⟩
      have AZ : Hid (Ab wr vz) := bz
      clear bz y0 y1 y2 y3 y4 y5 p0 p1 p2 p3 p4 p5 p6
      have OZ := hid (rowIs.ab OO.out AZ.out)
      have xc := OZ.out.cell HC.out
      have xf := OZ.out.frozen c
      go_wp2
      refine ⟨⟨c + 1, by have := HC.out; omega, by simp, (AR.out.trans AZ.out).setk LZ.out.1 _, ?_, ?_, (OZ.out.set c _).congr (fun i _ => ?_)⟩, by simp [intOf]; have := HC.out; omega⟩
      · rw [heap_set_ne LZ.out.2.1]; exact AZ.out.heap RR.out
      · rw [heap_set_ne LZ.out.2.2]; exact AZ.out.heap RP.out
      · by_cases e : i = c
        · simp [e, HY.out]
        · by_cases l : i < c
          · simp [e, l, show i < c + 1 by omega]
          · simp [e, l, show ¬ i < c + 1 by omega]
    · have e6 : N = c := by omega
      subst e6
      go_wp2
      go_ret2
      exact ⟨b, rfl, AR.out, OO.out.congr (fun i hi => by simp [hi]), LZ.out.1⟩
end Fc
end Go.Proofs.YtpfoohpncbkkfaaDoor
