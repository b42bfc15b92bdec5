/-
  Some of the texts of this proof, one behind the other.
-/
import Derived.Deep.QuietTactic
import Derived.Test.YtgalgnjgpmcngaaGreatDoorZ20
namespace Go.Proofs.YtgalgnjgpmcngaaGreatDoor
open Go.RowKit Tf Cu Go.Deep Rl
attribute [local go_sem] run_bits run_from raw_feq raw_fne raw_flt raw_fgt run_neg run_store_float
namespace Fc
set_option maxRecDepth 100000 in
set_option maxHeartbeats 8000000 in
theorem ffits_at (gb : Nat) (pb pw pt ps : Option Addr) (lb cb lw cw lt ct ls cs : Nat) (sky st : Int) (M N : Nat) (q : Bool) (w : World)
    (hq : (((lb : Int) == (M : Int)) = false ∧ q = false) ∨ (((lb : Int) == (M : Int)) = true ∧ ((lw : Int) == (M : Int)) = false ∧ q = false) ∨ (((lb : Int) == (M : Int)) = true ∧ ((lw : Int) == (M : Int)) = true ∧ ((lt : Int) == (M : Int)) = false ∧ q = false) ∨ (((lb : Int) == (M : Int)) = true ∧ ((lw : Int) == (M : Int)) = true ∧ ((lt : Int) == (M : Int)) = true ∧ ((ls : Int) == (N : Int)) = q))
    (CC : Hid (∀ v, Ab w v → Calls Tryz.prog 43 #[(.pointer (some ⟨gb, 0, none⟩))] v fun e w' => e = .returned (.int .i64 (M : Nat)) ∧ Below v.heap.size v w'))
    (CE : Hid (∀ v, Ab w v → Calls Tryz.prog 17 #[(.pointer (some ⟨gb, 0, none⟩))] v fun e w' => e = .returned (.int .i64 (N : Nat)) ∧ Below v.heap.size v w')) :
    Calls Tryz.prog 16 #[(.pointer (some ⟨gb, 0, none⟩)), .agg #[.slice pb lb cb, .slice pw lw cw, .slice pt lt ct, .slice ps ls cs, .int .i64 sky, .int .i64 st]] w fun e w' => e = .returned (.bool q) ∧ Below w.heap.size w w' := by
  have A0 : Hid (Ab w (w.alloc (.cells #[.slice pb lb cb, .slice pw lw cw, .slice pt lt ct, .slice ps ls cs, .int .i64 sky, .int .i64 st] 29))) := bl1 _ _
  have RO : Hid ((w.alloc (.cells #[.slice pb lb cb, .slice pw lw cw, .slice pt lt ct, .slice ps ls cs, .int .i64 sky, .int .i64 st] 29)).heap[w.heap.size]? = some (.cells #[.slice pb lb cb, .slice pw lw cw, .slice pt lt ct, .slice ps ls cs, .int .i64 sky, .int .i64 st] 29)) := heap_alloc_new _ _
  go_enter Tryz.func16, Tryz.ntmps16
  go_wp2_with fail
  refine (CC.out _ A0.out).mono ?_
  rintro e9 v1 ⟨rfl, b1⟩
  have A1 : Hid (Ab w v1) := A0.out.call b1
  have R1 : Hid (v1.heap[w.heap.size]? = some (.cells #[.slice pb lb cb, .slice pw lw cw, .slice pt lt ct, .slice ps ls cs, .int .i64 sky, .int .i64 st] 29)) := Ab.heap b1 RO.out
  clear b1 A0 RO
  go_upto_region 2 with fail
  obtain ⟨gs, hgs⟩ : ∃ g, w.heap.size = g := ⟨_, rfl⟩
  rw [hgs] at R1 ⊢
  clear hgs
  rcases hq with ⟨q1, rfl⟩ | ⟨q1, q2, rfl⟩ | ⟨q1, q2, q3, rfl⟩ | ⟨q1, q2, q3, q4⟩
  · obtain ⟨UU, E, hF1, hF2⟩ := cls v1
    have HU := hid hF2
    have HU1 := hid hF1
    have HX : Hid (∀ u, Ab w (E u)) := fun u => Ab.trans A1.out (hF1 u)
    have s0 : ∀ u, (E u).cell? ⟨gs, 0, none⟩ = some (.slice pb lb cb) := fun u => cell_of_row _ _ 0 _ _ _ ((hF1 u).heap R1.out)
    have s1 : ∀ u, (E u).cell? ⟨gs, 1, none⟩ = some (.slice pw lw cw) := fun u => cell_of_row _ _ 1 _ _ _ ((hF1 u).heap R1.out)
    have s2 : ∀ u, (E u).cell? ⟨gs, 2, none⟩ = some (.slice pt lt ct) := fun u => cell_of_row _ _ 2 _ _ _ ((hF1 u).heap R1.out)
    have s3 : ∀ u, (E u).cell? ⟨gs, 3, none⟩ = some (.slice ps ls cs) := fun u => cell_of_row _ _ 3 _ _ _ ((hF1 u).heap R1.out)
    have DD0 := HU.out _ (Ab.refl v1).drew
    clear hF1 hF2
    refine region_cls E (by kernel_rfl) (by kernel_rfl) DD0 ?_
    repeat (go_big_quiet_step (first
      | (with_reducible rfl)
      | (go_at_call 17; exact calls_cls HU HU1 (CE.out _ (HX.out _)))))
    refine wpQuiet_nil ?_
    intro z hwz
    obtain ⟨u0, hu⟩ := hwz
    have AZ : Hid (Ab w z) := by rw [hu]; exact HX.out u0
    clear hu u0
    clear HU HU1 HX DD0 s0 s1 s2 s3
    clear E UU
    go_wp2
    go_ret
    exact ⟨rfl, AZ.out⟩
  · obtain ⟨UU, E, hF1, hF2⟩ := cls v1
    have HU := hid hF2
    have HU1 := hid hF1
    have HX : Hid (∀ u, Ab w (E u)) := fun u => Ab.trans A1.out (hF1 u)
    have s0 : ∀ u, (E u).cell? ⟨gs, 0, none⟩ = some (.slice pb lb cb) := fun u => cell_of_row _ _ 0 _ _ _ ((hF1 u).heap R1.out)
    have s1 : ∀ u, (E u).cell? ⟨gs, 1, none⟩ = some (.slice pw lw cw) := fun u => cell_of_row _ _ 1 _ _ _ ((hF1 u).heap R1.out)
    have s2 : ∀ u, (E u).cell? ⟨gs, 2, none⟩ = some (.slice pt lt ct) := fun u => cell_of_row _ _ 2 _ _ _ ((hF1 u).heap R1.out)
    have s3 : ∀ u, (E u).cell? ⟨gs, 3, none⟩ = some (.slice ps ls cs) := fun u => cell_of_row _ _ 3 _ _ _ ((hF1 u).heap R1.out)
    have DD0 := HU.out _ (Ab.refl v1).drew
    clear hF1 hF2
    refine region_cls E (by kernel_rfl) (by kernel_rfl) DD0 ?_
    repeat (go_big_quiet_step (first
      | (with_reducible rfl)
      | (go_at_call 17; exact calls_cls HU HU1 (CE.out _ (HX.out _)))))
    refine wpQuiet_nil ?_
    intro z hwz
    obtain ⟨u0, hu⟩ := hwz
    have AZ : Hid (Ab w z) := by rw [hu]; exact HX.out u0
    clear hu u0
    clear HU HU1 HX DD0 s0 s1 s2 s3
    clear E UU
    go_wp2
    go_ret
    exact ⟨rfl, AZ.out⟩
  · obtain ⟨UU, E, hF1, hF2⟩ := cls v1
    have HU := hid hF2
    have HU1 := hid hF1
    have HX : Hid (∀ u, Ab w (E u)) := fun u => Ab.trans A1.out (hF1 u)
    have s0 : ∀ u, (E u).cell? ⟨gs, 0, none⟩ = some (.slice pb lb cb) := fun u => cell_of_row _ _ 0 _ _ _ ((hF1 u).heap R1.out)
    have s1 : ∀ u, (E u).cell? ⟨gs, 1, none⟩ = some (.slice pw lw cw) := fun u => cell_of_row _ _ 1 _ _ _ ((hF1 u).heap R1.out)
    have s2 : ∀ u, (E u).cell? ⟨gs, 2, none⟩ = some (.slice pt lt ct) := fun u => cell_of_row _ _ 2 _ _ _ ((hF1 u).heap R1.out)
    have s3 : ∀ u, (E u).cell? ⟨gs, 3, none⟩ = some (.slice ps ls cs) := fun u => cell_of_row _ _ 3 _ _ _ ((hF1 u).heap R1.out)
    have DD0 := HU.out _ (Ab.refl v1).drew
    clear hF1 hF2
    refine region_cls E (by kernel_rfl) (by kernel_rfl) DD0 ?_
    repeat (go_big_quiet_step (first
      | (with_reducible rfl)
      | (go_at_call 17; exact calls_cls HU HU1 (CE.out _ (HX.out _)))))
    refine wpQuiet_nil ?_
    intro z hwz
    obtain ⟨u0, hu⟩ := hwz
    have AZ : Hid (Ab w z) := by rw [hu]; exact HX.out u0
    clear hu u0
    clear HU HU1 HX DD0 s0 s1 s2 s3
    clear E UU
    go_wp2
    go_ret
    exact ⟨rfl, AZ.out⟩
  · obtain ⟨UU, E, hF1, hF2⟩ := cls v1
    have HU := hid hF2
    have HU1 := hid hF1
    have HX : Hid (∀ u, Ab w (E u)) := fun u => Ab.trans A1.out (hF1 u)
    have s0 : ∀ u, (E u).cell? ⟨gs, 0, none⟩ = some (.slice pb lb cb) := fun u => cell_of_row _ _ 0 _ _ _ ((hF1 u).heap R1.out)
    have s1 : ∀ u, (E u).cell? ⟨gs, 1, none⟩ = some (.slice pw lw cw) := fun u => cell_of_row _ _ 1 _ _ _ ((hF1 u).heap R1.out)
    have s2 : ∀ u, (E u).cell? ⟨gs, 2, none⟩ = some (.slice pt lt ct) := fun u => cell_of_row _ _ 2 _ _ _ ((hF1 u).heap R1.out)
    have s3 : ∀ u, (E u).cell? ⟨gs, 3, none⟩ = some (.slice ps ls cs) := fun u => cell_of_row _ _ 3 _ _ _ ((hF1 u).heap R1.out)
    have DD0 := HU.out _ (Ab.refl v1).drew
    clear hF1 hF2
    refine region_cls E (by kernel_rfl) (by kernel_rfl) DD0 ?_
    repeat (go_big_quiet_step (first
      | (with_reducible rfl)
      | (go_at_call 17; exact calls_cls HU HU1 (CE.out _ (HX.out _)))))
    refine wpQuiet_nil ?_
    intro z hwz
    obtain ⟨u0, hu⟩ := hwz
    have AZ : Hid (Ab w z) := by rw [hu]; exact HX.out u0
    clear hu u0
    clear HU HU1 HX DD0 s0 s1 s2 s3
    clear E UU
    go_wp2
    go_ret
    exact ⟨rfl, AZ.out⟩
theorem row8 {w : World} {g : Nat} {a b c d e f i j x y z p q r s k : Value} {T : TypeId} (h : w.heap[g]? = some (.cells #[a, b, c, d, e, f, i, j] T)) :
    ((((((((w.setCell ⟨g, 0, none⟩ x).setCell ⟨g, 1, none⟩ y).setCell ⟨g, 2, none⟩ z).setCell ⟨g, 3, none⟩ p).setCell ⟨g, 4, none⟩ q).setCell ⟨g, 5, none⟩ r).setCell ⟨g, 6, none⟩ s).setCell ⟨g, 7, none⟩ k).heap[g]? = some (.cells #[x, y, z, p, q, r, s, k] T) := by
  have h1 := one_set (v := x) (k := 0) h
  have h2 := one_set (v := y) (k := 1) h1
  have h3 := one_set (v := z) (k := 2) h2
  have h4 := one_set (v := p) (k := 3) h3
  have h5 := one_set (v := q) (k := 4) h4
  have h6 := one_set (v := r) (k := 5) h5
  have h7 := one_set (v := s) (k := 6) h6
  have h8 := one_set (v := k) (k := 7) h7
  simpa using h8
set_option maxRecDepth 100000 in
set_option maxHeartbeats 8000000 in
theorem cellOf_at (gb bb bo wb wo M cb cw : Nat) (pt ps : Option Addr) (lt ct ls cs : Nat) (sky st : Int) (c : Nat) (b : Nat) (wt aC : Int) (w : World) (hc : ((c : Nat) : Int) < M)
    (FB : Hid (∀ v, Ab w v → v.cell? ⟨bb, bo + c, none⟩ = some (.float .f64 b)))
    (FW : Hid (∀ v, Ab w v → v.cell? ⟨wb, wo + c, none⟩ = some (.int .i64 wt)))
    (AC : Hid (∀ v, Ab w v → Calls Tryz.prog 44 #[.pointer (some ⟨gb, 0, none⟩), .int .i64 (c : Nat)] v fun e w' => e = .returned (.int .i64 aC) ∧ Below v.heap.size v w')) :
    Calls Tryz.prog 46 #[.pointer (some ⟨gb, 0, none⟩), .agg #[.slice (some ⟨bb, bo, none⟩) M cb, .slice (some ⟨wb, wo, none⟩) M cw, .slice pt lt ct, .slice ps ls cs, .int .i64 sky, .int .i64 st], .int .i64 (c : Nat)] w fun e w' => e = .returned (.agg #[.float .f64 b, .int .i64 wt, .int .i64 aC]) ∧ Below w.heap.size w w' := by
  have W_W0 : Hid (Ab w ((w.alloc (.cells #[.slice (some ⟨bb, bo, none⟩) M cb, .slice (some ⟨wb, wo, none⟩) M cw, .slice pt lt ct, .slice ps ls cs, .int .i64 sky, .int .i64 st] 29)).alloc (.cells #[.float .f64 0, .int .i64 0, .int .i64 0] 52))) := bl2 _ _ _
  have RS : Hid (((w.alloc (.cells #[.slice (some ⟨bb, bo, none⟩) M cb, .slice (some ⟨wb, wo, none⟩) M cw, .slice pt lt ct, .slice ps ls cs, .int .i64 sky, .int .i64 st] 29)).alloc (.cells #[.float .f64 0, .int .i64 0, .int .i64 0] 52)).heap[w.heap.size]? = some (.cells #[.slice (some ⟨bb, bo, none⟩) M cb, .slice (some ⟨wb, wo, none⟩) M cw, .slice pt lt ct, .slice ps ls cs, .int .i64 sky, .int .i64 st] 29)) := heap_alloc2_old _ _ _
  have RC : Hid (((w.alloc (.cells #[.slice (some ⟨bb, bo, none⟩) M cb, .slice (some ⟨wb, wo, none⟩) M cw, .slice pt lt ct, .slice ps ls cs, .int .i64 sky, .int .i64 st] 29)).alloc (.cells #[.float .f64 0, .int .i64 0, .int .i64 0] 52)).heap[w.heap.size + 1]? = some (.cells #[.float .f64 0, .int .i64 0, .int .i64 0] 52)) := heap_alloc2_new _ _ _
  have LG : Hid (w.heap.size ≤ w.heap.size + 1) := Nat.le_succ _
  go_enter Tryz.func46, Tryz.ntmps46
  go_upto_region 1 with fail
  generalize hW : World.alloc (World.alloc w _) _ = W0 at *
  obtain ⟨gs, hgs⟩ : ∃ g, w.heap.size = g := ⟨_, rfl⟩
  obtain ⟨gc, hgc⟩ : ∃ g, w.heap.size + 1 = g := ⟨_, rfl⟩
  rw [hgc] at RC LG ⊢
  rw [hgs] at RS ⊢
  clear hgs hgc hW
  obtain ⟨UU, E, hF1, hF2⟩ := cls W0
  have HU := hid hF2
  have HU1 := hid hF1
  have HX : Hid (∀ u, Ab w (E u)) := fun u => W_W0.out.trans (hF1 u)
  have x0 : ∀ u, (E u).cell? ⟨gs, 0, none⟩ = some (.slice (some ⟨bb, bo, none⟩) M cb) := fun u => cell_of_row _ _ 0 _ _ _ ((hF1 u).heap RS.out)
  have x1 : ∀ u, (E u).cell? ⟨gs, 1, none⟩ = some (.slice (some ⟨wb, wo, none⟩) M cw) := fun u => cell_of_row _ _ 1 _ _ _ ((hF1 u).heap RS.out)
  have xb : ∀ u, (E u).cell? ⟨bb, bo + c, none⟩ = some (.float .f64 b) := fun u => FB.out _ (HX.out u)
  have xw : ∀ u, (E u).cell? ⟨wb, wo + c, none⟩ = some (.int .i64 wt) := fun u => FW.out _ (HX.out u)
  have DD0 := HU.out _ (Ab.refl W0).drew
  clear hF1 hF2
  refine region_tail 14 E (by kernel_rfl) (by kernel_rfl) (by kernel_rfl) DD0 ?_
  simp only [List.take_succ_cons, List.take_zero, List.drop_succ_cons, List.drop_zero]
  repeat (go_big_quiet_step (first
    | (with_reducible rfl)
    | (go_at_call 44; exact calls_cls HU HU1 (AC.out _ (HX.out _)))))
  refine wpQuiet_nil ?_
  intro z hwz
  obtain ⟨u0, hu⟩ := hwz
  have AZ : Hid (Ab W0 z) := by rw [hu]; exact HU1.out u0
  clear hu u0
  clear HU HU1 DD0 HX x0 x1 xb xw
  clear E UU
  have W_z : Hid (Ab w z) := W_W0.out.trans AZ.out
  have RZ := hid (Ab.heap AZ.out RC.out)
  obtain ⟨⟨o0, o1, o2⟩, o3, o4, o5⟩ := rowfacts RZ.out
  go_wp2
  refine bodyPost_ret ?_ rfl ⟨rfl, ?_⟩
  · exact results_cell_row Tryz.results46 _ _ gc _ _ (0, 0) _ rfl (row3 RZ.out) Tryz.underlying52 rfl (by kernel_rfl)
  · exact ((W_z.out.setk LG.out _).setk LG.out _).setk LG.out _
end Fc
end Go.Proofs.YtgalgnjgpmcngaaGreatDoor

namespace Go.Proofs.YtgalgnjgpmcngaaGreatDoor
open Go.RowKit Tf Cu Go.Deep Rl
attribute [local go_sem] run_bits run_from raw_feq raw_fne raw_flt raw_fgt run_neg run_store_float
namespace Fc
set_option maxRecDepth 100000 in
set_option maxHeartbeats 8000000 in
theorem edgeOf_no (gp : Value) (pb pw pt ps : Option Addr) (lb cb lw cw lt ct ls cs : Nat) (sky st : Int) (e : Int) (w : World)
    (EG : Hid (∀ v, Ab w v → Calls Tryz.prog 45 #[gp, .int .i64 e] v fun x w' => x = .returned (.tuple #[.agg #[.int .i64 0, .int .i64 0, .int .i64 0, .int .i64 0], .bool false]) ∧ Below v.heap.size v w')) :
    Calls Tryz.prog 18 #[gp, .agg #[.slice pb lb cb, .slice pw lw cw, .slice pt lt ct, .slice ps ls cs, .int .i64 sky, .int .i64 st], .int .i64 e] w fun x w' => x = .returned (.tuple #[.agg #[.float .f64 0, .int .i64 0, .int .i64 0, .float .f64 0, .int .i64 0, .int .i64 0, .float .f64 0, .float .f64 0], .bool false]) ∧ Below w.heap.size w w' := by
  have W_W0 : Hid (Ab w ((w.alloc (.cells #[.slice pb lb cb, .slice pw lw cw, .slice pt lt ct, .slice ps ls cs, .int .i64 sky, .int .i64 st] 29)).alloc (.cells #[.float .f64 0, .int .i64 0, .int .i64 0, .float .f64 0, .int .i64 0, .int .i64 0, .float .f64 0, .float .f64 0] 54))) := bl2 _ _ _
  have RS : Hid (((w.alloc (.cells #[.slice pb lb cb, .slice pw lw cw, .slice pt lt ct, .slice ps ls cs, .int .i64 sky, .int .i64 st] 29)).alloc (.cells #[.float .f64 0, .int .i64 0, .int .i64 0, .float .f64 0, .int .i64 0, .int .i64 0, .float .f64 0, .float .f64 0] 54)).heap[w.heap.size]? = some (.cells #[.slice pb lb cb, .slice pw lw cw, .slice pt lt ct, .slice ps ls cs, .int .i64 sky, .int .i64 st] 29)) := heap_alloc2_old _ _ _
  have RC : Hid (((w.alloc (.cells #[.slice pb lb cb, .slice pw lw cw, .slice pt lt ct, .slice ps ls cs, .int .i64 sky, .int .i64 st] 29)).alloc (.cells #[.float .f64 0, .int .i64 0, .int .i64 0, .float .f64 0, .int .i64 0, .int .i64 0, .float .f64 0, .float .f64 0] 54)).heap[w.heap.size + 1]? = some (.cells #[.float .f64 0, .int .i64 0, .int .i64 0, .float .f64 0, .int .i64 0, .int .i64 0, .float .f64 0, .float .f64 0] 54)) := heap_alloc2_new _ _ _
  have LG : Hid (w.heap.size ≤ w.heap.size + 1) := Nat.le_succ _
  go_enter Tryz.func18, Tryz.ntmps18
  go_upto_region 1 with fail
  generalize hW : World.alloc (World.alloc w _) _ = W0 at *
  obtain ⟨gs, hgs⟩ : ∃ g, w.heap.size = g := ⟨_, rfl⟩
  obtain ⟨gc, hgc⟩ : ∃ g, w.heap.size + 1 = g := ⟨_, rfl⟩
  rw [hgc] at RC LG ⊢
  rw [hgs] at RS ⊢
  clear hgs hgc hW
  go_wp2_with fail
  refine (EG.out _ W_W0.out).mono ?_
  rintro e9 v1 ⟨rfl, k1⟩
  have W_v1 : Hid (Ab w v1) := W_W0.out.call k1
  have RS1 := hid (Ab.heap k1 RS.out)
  have RC1 := hid (Ab.heap k1 RC.out)
  clear k1 W_W0 RS RC
  go_upto_region 2 with fail
  have RE := hid (heap_alloc_new v1 (.cells #[.int .i64 0, .int .i64 0, .int .i64 0, .int .i64 0] 82))
  have W_V : Hid (Ab w (v1.alloc (.cells #[.int .i64 0, .int .i64 0, .int .i64 0, .int .i64 0] 82))) := W_v1.out.trans (bl1 _ _)
  have RS2 : Hid ((v1.alloc (.cells #[.int .i64 0, .int .i64 0, .int .i64 0, .int .i64 0] 82)).heap[gs]? = some (.cells #[.slice pb lb cb, .slice pw lw cw, .slice pt lt ct, .slice ps ls cs, .int .i64 sky, .int .i64 st] 29)) := Ab.heap (bl1 _ _) RS1.out
  have RC2 : Hid ((v1.alloc (.cells #[.int .i64 0, .int .i64 0, .int .i64 0, .int .i64 0] 82)).heap[gc]? = some (.cells #[.float .f64 0, .int .i64 0, .int .i64 0, .float .f64 0, .int .i64 0, .int .i64 0, .float .f64 0, .float .f64 0] 54)) := Ab.heap (bl1 _ _) RC1.out
  generalize hV : v1.alloc (.cells #[.int .i64 0, .int .i64 0, .int .i64 0, .int .i64 0] 82) = V at *
  obtain ⟨ge, hge⟩ : ∃ g, v1.heap.size = g := ⟨_, rfl⟩
  rw [hge] at RE ⊢
  clear hV hge W_v1 RS1 RC1
  have o0 := cell_of_row _ _ 0 _ _ _ RC2.out
  have q0 := free_row RC2.out 0
  have o1 := cell_of_row _ _ 1 _ _ _ RC2.out
  have q1 := free_row RC2.out 1
  have o2 := cell_of_row _ _ 2 _ _ _ RC2.out
  have q2 := free_row RC2.out 2
  have o3 := cell_of_row _ _ 3 _ _ _ RC2.out
  have q3 := free_row RC2.out 3
  have o4 := cell_of_row _ _ 4 _ _ _ RC2.out
  have q4 := free_row RC2.out 4
  have o5 := cell_of_row _ _ 5 _ _ _ RC2.out
  have q5 := free_row RC2.out 5
  have o6 := cell_of_row _ _ 6 _ _ _ RC2.out
  have q6 := free_row RC2.out 6
  have o7 := cell_of_row _ _ 7 _ _ _ RC2.out
  have q7 := free_row RC2.out 7
  go_wp2
  refine bodyPost_ret ?_ rfl ⟨rfl, ?_⟩
  · exact res_two Tryz.results18 _ _ gc _ _ (0, 0) _ _ rfl rfl (row8 RC2.out) Tryz.underlying54 rfl (by kernel_rfl)
  · exact ((((((((W_V.out.setk LG.out _).setk LG.out _).setk LG.out _).setk LG.out _).setk LG.out _).setk LG.out _).setk LG.out _).setk LG.out _)
set_option maxRecDepth 100000 in
set_option maxHeartbeats 8000000 in
theorem edgeOf_bad (gb : Nat) (pb pw pt ps : Option Addr) (lb cb lw cw lt ct ls cs : Nat) (sky st : Int) (e : Int) (lc s1 rc s2 : Nat) (w : World)
    (EG : Hid (∀ v, Ab w v → Calls Tryz.prog 45 #[.pointer (some ⟨gb, 0, none⟩), .int .i64 e] v fun x w' => x = .returned (.tuple #[.agg #[.int .i64 (lc : Nat), .int .i64 (s1 : Nat), .int .i64 (rc : Nat), .int .i64 (s2 : Nat)], .bool true]) ∧ Below v.heap.size v w'))
    (CF : Hid (∀ v, Ab w v → Calls Tryz.prog 16 #[.pointer (some ⟨gb, 0, none⟩), .agg #[.slice pb lb cb, .slice pw lw cw, .slice pt lt ct, .slice ps ls cs, .int .i64 sky, .int .i64 st]] v fun x w' => x = .returned (.bool false) ∧ Below v.heap.size v w')) :
    Calls Tryz.prog 18 #[.pointer (some ⟨gb, 0, none⟩), .agg #[.slice pb lb cb, .slice pw lw cw, .slice pt lt ct, .slice ps ls cs, .int .i64 sky, .int .i64 st], .int .i64 e] w fun x w' => x = .returned (.tuple #[.agg #[.float .f64 0, .int .i64 0, .int .i64 0, .float .f64 0, .int .i64 0, .int .i64 0, .float .f64 0, .float .f64 0], .bool false]) ∧ Below w.heap.size w w' := by
  have W_W0 : Hid (Ab w ((w.alloc (.cells #[.slice pb lb cb, .slice pw lw cw, .slice pt lt ct, .slice ps ls cs, .int .i64 sky, .int .i64 st] 29)).alloc (.cells #[.float .f64 0, .int .i64 0, .int .i64 0, .float .f64 0, .int .i64 0, .int .i64 0, .float .f64 0, .float .f64 0] 54))) := bl2 _ _ _
  have RS : Hid (((w.alloc (.cells #[.slice pb lb cb, .slice pw lw cw, .slice pt lt ct, .slice ps ls cs, .int .i64 sky, .int .i64 st] 29)).alloc (.cells #[.float .f64 0, .int .i64 0, .int .i64 0, .float .f64 0, .int .i64 0, .int .i64 0, .float .f64 0, .float .f64 0] 54)).heap[w.heap.size]? = some (.cells #[.slice pb lb cb, .slice pw lw cw, .slice pt lt ct, .slice ps ls cs, .int .i64 sky, .int .i64 st] 29)) := heap_alloc2_old _ _ _
  have RC : Hid (((w.alloc (.cells #[.slice pb lb cb, .slice pw lw cw, .slice pt lt ct, .slice ps ls cs, .int .i64 sky, .int .i64 st] 29)).alloc (.cells #[.float .f64 0, .int .i64 0, .int .i64 0, .float .f64 0, .int .i64 0, .int .i64 0, .float .f64 0, .float .f64 0] 54)).heap[w.heap.size + 1]? = some (.cells #[.float .f64 0, .int .i64 0, .int .i64 0, .float .f64 0, .int .i64 0, .int .i64 0, .float .f64 0, .float .f64 0] 54)) := heap_alloc2_new _ _ _
  have LG : Hid (w.heap.size ≤ w.heap.size + 1) := Nat.le_succ _
  go_enter Tryz.func18, Tryz.ntmps18
  go_upto_region 1 with fail
  generalize hW : World.alloc (World.alloc w _) _ = W0 at *
  obtain ⟨gs, hgs⟩ : ∃ g, w.heap.size = g := ⟨_, rfl⟩
  obtain ⟨gc, hgc⟩ : ∃ g, w.heap.size + 1 = g := ⟨_, rfl⟩
  rw [hgc] at RC LG ⊢
  rw [hgs] at RS ⊢
  clear hgs hgc hW
  go_wp2_with fail
  refine (EG.out _ W_W0.out).mono ?_
  rintro e9 v1 ⟨rfl, k1⟩
  have W_v1 : Hid (Ab w v1) := W_W0.out.call k1
  have RS1 := hid (Ab.heap k1 RS.out)
  have RC1 := hid (Ab.heap k1 RC.out)
  clear k1 W_W0 RS RC
  go_upto_region 2 with fail
  have RE := hid (heap_alloc_new v1 (.cells #[.int .i64 (lc : Nat), .int .i64 (s1 : Nat), .int .i64 (rc : Nat), .int .i64 (s2 : Nat)] 82))
  have W_V : Hid (Ab w (v1.alloc (.cells #[.int .i64 (lc : Nat), .int .i64 (s1 : Nat), .int .i64 (rc : Nat), .int .i64 (s2 : Nat)] 82))) := W_v1.out.trans (bl1 _ _)
  have RS2 : Hid ((v1.alloc (.cells #[.int .i64 (lc : Nat), .int .i64 (s1 : Nat), .int .i64 (rc : Nat), .int .i64 (s2 : Nat)] 82)).heap[gs]? = some (.cells #[.slice pb lb cb, .slice pw lw cw, .slice pt lt ct, .slice ps ls cs, .int .i64 sky, .int .i64 st] 29)) := Ab.heap (bl1 _ _) RS1.out
  have RC2 : Hid ((v1.alloc (.cells #[.int .i64 (lc : Nat), .int .i64 (s1 : Nat), .int .i64 (rc : Nat), .int .i64 (s2 : Nat)] 82)).heap[gc]? = some (.cells #[.float .f64 0, .int .i64 0, .int .i64 0, .float .f64 0, .int .i64 0, .int .i64 0, .float .f64 0, .float .f64 0] 54)) := Ab.heap (bl1 _ _) RC1.out
  generalize hV : v1.alloc (.cells #[.int .i64 (lc : Nat), .int .i64 (s1 : Nat), .int .i64 (rc : Nat), .int .i64 (s2 : Nat)] 82) = V at *
  obtain ⟨ge, hge⟩ : ∃ g, v1.heap.size = g := ⟨_, rfl⟩
  rw [hge] at RE ⊢
  clear hV hge W_v1 RS1 RC1
  have y0 := cell_of_row _ _ 0 _ _ _ RS2.out
  have y1 := cell_of_row _ _ 1 _ _ _ RS2.out
  have y2 := cell_of_row _ _ 2 _ _ _ RS2.out
  have y3 := cell_of_row _ _ 3 _ _ _ RS2.out
  have y4 := cell_of_row _ _ 4 _ _ _ RS2.out
  have y5 := cell_of_row _ _ 5 _ _ _ RS2.out
  go_wp2_with fail
  refine (CF.out _ W_V.out).mono ?_
  rintro e9 v2 ⟨rfl, k1⟩
  have W_v2 : Hid (Ab w v2) := W_V.out.call k1
  have RC3 := hid (Ab.heap k1 RC2.out)
  clear k1 W_V RC2 y0 y1 y2 y3 y4 y5
  have o0 := cell_of_row _ _ 0 _ _ _ RC3.out
  have q0 := free_row RC3.out 0
  have o1 := cell_of_row _ _ 1 _ _ _ RC3.out
  have q1 := free_row RC3.out 1
  have o2 := cell_of_row _ _ 2 _ _ _ RC3.out
  have q2 := free_row RC3.out 2
  have o3 := cell_of_row _ _ 3 _ _ _ RC3.out
  have q3 := free_row RC3.out 3
  have o4 := cell_of_row _ _ 4 _ _ _ RC3.out
  have q4 := free_row RC3.out 4
  have o5 := cell_of_row _ _ 5 _ _ _ RC3.out
  have q5 := free_row RC3.out 5
  have o6 := cell_of_row _ _ 6 _ _ _ RC3.out
  have q6 := free_row RC3.out 6
  have o7 := cell_of_row _ _ 7 _ _ _ RC3.out
  have q7 := free_row RC3.out 7
  go_wp2
  refine bodyPost_ret ?_ rfl ⟨rfl, ?_⟩
  · exact res_two Tryz.results18 _ _ gc _ _ (0, 0) _ _ rfl rfl (row8 RC3.out) Tryz.underlying54 rfl (by kernel_rfl)
  · exact ((((((((W_v2.out.setk LG.out _).setk LG.out _).setk LG.out _).setk LG.out _).setk LG.out _).setk LG.out _).setk LG.out _).setk LG.out _)
set_option maxRecDepth 100000 in
set_option maxHeartbeats 8000000 in
theorem edgeOf_go (gb bb bo wb wo sb so M N cb cw cs : Nat) (pt : Option Addr) (lt ct : Nat) (sky st : Int) (e lc s1 rc s2 : Nat) (bl br gap vu : Nat) (wl al wr ar : Int) (w : World) (he : ((e : Nat) : Int) < N)
    (EG : Hid (∀ v, Ab w v → Calls Tryz.prog 45 #[.pointer (some ⟨gb, 0, none⟩), .int .i64 (e : Nat)] v fun x w' => x = .returned (.tuple #[.agg #[.int .i64 (lc : Nat), .int .i64 (s1 : Nat), .int .i64 (rc : Nat), .int .i64 (s2 : Nat)], .bool true]) ∧ Below v.heap.size v w'))
    (CF : Hid (∀ v, Ab w v → Calls Tryz.prog 16 #[.pointer (some ⟨gb, 0, none⟩), .agg #[.slice (some ⟨bb, bo, none⟩) M cb, .slice (some ⟨wb, wo, none⟩) M cw, .slice pt lt ct, .slice (some ⟨sb, so, none⟩) N cs, .int .i64 sky, .int .i64 st]] v fun x w' => x = .returned (.bool true) ∧ Below v.heap.size v w'))
    (CL : Hid (∀ v, Ab w v → Calls Tryz.prog 46 #[.pointer (some ⟨gb, 0, none⟩), .agg #[.slice (some ⟨bb, bo, none⟩) M cb, .slice (some ⟨wb, wo, none⟩) M cw, .slice pt lt ct, .slice (some ⟨sb, so, none⟩) N cs, .int .i64 sky, .int .i64 st], .int .i64 (lc : Nat)] v fun x w' => x = .returned (.agg #[.float .f64 bl, .int .i64 wl, .int .i64 al]) ∧ Below v.heap.size v w'))
    (CR : Hid (∀ v, Ab w v → Calls Tryz.prog 46 #[.pointer (some ⟨gb, 0, none⟩), .agg #[.slice (some ⟨bb, bo, none⟩) M cb, .slice (some ⟨wb, wo, none⟩) M cw, .slice pt lt ct, .slice (some ⟨sb, so, none⟩) N cs, .int .i64 sky, .int .i64 st], .int .i64 (rc : Nat)] v fun x w' => x = .returned (.agg #[.float .f64 br, .int .i64 wr, .int .i64 ar]) ∧ Below v.heap.size v w'))
    (CG : Hid (∀ v, Ab w v → Calls Tryz.prog 47 #[.pointer (some ⟨gb, 0, none⟩), .int .i64 (e : Nat)] v fun x w' => x = .returned (.float .f64 gap) ∧ Below v.heap.size v w'))
    (FSp : Hid (∀ v, Ab w v → v.cell? ⟨sb, so + e, none⟩ = some (.float .f64 vu))) :
    Calls Tryz.prog 18 #[.pointer (some ⟨gb, 0, none⟩), .agg #[.slice (some ⟨bb, bo, none⟩) M cb, .slice (some ⟨wb, wo, none⟩) M cw, .slice pt lt ct, .slice (some ⟨sb, so, none⟩) N cs, .int .i64 sky, .int .i64 st], .int .i64 (e : Nat)] w fun x w' => x = .returned (.tuple #[.agg #[.float .f64 bl, .int .i64 wl, .int .i64 al, .float .f64 br, .int .i64 wr, .int .i64 ar, .float .f64 gap, .float .f64 vu], .bool true]) ∧ Below w.heap.size w w' := by
  have W_W0 : Hid (Ab w ((w.alloc (.cells #[.slice (some ⟨bb, bo, none⟩) M cb, .slice (some ⟨wb, wo, none⟩) M cw, .slice pt lt ct, .slice (some ⟨sb, so, none⟩) N cs, .int .i64 sky, .int .i64 st] 29)).alloc (.cells #[.float .f64 0, .int .i64 0, .int .i64 0, .float .f64 0, .int .i64 0, .int .i64 0, .float .f64 0, .float .f64 0] 54))) := bl2 _ _ _
  have RS : Hid (((w.alloc (.cells #[.slice (some ⟨bb, bo, none⟩) M cb, .slice (some ⟨wb, wo, none⟩) M cw, .slice pt lt ct, .slice (some ⟨sb, so, none⟩) N cs, .int .i64 sky, .int .i64 st] 29)).alloc (.cells #[.float .f64 0, .int .i64 0, .int .i64 0, .float .f64 0, .int .i64 0, .int .i64 0, .float .f64 0, .float .f64 0] 54)).heap[w.heap.size]? = some (.cells #[.slice (some ⟨bb, bo, none⟩) M cb, .slice (some ⟨wb, wo, none⟩) M cw, .slice pt lt ct, .slice (some ⟨sb, so, none⟩) N cs, .int .i64 sky, .int .i64 st] 29)) := heap_alloc2_old _ _ _
  have RC : Hid (((w.alloc (.cells #[.slice (some ⟨bb, bo, none⟩) M cb, .slice (some ⟨wb, wo, none⟩) M cw, .slice pt lt ct, .slice (some ⟨sb, so, none⟩) N cs, .int .i64 sky, .int .i64 st] 29)).alloc (.cells #[.float .f64 0, .int .i64 0, .int .i64 0, .float .f64 0, .int .i64 0, .int .i64 0, .float .f64 0, .float .f64 0] 54)).heap[w.heap.size + 1]? = some (.cells #[.float .f64 0, .int .i64 0, .int .i64 0, .float .f64 0, .int .i64 0, .int .i64 0, .float .f64 0, .float .f64 0] 54)) := heap_alloc2_new _ _ _
  have LG : Hid (w.heap.size ≤ w.heap.size + 1) := Nat.le_succ _
  go_enter Tryz.func18, Tryz.ntmps18
  go_upto_region 1 with fail
  generalize hW : World.alloc (World.alloc w _) _ = W0 at *
  obtain ⟨gs, hgs⟩ : ∃ g, w.heap.size = g := ⟨_, rfl⟩
  obtain ⟨gc, hgc⟩ : ∃ g, w.heap.size + 1 = g := ⟨_, rfl⟩
  rw [hgc] at RC LG ⊢
  rw [hgs] at RS ⊢
  clear hgs hgc hW
  go_wp2_with fail
  refine (EG.out _ W_W0.out).mono ?_
  rintro e9 v1 ⟨rfl, k1⟩
  have W_v1 : Hid (Ab w v1) := W_W0.out.call k1
  have RS1 := hid (Ab.heap k1 RS.out)
  have RC1 := hid (Ab.heap k1 RC.out)
  clear k1 W_W0 RS RC
  go_upto_region 2 with fail
  have RE := hid (heap_alloc_new v1 (.cells #[.int .i64 (lc : Nat), .int .i64 (s1 : Nat), .int .i64 (rc : Nat), .int .i64 (s2 : Nat)] 82))
  have W_V : Hid (Ab w (v1.alloc (.cells #[.int .i64 (lc : Nat), .int .i64 (s1 : Nat), .int .i64 (rc : Nat), .int .i64 (s2 : Nat)] 82))) := W_v1.out.trans (bl1 _ _)
  have RS2 : Hid ((v1.alloc (.cells #[.int .i64 (lc : Nat), .int .i64 (s1 : Nat), .int .i64 (rc : Nat), .int .i64 (s2 : Nat)] 82)).heap[gs]? = some (.cells #[.slice (some ⟨bb, bo, none⟩) M cb, .slice (some ⟨wb, wo, none⟩) M cw, .slice pt lt ct, .slice (some ⟨sb, so, none⟩) N cs, .int .i64 sky, .int .i64 st] 29)) := Ab.heap (bl1 _ _) RS1.out
  have RC2 : Hid ((v1.alloc (.cells #[.int .i64 (lc : Nat), .int .i64 (s1 : Nat), .int .i64 (rc : Nat), .int .i64 (s2 : Nat)] 82)).heap[gc]? = some (.cells #[.float .f64 0, .int .i64 0, .int .i64 0, .float .f64 0, .int .i64 0, .int .i64 0, .float .f64 0, .float .f64 0] 54)) := Ab.heap (bl1 _ _) RC1.out
  generalize hV : v1.alloc (.cells #[.int .i64 (lc : Nat), .int .i64 (s1 : Nat), .int .i64 (rc : Nat), .int .i64 (s2 : Nat)] 82) = V at *
  obtain ⟨ge, hge⟩ : ∃ g, v1.heap.size = g := ⟨_, rfl⟩
  rw [hge] at RE ⊢
  clear hV hge W_v1 RS1 RC1
  have y0 := cell_of_row _ _ 0 _ _ _ RS2.out
  have y1 := cell_of_row _ _ 1 _ _ _ RS2.out
  have y2 := cell_of_row _ _ 2 _ _ _ RS2.out
  have y3 := cell_of_row _ _ 3 _ _ _ RS2.out
  have y4 := cell_of_row _ _ 4 _ _ _ RS2.out
  have y5 := cell_of_row _ _ 5 _ _ _ RS2.out
  go_wp2_with fail
  refine (CF.out _ W_V.out).mono ?_
  rintro e9 v2 ⟨rfl, k1⟩
  have W_v2 : Hid (Ab w v2) := W_V.out.call k1
  have RC3 := hid (Ab.heap k1 RC2.out)
  have RS3 := hid (Ab.heap k1 RS2.out)
  have RE3 := hid (Ab.heap k1 RE.out)
  clear k1 W_V RC2 RS2 RE y0 y1 y2 y3 y4 y5
  go_upto_region 4 with fail
  obtain ⟨UU, E, hF1, hF2⟩ := cls v2
  have HU := hid hF2
  have HU1 := hid hF1
  have HX : Hid (∀ u, Ab w (E u)) := fun u => W_v2.out.trans (hF1 u)
  have x0 : ∀ u, (E u).cell? ⟨gs, 0, none⟩ = some (.slice (some ⟨bb, bo, none⟩) M cb) := fun u => cell_of_row _ _ 0 _ _ _ ((hF1 u).heap RS3.out)
  have x1 : ∀ u, (E u).cell? ⟨gs, 1, none⟩ = some (.slice (some ⟨wb, wo, none⟩) M cw) := fun u => cell_of_row _ _ 1 _ _ _ ((hF1 u).heap RS3.out)
  have x2 : ∀ u, (E u).cell? ⟨gs, 2, none⟩ = some (.slice pt lt ct) := fun u => cell_of_row _ _ 2 _ _ _ ((hF1 u).heap RS3.out)
  have x3 : ∀ u, (E u).cell? ⟨gs, 3, none⟩ = some (.slice (some ⟨sb, so, none⟩) N cs) := fun u => cell_of_row _ _ 3 _ _ _ ((hF1 u).heap RS3.out)
  have x4 : ∀ u, (E u).cell? ⟨gs, 4, none⟩ = some (.int .i64 sky) := fun u => cell_of_row _ _ 4 _ _ _ ((hF1 u).heap RS3.out)
  have x5 : ∀ u, (E u).cell? ⟨gs, 5, none⟩ = some (.int .i64 st) := fun u => cell_of_row _ _ 5 _ _ _ ((hF1 u).heap RS3.out)
  have ye : ∀ u, (E u).cell? ⟨ge, 0, none⟩ = some (.int .i64 (lc : Nat)) := fun u => cell_of_row _ _ 0 _ _ _ ((hF1 u).heap RE3.out)
  have yf : ∀ u, (E u).cell? ⟨ge, 2, none⟩ = some (.int .i64 (rc : Nat)) := fun u => cell_of_row _ _ 2 _ _ _ ((hF1 u).heap RE3.out)
  have ys : ∀ u, (E u).cell? ⟨sb, so + e, none⟩ = some (.float .f64 vu) := fun u => FSp.out _ (HX.out u)
  have DD0 := HU.out _ (Ab.refl v2).drew
  clear hF1 hF2
  refine region_tail 19 E (by kernel_rfl) (by kernel_rfl) (by kernel_rfl) DD0 ?_
  simp only [List.take_succ_cons, List.take_zero, List.drop_succ_cons, List.drop_zero]
  repeat (go_big_quiet_step (first
    | (with_reducible rfl)
    | (go_at_call_of 46 lc; exact calls_cls HU HU1 (CL.out _ (HX.out _)))
    | (go_at_call_of 46 rc; exact calls_cls HU HU1 (CR.out _ (HX.out _)))
    | (go_at_call 47; exact calls_cls HU HU1 (CG.out _ (HX.out _)))))
  refine wpQuiet_nil ?_
  intro z hwz
  obtain ⟨u0, hu⟩ := hwz
  have AZ : Hid (Ab v2 z) := by rw [hu]; exact HU1.out u0
  clear hu u0
  clear HU HU1 DD0 HX x0 x1 x2 x3 x4 x5 ye yf ys
  clear E UU
  have W_z : Hid (Ab w z) := W_v2.out.trans AZ.out
  have RZ := hid (Ab.heap AZ.out RC3.out)
  have o0 := cell_of_row _ _ 0 _ _ _ RZ.out
  have q0 := free_row RZ.out 0
  have o1 := cell_of_row _ _ 1 _ _ _ RZ.out
  have q1 := free_row RZ.out 1
  have o2 := cell_of_row _ _ 2 _ _ _ RZ.out
  have q2 := free_row RZ.out 2
  have o3 := cell_of_row _ _ 3 _ _ _ RZ.out
  have q3 := free_row RZ.out 3
  have o4 := cell_of_row _ _ 4 _ _ _ RZ.out
  have q4 := free_row RZ.out 4
  have o5 := cell_of_row _ _ 5 _ _ _ RZ.out
  have q5 := free_row RZ.out 5
  have o6 := cell_of_row _ _ 6 _ _ _ RZ.out
  have q6 := free_row RZ.out 6
  have o7 := cell_of_row _ _ 7 _ _ _ RZ.out
  have q7 := free_row RZ.out 7
  go_wp2
  refine bodyPost_ret ?_ rfl ⟨rfl, ?_⟩
  · exact res_two Tryz.results18 _ _ gc _ _ (0, 0) _ _ rfl rfl (row8 RZ.out) Tryz.underlying54 rfl (by kernel_rfl)
  · exact ((((((((W_z.out.setk LG.out _).setk LG.out _).setk LG.out _).setk LG.out _).setk LG.out _).setk LG.out _).setk LG.out _).setk LG.out _)
end Fc
end Go.Proofs.YtgalgnjgpmcngaaGreatDoor

namespace Go.Proofs.YtgalgnjgpmcngaaGreatDoor
open Go.RowKit Tf Cu Go.Deep Rl
attribute [local go_sem] run_bits run_from raw_feq raw_fne raw_flt raw_fgt run_neg run_store_float
namespace Fc
set_option maxRecDepth 100000 in
set_option maxHeartbeats 8000000 in
theorem open_no (gp : Value) (pb pw pt ps : Option Addr) (lb cb lw cw lt ct ls cs : Nat) (sky st : Int) (e : Int) (w : World)
    (EO : Hid (∀ v, Ab w v → Calls Tryz.prog 18 #[gp, .agg #[.slice pb lb cb, .slice pw lw cw, .slice pt lt ct, .slice ps ls cs, .int .i64 sky, .int .i64 st], .int .i64 e] v fun x w' => x = .returned (.tuple #[.agg #[.float .f64 0, .int .i64 0, .int .i64 0, .float .f64 0, .int .i64 0, .int .i64 0, .float .f64 0, .float .f64 0], .bool false]) ∧ Below v.heap.size v w')) :
    Calls Tryz.prog 6 #[gp, .agg #[.slice pb lb cb, .slice pw lw cw, .slice pt lt ct, .slice ps ls cs, .int .i64 sky, .int .i64 st], .int .i64 e] w fun x w' => x = .returned (.bool false) ∧ Below w.heap.size w w' := by
  have W_W0 : Hid (Ab w (w.alloc (.cells #[.slice pb lb cb, .slice pw lw cw, .slice pt lt ct, .slice ps ls cs, .int .i64 sky, .int .i64 st] 29))) := bl1 _ _
  have RS : Hid ((w.alloc (.cells #[.slice pb lb cb, .slice pw lw cw, .slice pt lt ct, .slice ps ls cs, .int .i64 sky, .int .i64 st] 29)).heap[w.heap.size]? = some (.cells #[.slice pb lb cb, .slice pw lw cw, .slice pt lt ct, .slice ps ls cs, .int .i64 sky, .int .i64 st] 29)) := heap_alloc_new _ _
  go_enter Tryz.func6, Tryz.ntmps6
  go_upto_region 1 with fail
  generalize hW : World.alloc w _ = W0 at *
  obtain ⟨gs, hgs⟩ : ∃ g, w.heap.size = g := ⟨_, rfl⟩
  rw [hgs] at RS ⊢
  clear hgs hW
  have y0 := cell_of_row _ _ 0 _ _ _ RS.out
  have y1 := cell_of_row _ _ 1 _ _ _ RS.out
  have y2 := cell_of_row _ _ 2 _ _ _ RS.out
  have y3 := cell_of_row _ _ 3 _ _ _ RS.out
  have y4 := cell_of_row _ _ 4 _ _ _ RS.out
  have y5 := cell_of_row _ _ 5 _ _ _ RS.out
  go_wp2_with fail
  refine (EO.out _ W_W0.out).mono ?_
  rintro e9 v1 ⟨rfl, k1⟩
  have W_v1 : Hid (Ab w v1) := W_W0.out.call k1
  clear k1 W_W0 RS y0 y1 y2 y3 y4 y5
  have W_V : Hid (Ab w (v1.alloc (.cells #[.float .f64 0, .int .i64 0, .int .i64 0, .float .f64 0, .int .i64 0, .int .i64 0, .float .f64 0, .float .f64 0] 54))) := W_v1.out.trans (bl1 _ _)
  go_wp2
  go_ret
  exact ⟨rfl, W_V.out⟩
set_option maxRecDepth 100000 in
set_option maxHeartbeats 8000000 in
theorem open_go (gp : Value) (pb pw pt ps : Option Addr) (lb cb lw cw lt ct ls cs : Nat) (sky st : Int) (e : Int) (bl br gap vu : Nat) (wl al wr ar : Int) (q : Bool) (w : World)
    (EO : Hid (∀ v, Ab w v → Calls Tryz.prog 18 #[gp, .agg #[.slice pb lb cb, .slice pw lw cw, .slice pt lt ct, .slice ps ls cs, .int .i64 sky, .int .i64 st], .int .i64 e] v fun x w' => x = .returned (.tuple #[.agg #[.float .f64 bl, .int .i64 wl, .int .i64 al, .float .f64 br, .int .i64 wr, .int .i64 ar, .float .f64 gap, .float .f64 vu], .bool true]) ∧ Below v.heap.size v w'))
    (OP : Hid (∀ v, Calls Tryz.prog 19 #[.agg #[.float .f64 bl, .int .i64 wl, .int .i64 al, .float .f64 br, .int .i64 wr, .int .i64 ar, .float .f64 gap, .float .f64 vu]] v fun x w' => x = .returned (.bool q) ∧ Below v.heap.size v w')) :
    Calls Tryz.prog 6 #[gp, .agg #[.slice pb lb cb, .slice pw lw cw, .slice pt lt ct, .slice ps ls cs, .int .i64 sky, .int .i64 st], .int .i64 e] w fun x w' => x = .returned (.bool q) ∧ Below w.heap.size w w' := by
  have W_W0 : Hid (Ab w (w.alloc (.cells #[.slice pb lb cb, .slice pw lw cw, .slice pt lt ct, .slice ps ls cs, .int .i64 sky, .int .i64 st] 29))) := bl1 _ _
  have RS : Hid ((w.alloc (.cells #[.slice pb lb cb, .slice pw lw cw, .slice pt lt ct, .slice ps ls cs, .int .i64 sky, .int .i64 st] 29)).heap[w.heap.size]? = some (.cells #[.slice pb lb cb, .slice pw lw cw, .slice pt lt ct, .slice ps ls cs, .int .i64 sky, .int .i64 st] 29)) := heap_alloc_new _ _
  go_enter Tryz.func6, Tryz.ntmps6
  go_upto_region 1 with fail
  generalize hW : World.alloc w _ = W0 at *
  obtain ⟨gs, hgs⟩ : ∃ g, w.heap.size = g := ⟨_, rfl⟩
  rw [hgs] at RS ⊢
  clear hgs hW
  have y0 := cell_of_row _ _ 0 _ _ _ RS.out
  have y1 := cell_of_row _ _ 1 _ _ _ RS.out
  have y2 := cell_of_row _ _ 2 _ _ _ RS.out
  have y3 := cell_of_row _ _ 3 _ _ _ RS.out
  have y4 := cell_of_row _ _ 4 _ _ _ RS.out
  have y5 := cell_of_row _ _ 5 _ _ _ RS.out
  go_wp2_with fail
  refine (EO.out _ W_W0.out).mono ?_
  rintro e9 v1 ⟨rfl, k1⟩
  have W_v1 : Hid (Ab w v1) := W_W0.out.call k1
  clear k1 W_W0 RS y0 y1 y2 y3 y4 y5
  have W_V : Hid (Ab w (v1.alloc (.cells #[.float .f64 bl, .int .i64 wl, .int .i64 al, .float .f64 br, .int .i64 wr, .int .i64 ar, .float .f64 gap, .float .f64 vu] 54))) := W_v1.out.trans (bl1 _ _)
  go_wp2_with fail
  refine (OP.out _).mono ?_
  rintro e9 v2 ⟨rfl, k1⟩
  have W_v2 : Hid (Ab w v2) := W_V.out.call k1
  clear k1 W_V W_v1
  go_wp2
  go_ret
  exact ⟨rfl, W_v2.out⟩
set_option maxRecDepth 100000 in
set_option maxHeartbeats 8000000 in
theorem speed_no (g9 : Value) (sd : Int) (dt gr dr : Nat) (lim : Int) (rv : Bool) (pr : Option Addr) (lr cr : Nat) (pb pw pt ps : Option Addr) (lb cb lw cw lt ct ls cs : Nat) (sky st : Int) (e : Int) (w : World)
    (EO : Hid (∀ v, Ab w v → Calls Tryz.prog 18 #[g9, .agg #[.slice pb lb cb, .slice pw lw cw, .slice pt lt ct, .slice ps ls cs, .int .i64 sky, .int .i64 st], .int .i64 e] v fun x w' => x = .returned (.tuple #[.agg #[.float .f64 0, .int .i64 0, .int .i64 0, .float .f64 0, .int .i64 0, .int .i64 0, .float .f64 0, .float .f64 0], .bool false]) ∧ Below v.heap.size v w')) :
    Calls Tryz.prog 8 #[g9, .agg #[.int .i64 sd, .float .f64 dt, .float .f64 gr, .float .f64 dr, .int .i64 lim, .bool rv, .slice pr lr cr], .agg #[.slice pb lb cb, .slice pw lw cw, .slice pt lt ct, .slice ps ls cs, .int .i64 sky, .int .i64 st], .int .i64 e] w fun x w' => x = .returned (.float .f64 0) ∧ Below w.heap.size w w' := by
  have W_W0 : Hid (Ab w ((w.alloc (.cells #[.int .i64 sd, .float .f64 dt, .float .f64 gr, .float .f64 dr, .int .i64 lim, .bool rv, .slice pr lr cr] 25)).alloc (.cells #[.slice pb lb cb, .slice pw lw cw, .slice pt lt ct, .slice ps ls cs, .int .i64 sky, .int .i64 st] 29))) := bl2 _ _ _
  have RP : Hid (((w.alloc (.cells #[.int .i64 sd, .float .f64 dt, .float .f64 gr, .float .f64 dr, .int .i64 lim, .bool rv, .slice pr lr cr] 25)).alloc (.cells #[.slice pb lb cb, .slice pw lw cw, .slice pt lt ct, .slice ps ls cs, .int .i64 sky, .int .i64 st] 29)).heap[w.heap.size]? = some (.cells #[.int .i64 sd, .float .f64 dt, .float .f64 gr, .float .f64 dr, .int .i64 lim, .bool rv, .slice pr lr cr] 25)) := heap_alloc2_old _ _ _
  have RS : Hid (((w.alloc (.cells #[.int .i64 sd, .float .f64 dt, .float .f64 gr, .float .f64 dr, .int .i64 lim, .bool rv, .slice pr lr cr] 25)).alloc (.cells #[.slice pb lb cb, .slice pw lw cw, .slice pt lt ct, .slice ps ls cs, .int .i64 sky, .int .i64 st] 29)).heap[w.heap.size + 1]? = some (.cells #[.slice pb lb cb, .slice pw lw cw, .slice pt lt ct, .slice ps ls cs, .int .i64 sky, .int .i64 st] 29)) := heap_alloc2_new _ _ _
  go_enter Tryz.func8, Tryz.ntmps8
  go_upto_region 1 with fail
  generalize hW : World.alloc (World.alloc w _) _ = W0 at *
  obtain ⟨gp, hgp⟩ : ∃ g, w.heap.size = g := ⟨_, rfl⟩
  obtain ⟨gs, hgs⟩ : ∃ g, w.heap.size + 1 = g := ⟨_, rfl⟩
  rw [hgs] at RS ⊢
  rw [hgp] at RP ⊢
  clear hgs hgp hW
  have y0 := cell_of_row _ _ 0 _ _ _ RS.out
  have y1 := cell_of_row _ _ 1 _ _ _ RS.out
  have y2 := cell_of_row _ _ 2 _ _ _ RS.out
  have y3 := cell_of_row _ _ 3 _ _ _ RS.out
  have y4 := cell_of_row _ _ 4 _ _ _ RS.out
  have y5 := cell_of_row _ _ 5 _ _ _ RS.out
  go_wp2_with fail
  refine (EO.out _ W_W0.out).mono ?_
  rintro e9 v1 ⟨rfl, k1⟩
  have W_v1 : Hid (Ab w v1) := W_W0.out.call k1
  have RP1 := hid (Ab.heap k1 RP.out)
  clear k1 W_W0 RS RP y0 y1 y2 y3 y4 y5
  have W_V : Hid (Ab w (v1.alloc (.cells #[.float .f64 0, .int .i64 0, .int .i64 0, .float .f64 0, .int .i64 0, .int .i64 0, .float .f64 0, .float .f64 0] 54))) := W_v1.out.trans (bl1 _ _)
  go_wp2
  go_ret
  exact ⟨rfl, W_V.out⟩
set_option maxRecDepth 100000 in
set_option maxHeartbeats 8000000 in
theorem speed_shut (g9 : Value) (sd : Int) (dt gr dr : Nat) (lim : Int) (rv : Bool) (pr : Option Addr) (lr cr : Nat) (pb pw pt ps : Option Addr) (lb cb lw cw lt ct ls cs : Nat) (sky st : Int) (e : Int) (bl br gap vu : Nat) (wl al wr ar : Int) (w : World)
    (EO : Hid (∀ v, Ab w v → Calls Tryz.prog 18 #[g9, .agg #[.slice pb lb cb, .slice pw lw cw, .slice pt lt ct, .slice ps ls cs, .int .i64 sky, .int .i64 st], .int .i64 e] v fun x w' => x = .returned (.tuple #[.agg #[.float .f64 bl, .int .i64 wl, .int .i64 al, .float .f64 br, .int .i64 wr, .int .i64 ar, .float .f64 gap, .float .f64 vu], .bool true]) ∧ Below v.heap.size v w'))
    (OP : Hid (∀ v, Calls Tryz.prog 19 #[.agg #[.float .f64 bl, .int .i64 wl, .int .i64 al, .float .f64 br, .int .i64 wr, .int .i64 ar, .float .f64 gap, .float .f64 vu]] v fun x w' => x = .returned (.bool false) ∧ Below v.heap.size v w')) :
    Calls Tryz.prog 8 #[g9, .agg #[.int .i64 sd, .float .f64 dt, .float .f64 gr, .float .f64 dr, .int .i64 lim, .bool rv, .slice pr lr cr], .agg #[.slice pb lb cb, .slice pw lw cw, .slice pt lt ct, .slice ps ls cs, .int .i64 sky, .int .i64 st], .int .i64 e] w fun x w' => x = .returned (.float .f64 0) ∧ Below w.heap.size w w' := by
  have W_W0 : Hid (Ab w ((w.alloc (.cells #[.int .i64 sd, .float .f64 dt, .float .f64 gr, .float .f64 dr, .int .i64 lim, .bool rv, .slice pr lr cr] 25)).alloc (.cells #[.slice pb lb cb, .slice pw lw cw, .slice pt lt ct, .slice ps ls cs, .int .i64 sky, .int .i64 st] 29))) := bl2 _ _ _
  have RP : Hid (((w.alloc (.cells #[.int .i64 sd, .float .f64 dt, .float .f64 gr, .float .f64 dr, .int .i64 lim, .bool rv, .slice pr lr cr] 25)).alloc (.cells #[.slice pb lb cb, .slice pw lw cw, .slice pt lt ct, .slice ps ls cs, .int .i64 sky, .int .i64 st] 29)).heap[w.heap.size]? = some (.cells #[.int .i64 sd, .float .f64 dt, .float .f64 gr, .float .f64 dr, .int .i64 lim, .bool rv, .slice pr lr cr] 25)) := heap_alloc2_old _ _ _
  have RS : Hid (((w.alloc (.cells #[.int .i64 sd, .float .f64 dt, .float .f64 gr, .float .f64 dr, .int .i64 lim, .bool rv, .slice pr lr cr] 25)).alloc (.cells #[.slice pb lb cb, .slice pw lw cw, .slice pt lt ct, .slice ps ls cs, .int .i64 sky, .int .i64 st] 29)).heap[w.heap.size + 1]? = some (.cells #[.slice pb lb cb, .slice pw lw cw, .slice pt lt ct, .slice ps ls cs, .int .i64 sky, .int .i64 st] 29)) := heap_alloc2_new _ _ _
  go_enter Tryz.func8, Tryz.ntmps8
  go_upto_region 1 with fail
  generalize hW : World.alloc (World.alloc w _) _ = W0 at *
  obtain ⟨gp, hgp⟩ : ∃ g, w.heap.size = g := ⟨_, rfl⟩
  obtain ⟨gs, hgs⟩ : ∃ g, w.heap.size + 1 = g := ⟨_, rfl⟩
  rw [hgs] at RS ⊢
  rw [hgp] at RP ⊢
  clear hgs hgp hW
  have y0 := cell_of_row _ _ 0 _ _ _ RS.out
  have y1 := cell_of_row _ _ 1 _ _ _ RS.out
  have y2 := cell_of_row _ _ 2 _ _ _ RS.out
  have y3 := cell_of_row _ _ 3 _ _ _ RS.out
  have y4 := cell_of_row _ _ 4 _ _ _ RS.out
  have y5 := cell_of_row _ _ 5 _ _ _ RS.out
  go_wp2_with fail
  refine (EO.out _ W_W0.out).mono ?_
  rintro e9 v1 ⟨rfl, k1⟩
  have W_v1 : Hid (Ab w v1) := W_W0.out.call k1
  have RP1 := hid (Ab.heap k1 RP.out)
  clear k1 W_W0 RS RP y0 y1 y2 y3 y4 y5
  have W_V : Hid (Ab w (v1.alloc (.cells #[.float .f64 bl, .int .i64 wl, .int .i64 al, .float .f64 br, .int .i64 wr, .int .i64 ar, .float .f64 gap, .float .f64 vu] 54))) := W_v1.out.trans (bl1 _ _)
  go_wp2_with fail
  refine (OP.out _).mono ?_
  rintro e9 v2 ⟨rfl, k1⟩
  have W_v2 : Hid (Ab w v2) := W_V.out.call k1
  clear k1 W_V W_v1
  go_wp2
  go_ret
  exact ⟨rfl, W_v2.out⟩
set_option maxRecDepth 100000 in
set_option maxHeartbeats 8000000 in
theorem speed_go (g9 : Value) (sd : Int) (dt gr dr : Nat) (lim : Int) (rv : Bool) (pr : Option Addr) (lr cr : Nat) (pb pw pt ps : Option Addr) (lb cb lw cw lt ct ls cs : Nat) (sky st : Int) (e : Int) (bl br gap vu : Nat) (wl al wr ar : Int) (y : Nat) (UQ HQ : Nat → Prop) (w : World)
    (EO : Hid (∀ v, Ab w v → Calls Tryz.prog 18 #[g9, .agg #[.slice pb lb cb, .slice pw lw cw, .slice pt lt ct, .slice ps ls cs, .int .i64 sky, .int .i64 st], .int .i64 e] v fun x w' => x = .returned (.tuple #[.agg #[.float .f64 bl, .int .i64 wl, .int .i64 al, .float .f64 br, .int .i64 wr, .int .i64 ar, .float .f64 gap, .float .f64 vu], .bool true]) ∧ Below v.heap.size v w'))
    (OP : Hid (∀ v, Calls Tryz.prog 19 #[.agg #[.float .f64 bl, .int .i64 wl, .int .i64 al, .float .f64 br, .int .i64 wr, .int .i64 ar, .float .f64 gap, .float .f64 vu]] v fun x w' => x = .returned (.bool true) ∧ Below v.heap.size v w'))
    (PU : Hid (∀ v, Calls Tryz.prog 22 #[.agg #[.float .f64 bl, .int .i64 wl, .int .i64 al, .float .f64 br, .int .i64 wr, .int .i64 ar, .float .f64 gap, .float .f64 vu], .agg #[.int .i64 sd, .float .f64 dt, .float .f64 gr, .float .f64 dr, .int .i64 lim, .bool rv, .slice pr lr cr]] v fun x w' => (∃ r, x = .returned (.float .f64 r) ∧ UQ r) ∧ Below v.heap.size v w'))
    (DE : Hid (∀ v, Calls Tryz.prog 23 #[.agg #[.float .f64 bl, .int .i64 wl, .int .i64 al, .float .f64 br, .int .i64 wr, .int .i64 ar, .float .f64 gap, .float .f64 vu]] v fun x w' => (∃ r, x = .returned (.float .f64 r) ∧ HQ r) ∧ Below v.heap.size v w'))
    (DG : Hid (∀ u h, UQ u → HQ h → ∀ v, Calls Tryz.prog 21 #[.agg #[.int .i64 sd, .float .f64 dt, .float .f64 gr, .float .f64 dr, .int .i64 lim, .bool rv, .slice pr lr cr], .float .f64 u, .float .f64 h] v fun x w' => x = .returned (.float .f64 y) ∧ Below v.heap.size v w')) :
    Calls Tryz.prog 8 #[g9, .agg #[.int .i64 sd, .float .f64 dt, .float .f64 gr, .float .f64 dr, .int .i64 lim, .bool rv, .slice pr lr cr], .agg #[.slice pb lb cb, .slice pw lw cw, .slice pt lt ct, .slice ps ls cs, .int .i64 sky, .int .i64 st], .int .i64 e] w fun x w' => x = .returned (.float .f64 y) ∧ Below w.heap.size w w' := by
  have W_W0 : Hid (Ab w ((w.alloc (.cells #[.int .i64 sd, .float .f64 dt, .float .f64 gr, .float .f64 dr, .int .i64 lim, .bool rv, .slice pr lr cr] 25)).alloc (.cells #[.slice pb lb cb, .slice pw lw cw, .slice pt lt ct, .slice ps ls cs, .int .i64 sky, .int .i64 st] 29))) := bl2 _ _ _
  have RP : Hid (((w.alloc (.cells #[.int .i64 sd, .float .f64 dt, .float .f64 gr, .float .f64 dr, .int .i64 lim, .bool rv, .slice pr lr cr] 25)).alloc (.cells #[.slice pb lb cb, .slice pw lw cw, .slice pt lt ct, .slice ps ls cs, .int .i64 sky, .int .i64 st] 29)).heap[w.heap.size]? = some (.cells #[.int .i64 sd, .float .f64 dt, .float .f64 gr, .float .f64 dr, .int .i64 lim, .bool rv, .slice pr lr cr] 25)) := heap_alloc2_old _ _ _
  have RS : Hid (((w.alloc (.cells #[.int .i64 sd, .float .f64 dt, .float .f64 gr, .float .f64 dr, .int .i64 lim, .bool rv, .slice pr lr cr] 25)).alloc (.cells #[.slice pb lb cb, .slice pw lw cw, .slice pt lt ct, .slice ps ls cs, .int .i64 sky, .int .i64 st] 29)).heap[w.heap.size + 1]? = some (.cells #[.slice pb lb cb, .slice pw lw cw, .slice pt lt ct, .slice ps ls cs, .int .i64 sky, .int .i64 st] 29)) := heap_alloc2_new _ _ _
  go_enter Tryz.func8, Tryz.ntmps8
  go_upto_region 1 with fail
  generalize hW : World.alloc (World.alloc w _) _ = W0 at *
  obtain ⟨gp, hgp⟩ : ∃ g, w.heap.size = g := ⟨_, rfl⟩
  obtain ⟨gs, hgs⟩ : ∃ g, w.heap.size + 1 = g := ⟨_, rfl⟩
  rw [hgs] at RS ⊢
  rw [hgp] at RP ⊢
  clear hgs hgp hW
  have y0 := cell_of_row _ _ 0 _ _ _ RS.out
  have y1 := cell_of_row _ _ 1 _ _ _ RS.out
  have y2 := cell_of_row _ _ 2 _ _ _ RS.out
  have y3 := cell_of_row _ _ 3 _ _ _ RS.out
  have y4 := cell_of_row _ _ 4 _ _ _ RS.out
  have y5 := cell_of_row _ _ 5 _ _ _ RS.out
  go_wp2_with fail
  refine (EO.out _ W_W0.out).mono ?_
  rintro e9 v1 ⟨rfl, k1⟩
  have W_v1 : Hid (Ab w v1) := W_W0.out.call k1
  have RP1 := hid (Ab.heap k1 RP.out)
  clear k1 W_W0 RS RP y0 y1 y2 y3 y4 y5
  have W_V : Hid (Ab w (v1.alloc (.cells #[.float .f64 bl, .int .i64 wl, .int .i64 al, .float .f64 br, .int .i64 wr, .int .i64 ar, .float .f64 gap, .float .f64 vu] 54))) := W_v1.out.trans (bl1 _ _)
  have RE1 := hid (heap_alloc_new v1 (.cells #[.float .f64 bl, .int .i64 wl, .int .i64 al, .float .f64 br, .int .i64 wr, .int .i64 ar, .float .f64 gap, .float .f64 vu] 54))
  have RPV : Hid ((v1.alloc (.cells #[.float .f64 bl, .int .i64 wl, .int .i64 al, .float .f64 br, .int .i64 wr, .int .i64 ar, .float .f64 gap, .float .f64 vu] 54)).heap[gp]? = some (.cells #[.int .i64 sd, .float .f64 dt, .float .f64 gr, .float .f64 dr, .int .i64 lim, .bool rv, .slice pr lr cr] 25)) := Ab.heap (bl1 _ _) RP1.out
  go_wp2_with fail
  refine (OP.out _).mono ?_
  rintro e9 v2 ⟨rfl, k1⟩
  have W_W0 : Hid (Ab w v2) := W_V.out.call k1
  have RE2 := hid (Ab.heap k1 RE1.out)
  have RP2 := hid (Ab.heap k1 RPV.out)
  clear k1 W_V RE1 RPV RP1 W_v1
  go_upto_region 4 with fail
  obtain ⟨ge, hge⟩ : ∃ g, v1.heap.size = g := ⟨_, rfl⟩
  rw [hge] at RE2 ⊢
  clear hge
  refine Rl.region_rel (fun i v => match i with
      | 0 => v = .agg #[.int .i64 sd, .float .f64 dt, .float .f64 gr, .float .f64 dr, .int .i64 lim, .bool rv, .slice pr lr cr]
      | 1 => v = .agg #[.float .f64 bl, .int .i64 wl, .int .i64 al, .float .f64 br, .int .i64 wr, .int .i64 ar, .float .f64 gap, .float .f64 vu]
      | 2 => v = .agg #[.int .i64 sd, .float .f64 dt, .float .f64 gr, .float .f64 dr, .int .i64 lim, .bool rv, .slice pr lr cr]
      | 3 => ∃ r, v = .float .f64 r ∧ UQ r
      | 4 => v = .agg #[.float .f64 bl, .int .i64 wl, .int .i64 al, .float .f64 br, .int .i64 wr, .int .i64 ar, .float .f64 gap, .float .f64 vu]
      | 5 => ∃ r, v = .float .f64 r ∧ HQ r
      | 6 => v = .float .f64 y
      | _ => v = .float .f64 y) (fun w9 => Ab v2 w9) (by kernel_rfl) (by kernel_rfl) (by kernel_rfl) (Ab.refl v2).drew ?_ ?_
  · refine Rl.rel_cons 1 (fun v => v = .agg #[.int .i64 sd, .float .f64 dt, .float .f64 gr, .float .f64 dr, .int .i64 lim, .bool rv, .slice pr lr cr]) rfl rfl ?_ ?_
    · intro x v hC hR
      have y0 := cell_of_row _ _ 0 _ _ _ (hC.heap RP2.out)
      have y1 := cell_of_row _ _ 1 _ _ _ (hC.heap RP2.out)
      have y2 := cell_of_row _ _ 2 _ _ _ (hC.heap RP2.out)
      have y3 := cell_of_row _ _ 3 _ _ _ (hC.heap RP2.out)
      have y4 := cell_of_row _ _ 4 _ _ _ (hC.heap RP2.out)
      have y5 := cell_of_row _ _ 5 _ _ _ (hC.heap RP2.out)
      have y6 := cell_of_row _ _ 6 _ _ _ (hC.heap RP2.out)
      clear hR
      intro K hK
      simp only [putAll, Act.put, List.setIfInBounds_toArray, List.set_cons_zero, List.set_cons_succ, Nat.reduceAdd, Nat.zero_add] at hK ⊢
      go_simp
      exact hK.out _ _ rfl hC
    refine Rl.rel_cons 2 (fun v => v = .agg #[.float .f64 bl, .int .i64 wl, .int .i64 al, .float .f64 br, .int .i64 wr, .int .i64 ar, .float .f64 gap, .float .f64 vu]) rfl rfl ?_ ?_
    · intro x v hC hR
      have y0 := cell_of_row _ _ 0 _ _ _ (hC.heap RE2.out)
      have y1 := cell_of_row _ _ 1 _ _ _ (hC.heap RE2.out)
      have y2 := cell_of_row _ _ 2 _ _ _ (hC.heap RE2.out)
      have y3 := cell_of_row _ _ 3 _ _ _ (hC.heap RE2.out)
      have y4 := cell_of_row _ _ 4 _ _ _ (hC.heap RE2.out)
      have y5 := cell_of_row _ _ 5 _ _ _ (hC.heap RE2.out)
      have y6 := cell_of_row _ _ 6 _ _ _ (hC.heap RE2.out)
      have y7 := cell_of_row _ _ 7 _ _ _ (hC.heap RE2.out)
      clear hR
      intro K hK
      simp only [putAll, Act.put, List.setIfInBounds_toArray, List.set_cons_zero, List.set_cons_succ, Nat.reduceAdd, Nat.zero_add] at hK ⊢
      go_simp
      exact hK.out _ _ rfl hC
    refine Rl.rel_cons 3 (fun v => v = .agg #[.int .i64 sd, .float .f64 dt, .float .f64 gr, .float .f64 dr, .int .i64 lim, .bool rv, .slice pr lr cr]) rfl rfl ?_ ?_
    · intro x v hC hR
      have y0 := cell_of_row _ _ 0 _ _ _ (hC.heap RP2.out)
      have y1 := cell_of_row _ _ 1 _ _ _ (hC.heap RP2.out)
      have y2 := cell_of_row _ _ 2 _ _ _ (hC.heap RP2.out)
      have y3 := cell_of_row _ _ 3 _ _ _ (hC.heap RP2.out)
      have y4 := cell_of_row _ _ 4 _ _ _ (hC.heap RP2.out)
      have y5 := cell_of_row _ _ 5 _ _ _ (hC.heap RP2.out)
      have y6 := cell_of_row _ _ 6 _ _ _ (hC.heap RP2.out)
      clear hR
      intro K hK
      simp only [putAll, Act.put, List.setIfInBounds_toArray, List.set_cons_zero, List.set_cons_succ, Nat.reduceAdd, Nat.zero_add] at hK ⊢
      go_simp
      exact hK.out _ _ rfl hC
    refine Rl.rel_cons 4 (fun v => ∃ r, v = .float .f64 r ∧ UQ r) rfl rfl ?_ ?_
    · intro x v hC hR
      have h0 : x 1 = .agg #[.float .f64 bl, .int .i64 wl, .int .i64 al, .float .f64 br, .int .i64 wr, .int .i64 ar, .float .f64 gap, .float .f64 vu] := hR 1 (by kernel_rfl)
      have h1 : x 2 = .agg #[.int .i64 sd, .float .f64 dt, .float .f64 gr, .float .f64 dr, .int .i64 lim, .bool rv, .slice pr lr cr] := hR 2 (by kernel_rfl)
      clear hR
      intro K hK
      simp only [putAll, Act.put, List.setIfInBounds_toArray, List.set_cons_zero, List.set_cons_succ, Nat.reduceAdd, Nat.zero_add] at hK ⊢
      simp only [h0, h1] at hK ⊢
      go_simp
      refine (PU.out _).mono ?_
      rintro e w8 ⟨⟨r, rfl, hr⟩, kb⟩
      exact hK.out _ _ ⟨r, rfl, hr⟩ (hC.call kb)
    refine Rl.rel_cons 5 (fun v => v = .agg #[.float .f64 bl, .int .i64 wl, .int .i64 al, .float .f64 br, .int .i64 wr, .int .i64 ar, .float .f64 gap, .float .f64 vu]) rfl rfl ?_ ?_
    · intro x v hC hR
      have y0 := cell_of_row _ _ 0 _ _ _ (hC.heap RE2.out)
      have y1 := cell_of_row _ _ 1 _ _ _ (hC.heap RE2.out)
      have y2 := cell_of_row _ _ 2 _ _ _ (hC.heap RE2.out)
      have y3 := cell_of_row _ _ 3 _ _ _ (hC.heap RE2.out)
      have y4 := cell_of_row _ _ 4 _ _ _ (hC.heap RE2.out)
      have y5 := cell_of_row _ _ 5 _ _ _ (hC.heap RE2.out)
      have y6 := cell_of_row _ _ 6 _ _ _ (hC.heap RE2.out)
      have y7 := cell_of_row _ _ 7 _ _ _ (hC.heap RE2.out)
      clear hR
      intro K hK
      simp only [putAll, Act.put, List.setIfInBounds_toArray, List.set_cons_zero, List.set_cons_succ, Nat.reduceAdd, Nat.zero_add] at hK ⊢
      go_simp
      exact hK.out _ _ rfl hC
    refine Rl.rel_cons 6 (fun v => ∃ r, v = .float .f64 r ∧ HQ r) rfl rfl ?_ ?_
    · intro x v hC hR
      have h0 : x 4 = .agg #[.float .f64 bl, .int .i64 wl, .int .i64 al, .float .f64 br, .int .i64 wr, .int .i64 ar, .float .f64 gap, .float .f64 vu] := hR 4 (by kernel_rfl)
      clear hR
      intro K hK
      simp only [putAll, Act.put, List.setIfInBounds_toArray, List.set_cons_zero, List.set_cons_succ, Nat.reduceAdd, Nat.zero_add] at hK ⊢
      simp only [h0] at hK ⊢
      go_simp
      refine (DE.out _).mono ?_
      rintro e w8 ⟨⟨r, rfl, hr⟩, kb⟩
      exact hK.out _ _ ⟨r, rfl, hr⟩ (hC.call kb)
    refine Rl.rel_cons 7 (fun v => v = .float .f64 y) rfl rfl ?_ ?_
    · intro x v hC hR
      have h5 : x 0 = .agg #[.int .i64 sd, .float .f64 dt, .float .f64 gr, .float .f64 dr, .int .i64 lim, .bool rv, .slice pr lr cr] := hR 0 (by kernel_rfl)
      have h0 : ∃ r, x 3 = .float .f64 r ∧ UQ r := hR 3 (by kernel_rfl)
      have h1 : ∃ r, x 5 = .float .f64 r ∧ HQ r := hR 5 (by kernel_rfl)
      obtain ⟨r1, e1, i1⟩ := h0
      obtain ⟨r2, e2, i2⟩ := h1
      have DG1 := hid (DG.out r1 r2 i1 i2)
      clear i1 i2
      clear hR
      intro K hK
      simp only [putAll, Act.put, List.setIfInBounds_toArray, List.set_cons_zero, List.set_cons_succ, Nat.reduceAdd, Nat.zero_add] at hK ⊢
      simp only [h5, e1, e2] at hK ⊢
      go_simp
      refine (DG1.out _).mono ?_
      rintro e w8 ⟨rfl, kb⟩
      exact hK.out _ _ rfl (hC.call kb)
    refine Rl.rel_cons 8 (fun v => v = .float .f64 y) rfl rfl ?_ ?_
    · intro x v hC hR
      have h0 : x 6 = .float .f64 y := hR 6 (by kernel_rfl)
      clear hR
      intro K hK
      simp only [putAll, Act.put, List.setIfInBounds_toArray, List.set_cons_zero, List.set_cons_succ, Nat.reduceAdd, Nat.zero_add] at hK ⊢
      simp only [h0] at hK ⊢
      go_simp
      exact hK.out _ _ rfl hC
    exact Rl.rel_nil
  · intro x z hz hR
    have h0 : x 7 = .float .f64 y := hR 7 (by decide)
    clear hR
    have WZ : Hid (Ab w z) := W_W0.out.trans hz
    clear hz
    simp only [putAll, Act.put, List.setIfInBounds_toArray, List.set_cons_zero, List.set_cons_succ, Nat.reduceAdd, Nat.zero_add, h0]
    go_wp2
    go_ret
    exact ⟨rfl, WZ.out⟩
end Fc
end Go.Proofs.YtgalgnjgpmcngaaGreatDoor
