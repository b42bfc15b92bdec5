/-
  Turns of a cell, and turns one behind the other: contracts.
-/
import Derived.Test.YthfholdhieigiaaDoorKk
namespace Go.Proofs.YthfholdhieigiaaDoor
open Go.RowKit Cu
theorem un_rX : ∀ t < 24, ((-1 ≤ (rX t).1 ∧ (rX t).1 ≤ 1) ∧ (-1 ≤ (rX t).2.1 ∧ (rX t).2.1 ≤ 1) ∧ (-1 ≤ (rX t).2.2 ∧ (rX t).2.2 ≤ 1)) := by decide +kernel
theorem un_rY : ∀ t < 24, ((-1 ≤ (rY t).1 ∧ (rY t).1 ≤ 1) ∧ (-1 ≤ (rY t).2.1 ∧ (rY t).2.1 ≤ 1) ∧ (-1 ≤ (rY t).2.2 ∧ (rY t).2.2 ≤ 1)) := by decide +kernel
theorem un_rZ : ∀ t < 24, ((-1 ≤ (rZ t).1 ∧ (rZ t).1 ≤ 1) ∧ (-1 ≤ (rZ t).2.1 ∧ (rZ t).2.1 ≤ 1) ∧ (-1 ≤ (rZ t).2.2 ∧ (rZ t).2.2 ≤ 1)) := by decide +kernel
set_option maxHeartbeats 8000000 in
theorem turn_go (n c f i j t f2 i2 j2 q : Nat) (p r o : P3) (w : World) (hn : 1 ≤ n ∧ n ≤ 32) (hf : f < 6) (hi : i < n) (hj : j < n) (ht : t < 24) (hf2 : f2 < 6) (hi2 : i2 < n) (hj2 : j2 < n) (hq : q < 4) (h : Fr w)
    (PL : Hid (∀ w, Calls Tryd.prog 9 #[.int .i64 n, .int .i64 c] w fun e w' => e = .returned (.tuple #[.int .i64 f, .int .i64 i, .int .i64 j, .bool true]) ∧ ∃ k, w' = w.drewN k))
    (hp : md n f i j = p) (hr : md n f2 i2 j2 = r) (hpr : ro t p = r) (ho : wy f2 q = o) (hro : ro t (cR f) = o) :
    Calls Tryd.prog 7 #[.int .i64 n, .int .i64 t, .int .i64 c] w fun e w' => e = .returned (.tuple #[.int .i64 (cN n f2 i2 j2), .int .i64 q]) ∧ Below w.heap.size w w' := by
  have CT : Hid (∀ w, Calls Tryd.prog 13 #[.int .i64 t, .int .i64 24] w fun e w' => e = .returned (.bool true) ∧ w' = w) := fun w => by
    have := counts_at t 24 w
    rwa [show inR t 24 = true by rw [inR_iff]; omega] at this
  have RO := hid (fun (u : World) (hu : Ab w u) => rotationOf_at t u ht (h.to hu))
  have MI : Hid (∀ u, Ab w u → Calls Tryd.prog 15 #[.int .i64 n, .int .i64 f, .int .i64 i, .int .i64 j] u fun e w' => e = .returned (.agg #[.int .i64 p.1, .int .i64 p.2.1, .int .i64 p.2.2]) ∧ Below u.heap.size u w') := fun u hu => by
    rw [← hp]; exact middle_at n f i j u (by omega) hf (by omega) (by omega) (h.to hu)
  have hm := md_le hf hi hj hn.2
  rw [hp] at hm
  have OF : Hid (∀ u, Calls Tryd.prog 29 #[.agg #[.int .i64 (rX t).1, .int .i64 (rX t).2.1, .int .i64 (rX t).2.2, .int .i64 (rY t).1, .int .i64 (rY t).2.1, .int .i64 (rY t).2.2, .int .i64 (rZ t).1, .int .i64 (rZ t).2.1, .int .i64 (rZ t).2.2], .agg #[.int .i64 p.1, .int .i64 p.2.1, .int .i64 p.2.2]] u fun e w' => e = .returned (.agg #[.int .i64 r.1, .int .i64 r.2.1, .int .i64 r.2.2]) ∧ Below u.heap.size u w') := fun u => by
    rw [← hpr]; exact of_at (rX t) (rY t) (rZ t) p u (un_rX t ht) (un_rY t ht) (un_rZ t ht) (by omega)
  have UN : Hid (∀ u, Ab w u → Calls Tryd.prog 19 #[.int .i64 n, .agg #[.int .i64 r.1, .int .i64 r.2.1, .int .i64 r.2.2]] u fun e w' => e = .returned (.tuple #[.int .i64 f2, .int .i64 i2, .int .i64 j2]) ∧ Below u.heap.size u w') := fun u hu => under_at n f2 i2 j2 r u hn hf2 hi2 hj2 hr (h.to hu)
  have CE := hid (fun u => cell_at n f2 i2 j2 u)
  have WY : Hid (∀ u, Ab w u → Calls Tryd.prog 14 #[.int .i64 f, .int .i64 0] u fun e w' => e = .returned (.agg #[.int .i64 (cR f).1, .int .i64 (cR f).2.1, .int .i64 (cR f).2.2]) ∧ Below u.heap.size u w') := fun u hu => way_at f 0 u hf (by omega) (h.to hu)
  have OE : Hid (∀ u, Calls Tryd.prog 29 #[.agg #[.int .i64 (rX t).1, .int .i64 (rX t).2.1, .int .i64 (rX t).2.2, .int .i64 (rY t).1, .int .i64 (rY t).2.1, .int .i64 (rY t).2.2, .int .i64 (rZ t).1, .int .i64 (rZ t).2.1, .int .i64 (rZ t).2.2], .agg #[.int .i64 (cR f).1, .int .i64 (cR f).2.1, .int .i64 (cR f).2.2]] u fun e w' => e = .returned (.agg #[.int .i64 o.1, .int .i64 o.2.1, .int .i64 o.2.2]) ∧ Below u.heap.size u w') := fun u => by
    rw [← hro]; exact of_at (rX t) (rY t) (rZ t) (cR f) u (un_rX t ht) (un_rY t ht) (un_rZ t ht) (un_R hf).le
  have SD : Hid (∀ u, Ab w u → Calls Tryd.prog 20 #[.int .i64 f2, .agg #[.int .i64 o.1, .int .i64 o.2.1, .int .i64 o.2.2]] u fun e w' => e = .returned (.int .i64 q) ∧ Below u.heap.size u w') := fun u hu => sideOf_at f2 q o u hf2 hq ho (h.to hu)
  clear hm hp hr hpr ho hro h
  go_enter Tryd.func7, Tryd.ntmps7
  go_upto_region 4 with (first
    | (go_at_call 9; refine (PL.out _).mono ?_; rintro e w' ⟨rfl, k, rfl⟩)
    | (go_at_call 13; refine (CT.out _).mono ?_; rintro e w' ⟨rfl, rfl⟩))
  have A1 : Ab w (w.drewN k) := (Ab.refl w).drewN k
  go_wp2_with fail
  refine (RO.out _ A1).mono ?_
  rintro e w1 ⟨rfl, b1⟩
  have A2 := hid (A1.call b1)
  clear b1 A1 PL CT RO
  go_upto_region 5 with fail
  generalize hW : World.alloc w1 _ = W
  obtain ⟨g, hg⟩ : ∃ g, w1.heap.size = g := ⟨_, rfl⟩
  have r12 : W.heap[g]? = some (.cells #[.int .i64 (rX t).1, .int .i64 (rX t).2.1, .int .i64 (rX t).2.2, .int .i64 (rY t).1, .int .i64 (rY t).2.1, .int .i64 (rY t).2.2, .int .i64 (rZ t).1, .int .i64 (rZ t).2.1, .int .i64 (rZ t).2.2] 57) := by rw [← hW, ← hg]; exact heap_alloc_new _ _
  have A3 : Ab w W := by rw [← hW]; exact A2.out.alloc _
  rw [hg]
  clear hW hg A2
  obtain ⟨U, F, hF1, hF2⟩ := cls W
  have HF := hid hF2
  have HF1 := hid hF1
  have x0 : ∀ u, (F u).cell? ⟨g, 0, none⟩ = some (.int .i64 (rX t).1) := fun u => cell_of_row _ _ 0 _ _ _ ((hF1 u).heap r12)
  have x1 : ∀ u, (F u).cell? ⟨g, 1, none⟩ = some (.int .i64 (rX t).2.1) := fun u => cell_of_row _ _ 1 _ _ _ ((hF1 u).heap r12)
  have x2 : ∀ u, (F u).cell? ⟨g, 2, none⟩ = some (.int .i64 (rX t).2.2) := fun u => cell_of_row _ _ 2 _ _ _ ((hF1 u).heap r12)
  have x3 : ∀ u, (F u).cell? ⟨g, 3, none⟩ = some (.int .i64 (rY t).1) := fun u => cell_of_row _ _ 3 _ _ _ ((hF1 u).heap r12)
  have x4 : ∀ u, (F u).cell? ⟨g, 4, none⟩ = some (.int .i64 (rY t).2.1) := fun u => cell_of_row _ _ 4 _ _ _ ((hF1 u).heap r12)
  have x5 : ∀ u, (F u).cell? ⟨g, 5, none⟩ = some (.int .i64 (rY t).2.2) := fun u => cell_of_row _ _ 5 _ _ _ ((hF1 u).heap r12)
  have x6 : ∀ u, (F u).cell? ⟨g, 6, none⟩ = some (.int .i64 (rZ t).1) := fun u => cell_of_row _ _ 6 _ _ _ ((hF1 u).heap r12)
  have x7 : ∀ u, (F u).cell? ⟨g, 7, none⟩ = some (.int .i64 (rZ t).2.1) := fun u => cell_of_row _ _ 7 _ _ _ ((hF1 u).heap r12)
  have x8 : ∀ u, (F u).cell? ⟨g, 8, none⟩ = some (.int .i64 (rZ t).2.2) := fun u => cell_of_row _ _ 8 _ _ _ ((hF1 u).heap r12)
  have MI' := hid (fun u => MI.out (F u) (A3.trans (hF1 u)))
  have UN' := hid (fun u => UN.out (F u) (A3.trans (hF1 u)))
  have WY' := hid (fun u => WY.out (F u) (A3.trans (hF1 u)))
  have SD' := hid (fun u => SD.out (F u) (A3.trans (hF1 u)))
  have D := HF.out _ (Ab.refl W).drew
  have D2 := hid (fun u => HF.out _ (hF1 u).drew)
  have A3' := hid A3
  clear hF1 hF2 r12 MI UN WY SD A3
  refine region_cls F (by kernel_rfl) (by kernel_rfl) D ?_
  repeat (go_big_quiet_step (first
    | rfl
    | (go_at_call 15; exact calls_cls HF HF1 (MI'.out _))
    | (go_at_call 29; exact calls_cls HF HF1 (OF.out _))
    | (go_at_call 19; exact calls_cls HF HF1 (UN'.out _))))
  refine wpQuiet_nil ?_
  intro wz hwz
  obtain ⟨u, rfl⟩ := hwz
  clear MI' OF UN'
  go_wp2_with fail
  refine region_cls F (by kernel_rfl) (by kernel_rfl) (D2.out u) ?_
  repeat (go_big_quiet_step (first
    | rfl
    | (go_at_call 11; exact (CE.out _).mono (fun _ _ ⟨he, hw⟩ => ⟨he, _, hw⟩))
    | (go_at_call 14; exact calls_cls HF HF1 (WY'.out _))
    | (go_at_call 29; exact calls_cls HF HF1 (OE.out _))
    | (go_at_call 20; exact calls_cls HF HF1 (SD'.out _))))
  refine wpQuiet_nil ?_
  intro wz hwz
  obtain ⟨v, rfl⟩ := hwz
  go_wp2
  go_ret2
  exact ⟨rfl, A3'.out.trans (HF1.out v)⟩
set_option maxHeartbeats 4000000 in
theorem after1_at (k : Nat) (X Y Z : P3) (g0 : Nat) (w : World) (hk : k < 24) (h : Fr w) (ha : w.heap[g0]? = some (.cells #[.int .i64 X.1, .int .i64 X.2.1, .int .i64 X.2.2, .int .i64 Y.1, .int .i64 Y.2.1, .int .i64 Y.2.2, .int .i64 Z.1, .int .i64 Z.2.1, .int .i64 Z.2.2] 57)) :
    Calls Tryd.prog 33 #[.int .i64 k, .pointer (some ⟨g0, 0, none⟩)] w fun e w' => e = .returned (.bool (decide (rX k = X ∧ rY k = Y ∧ rZ k = Z))) ∧ Below w.heap.size w w' := by
  obtain ⟨U, F, hF1, hF2⟩ := cls w
  have HF := hid hF2
  have HF1 := hid hF1
  have x0 : ∀ u, (F u).cell? ⟨g0, 0, none⟩ = some (.int .i64 X.1) := fun u => cell_of_row _ _ 0 _ _ _ ((hF1 u).heap ha)
  have x1 : ∀ u, (F u).cell? ⟨g0, 1, none⟩ = some (.int .i64 X.2.1) := fun u => cell_of_row _ _ 1 _ _ _ ((hF1 u).heap ha)
  have x2 : ∀ u, (F u).cell? ⟨g0, 2, none⟩ = some (.int .i64 X.2.2) := fun u => cell_of_row _ _ 2 _ _ _ ((hF1 u).heap ha)
  have x3 : ∀ u, (F u).cell? ⟨g0, 3, none⟩ = some (.int .i64 Y.1) := fun u => cell_of_row _ _ 3 _ _ _ ((hF1 u).heap ha)
  have x4 : ∀ u, (F u).cell? ⟨g0, 4, none⟩ = some (.int .i64 Y.2.1) := fun u => cell_of_row _ _ 4 _ _ _ ((hF1 u).heap ha)
  have x5 : ∀ u, (F u).cell? ⟨g0, 5, none⟩ = some (.int .i64 Y.2.2) := fun u => cell_of_row _ _ 5 _ _ _ ((hF1 u).heap ha)
  have x6 : ∀ u, (F u).cell? ⟨g0, 6, none⟩ = some (.int .i64 Z.1) := fun u => cell_of_row _ _ 6 _ _ _ ((hF1 u).heap ha)
  have x7 : ∀ u, (F u).cell? ⟨g0, 7, none⟩ = some (.int .i64 Z.2.1) := fun u => cell_of_row _ _ 7 _ _ _ ((hF1 u).heap ha)
  have x8 : ∀ u, (F u).cell? ⟨g0, 8, none⟩ = some (.int .i64 Z.2.2) := fun u => cell_of_row _ _ 8 _ _ _ ((hF1 u).heap ha)
  have T := hid (fun u => rotationOf_at k (F u) hk (h.to (hF1 u)))
  have D := HF.out _ (Ab.refl w).drew
  have EQ : ∀ u, (Op.equalIn 10000 57 (.agg #[.int .i64 (rX k).1, .int .i64 (rX k).2.1, .int .i64 (rX k).2.2, .int .i64 (rY k).1, .int .i64 (rY k).2.1, .int .i64 (rY k).2.2, .int .i64 (rZ k).1, .int .i64 (rZ k).2.1, .int .i64 (rZ k).2.2]) (.agg #[.int .i64 X.1, .int .i64 X.2.1, .int .i64 X.2.2, .int .i64 Y.1, .int .i64 Y.2.1, .int .i64 Y.2.2, .int .i64 Z.1, .int .i64 Z.2.1, .int .i64 Z.2.2])).run Tryd.prog (F u) = .ok (decide (rX k = X ∧ rY k = Y ∧ rZ k = Z)) (F u) := fun u => ro_cmp _ _ _ _ _ _ _
  clear hF1 hF2 h ha hk
  go_enter Tryd.func33, Tryd.ntmps33
  go_wp2_with fail
  refine region_cls F (by kernel_rfl) (by kernel_rfl) D ?_
  repeat (go_big_quiet_step (first | rfl | (go_at_call 28; exact calls_cls HF HF1 (T.out _))))
  refine wpQuiet_nil ?_
  intro wz hwz
  obtain ⟨u, rfl⟩ := hwz
  go_wp2
  go_ret
  exact ⟨by simp, HF1.out u⟩
set_option maxHeartbeats 4000000 in
theorem after_ok (u t : Nat) (w : World) (hu : u < 24) (ht : t < 24) (h : Fr w) :
    Calls Tryd.prog 12 #[.int .i64 u, .int .i64 t] w fun e w' => e = .returned (.int .i64 (aft u t)) ∧ Below w.heap.size w w' := by
  have hmf : ∀ (fn : Fn) (first cap : Array Value) (w : World), (Instr.makeFunc fn first cap).run Tryd.prog w = .ok (.func fn first cap) w := fun _ _ _ _ => rfl
  have CU : Hid (∀ w, Calls Tryd.prog 13 #[.int .i64 u, .int .i64 24] w fun e w' => e = .returned (.bool true) ∧ w' = w) := fun w => by
    have := counts_at u 24 w
    rwa [show inR u 24 = true by rw [inR_iff]; omega] at this
  have CT : Hid (∀ w, Calls Tryd.prog 13 #[.int .i64 t, .int .i64 24] w fun e w' => e = .returned (.bool true) ∧ w' = w) := fun w => by
    have := counts_at t 24 w
    rwa [show inR t 24 = true by rw [inR_iff]; omega] at this
  obtain ⟨k, hk⟩ : ∃ k, aft u t = k := ⟨_, rfl⟩
  obtain ⟨k1, k2, k3, k4⟩ := aft_tab u hu t ht
  rw [hk] at k1 k2 k3 k4
  rw [hk]
  have R1 := hid (rotationOf_at t w ht h)
  have R2 := hid (fun (v : World) (hv : Ab w v) => rotationOf_at u v hu (h.to hv))
  have TH : Hid (∀ v, Calls Tryd.prog 31 #[.agg #[.int .i64 (rX t).1, .int .i64 (rX t).2.1, .int .i64 (rX t).2.2, .int .i64 (rY t).1, .int .i64 (rY t).2.1, .int .i64 (rY t).2.2, .int .i64 (rZ t).1, .int .i64 (rZ t).2.1, .int .i64 (rZ t).2.2], .agg #[.int .i64 (rX u).1, .int .i64 (rX u).2.1, .int .i64 (rX u).2.2, .int .i64 (rY u).1, .int .i64 (rY u).2.1, .int .i64 (rY u).2.2, .int .i64 (rZ u).1, .int .i64 (rZ u).2.1, .int .i64 (rZ u).2.2]] v fun e w' => e = .returned (.agg #[.int .i64 (rX k).1, .int .i64 (rX k).2.1, .int .i64 (rX k).2.2, .int .i64 (rY k).1, .int .i64 (rY k).2.1, .int .i64 (rY k).2.2, .int .i64 (rZ k).1, .int .i64 (rZ k).2.1, .int .i64 (rZ k).2.2]) ∧ Below v.heap.size v w') := fun v => by
    rw [k2, k3, k4]; exact then_at (rX t) (rY t) (rZ t) (rX u) (rY u) (rZ u) v (un_rX t ht) (un_rY t ht) (un_rZ t ht) (un_rX u hu) (un_rY u hu) (un_rZ u hu)
  have LE := hid (fun (v : World) (hv : Ab w v) (g : Nat) (hg : v.heap[g]? = some (.cells #[.int .i64 (rX k).1, .int .i64 (rX k).2.1, .int .i64 (rX k).2.2, .int .i64 (rY k).1, .int .i64 (rY k).2.1, .int .i64 (rY k).2.2, .int .i64 (rZ k).1, .int .i64 (rZ k).2.1, .int .i64 (rZ k).2.2] 57)) => least_a 24 k (fun j => decide (rX j = rX k ∧ rY j = rY k ∧ rZ j = rZ k)) g v (by decide) (by omega) (by simp)
    (fun j hj => by simp only [decide_eq_false_iff_not]; intro e; have := rot_inj k k1 j (by omega) e.1 e.2.1; omega)
    (hid (fun j hj w' hw => after1_at j (rX k) (rY k) (rZ k) g w' hj (h.to (hv.trans hw)) (hw.heap hg))))
  clear k2 k3 k4 hk h
  have hne : ¬ u = t ∨ u = t := by omega
  go_enter Tryd.func12, Tryd.ntmps12
  go_upto_region 3 with (first
    | (go_at_call_of 13 u; refine (CU.out _).mono ?_; rintro e w' ⟨rfl, rfl⟩)
    | (go_at_call_of 13 t; refine (CT.out _).mono ?_; rintro e w' ⟨rfl, rfl⟩))
  go_wp2_with fail
  refine R1.out.mono ?_
  rintro e w1 ⟨rfl, b1⟩
  have A1 : Ab _ w1 := b1
  go_wp2_with fail
  refine (R2.out _ A1).mono ?_
  rintro e w2 ⟨rfl, b2⟩
  have A2 := A1.call b2
  go_wp2_with fail
  refine (TH.out _).mono ?_
  rintro e w3 ⟨rfl, b3⟩
  have A3 := A2.call b3
  have L := hid (LE.out _ (A3.alloc _) w3.heap.size (heap_alloc_new _ _))
  have A4 := hid A3
  clear A1 A2 A3 b1 b2 b3 R1 R2 TH LE CU CT
  go_wp2_with fail
  refine L.out.mono ?_
  rintro e w4 ⟨rfl, b4⟩
  go_wp2
  go_ret
  exact ⟨rfl, (A4.out.alloc _).call b4⟩
end Go.Proofs.YthfholdhieigiaaDoor
