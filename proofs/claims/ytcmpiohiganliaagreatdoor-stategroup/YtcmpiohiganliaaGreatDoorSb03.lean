/-
  Some of the texts of this proof, one behind the other.
-/
import Derived.Maps.AppendAt
import Ieee.Arith
import Derived.Test.YtcmpiohiganliaaGreatDoorSb02
namespace Go.Proofs.YtcmpiohiganliaaGreatDoor
open Go.RowKit Cu
theorem un_rX : ∀ t < 24, ((-1 ≤ (rX t).1 ∧ (rX t).1 ≤ 1) ∧ (-1 ≤ (rX t).2.1 ∧ (rX t).2.1 ≤ 1) ∧ (-1 ≤ (rX t).2.2 ∧ (rX t).2.2 ≤ 1)) := by decide +kernel
theorem un_rY : ∀ t < 24, ((-1 ≤ (rY t).1 ∧ (rY t).1 ≤ 1) ∧ (-1 ≤ (rY t).2.1 ∧ (rY t).2.1 ≤ 1) ∧ (-1 ≤ (rY t).2.2 ∧ (rY t).2.2 ≤ 1)) := by decide +kernel
theorem un_rZ : ∀ t < 24, ((-1 ≤ (rZ t).1 ∧ (rZ t).1 ≤ 1) ∧ (-1 ≤ (rZ t).2.1 ∧ (rZ t).2.1 ≤ 1) ∧ (-1 ≤ (rZ t).2.2 ∧ (rZ t).2.2 ≤ 1)) := by decide +kernel
set_option maxHeartbeats 8000000 in
theorem turn_go (n c f i j t f2 i2 j2 q : Nat) (p r o : P3) (w : World) (hn : 1 ≤ n ∧ n ≤ 32) (hf : f < 6) (hi : i < n) (hj : j < n) (ht : t < 24) (hf2 : f2 < 6) (hi2 : i2 < n) (hj2 : j2 < n) (hq : q < 4) (h : Fr w)
    (PL : Hid (∀ w, Calls Tryz.prog 44 #[.int .i64 n, .int .i64 c] w fun e w' => e = .returned (.tuple #[.int .i64 f, .int .i64 i, .int .i64 j, .bool true]) ∧ ∃ k, w' = w.drewN k))
    (hp : md n f i j = p) (hr : md n f2 i2 j2 = r) (hpr : ro t p = r) (ho : wy f2 q = o) (hro : ro t (cR f) = o) :
    Calls Tryz.prog 13 #[.int .i64 n, .int .i64 t, .int .i64 c] w fun e w' => e = .returned (.tuple #[.int .i64 (cN n f2 i2 j2), .int .i64 q]) ∧ Below w.heap.size w w' := by
  have CT : Hid (∀ w, Calls Tryz.prog 27 #[.int .i64 t, .int .i64 24] w fun e w' => e = .returned (.bool true) ∧ w' = w) := fun w => by
    have := counts_at t 24 w
    rwa [show inR t 24 = true by rw [inR_iff]; omega] at this
  have RO := hid (fun (u : World) (hu : Ab w u) => rotationOf_at t u ht (h.to hu))
  have MI : Hid (∀ u, Ab w u → Calls Tryz.prog 47 #[.int .i64 n, .int .i64 f, .int .i64 i, .int .i64 j] u fun e w' => e = .returned (.agg #[.int .i64 p.1, .int .i64 p.2.1, .int .i64 p.2.2]) ∧ Below u.heap.size u w') := fun u hu => by
    rw [← hp]; exact middle_at n f i j u (by omega) hf (by omega) (by omega) (h.to hu)
  have hm := md_le hf hi hj hn.2
  rw [hp] at hm
  have OF : Hid (∀ u, Calls Tryz.prog 46 #[.agg #[.int .i64 (rX t).1, .int .i64 (rX t).2.1, .int .i64 (rX t).2.2, .int .i64 (rY t).1, .int .i64 (rY t).2.1, .int .i64 (rY t).2.2, .int .i64 (rZ t).1, .int .i64 (rZ t).2.1, .int .i64 (rZ t).2.2], .agg #[.int .i64 p.1, .int .i64 p.2.1, .int .i64 p.2.2]] u fun e w' => e = .returned (.agg #[.int .i64 r.1, .int .i64 r.2.1, .int .i64 r.2.2]) ∧ Below u.heap.size u w') := fun u => by
    rw [← hpr]; exact of_at (rX t) (rY t) (rZ t) p u (un_rX t ht) (un_rY t ht) (un_rZ t ht) (by omega)
  have UN : Hid (∀ u, Ab w u → Calls Tryz.prog 45 #[.int .i64 n, .agg #[.int .i64 r.1, .int .i64 r.2.1, .int .i64 r.2.2]] u fun e w' => e = .returned (.tuple #[.int .i64 f2, .int .i64 i2, .int .i64 j2]) ∧ Below u.heap.size u w') := fun u hu => under_at n f2 i2 j2 r u hn hf2 hi2 hj2 hr (h.to hu)
  have CE := hid (fun u => cell_at n f2 i2 j2 u)
  have WY : Hid (∀ u, Ab w u → Calls Tryz.prog 50 #[.int .i64 f, .int .i64 0] u fun e w' => e = .returned (.agg #[.int .i64 (cR f).1, .int .i64 (cR f).2.1, .int .i64 (cR f).2.2]) ∧ Below u.heap.size u w') := fun u hu => way_at f 0 u hf (by omega) (h.to hu)
  have OE : Hid (∀ u, Calls Tryz.prog 46 #[.agg #[.int .i64 (rX t).1, .int .i64 (rX t).2.1, .int .i64 (rX t).2.2, .int .i64 (rY t).1, .int .i64 (rY t).2.1, .int .i64 (rY t).2.2, .int .i64 (rZ t).1, .int .i64 (rZ t).2.1, .int .i64 (rZ t).2.2], .agg #[.int .i64 (cR f).1, .int .i64 (cR f).2.1, .int .i64 (cR f).2.2]] u fun e w' => e = .returned (.agg #[.int .i64 o.1, .int .i64 o.2.1, .int .i64 o.2.2]) ∧ Below u.heap.size u w') := fun u => by
    rw [← hro]; exact of_at (rX t) (rY t) (rZ t) (cR f) u (un_rX t ht) (un_rY t ht) (un_rZ t ht) (un_R hf).le
  have SD : Hid (∀ u, Ab w u → Calls Tryz.prog 49 #[.int .i64 f2, .agg #[.int .i64 o.1, .int .i64 o.2.1, .int .i64 o.2.2]] u fun e w' => e = .returned (.int .i64 q) ∧ Below u.heap.size u w') := fun u hu => sideOf_at f2 q o u hf2 hq ho (h.to hu)
  clear hm hp hr hpr ho hro h
  go_enter Tryz.func13, Tryz.ntmps13
  go_upto_region 4 with (first
    | (go_at_call 44; refine (PL.out _).mono ?_; rintro e w' ⟨rfl, k, rfl⟩)
    | (go_at_call 27; refine (CT.out _).mono ?_; rintro e w' ⟨rfl, rfl⟩))
  have A1 : Ab w (w.drewN k) := (Ab.refl w).drewN k
  go_wp2_with fail
  refine (RO.out _ A1).mono ?_
  rintro e w1 ⟨rfl, b1⟩
  have A2 := hid (A1.call b1)
  clear b1 A1 PL CT RO
  go_upto_region 5 with fail
  generalize hW : World.alloc w1 _ = W
  obtain ⟨g, hg⟩ : ∃ g, w1.heap.size = g := ⟨_, rfl⟩
  have r12 : W.heap[g]? = some (.cells #[.int .i64 (rX t).1, .int .i64 (rX t).2.1, .int .i64 (rX t).2.2, .int .i64 (rY t).1, .int .i64 (rY t).2.1, .int .i64 (rY t).2.2, .int .i64 (rZ t).1, .int .i64 (rZ t).2.1, .int .i64 (rZ t).2.2] 66) := by rw [← hW, ← hg]; exact heap_alloc_new _ _
  have A3 : Ab w W := by rw [← hW]; exact A2.out.alloc _
  rw [hg]
  clear hW hg A2
  obtain ⟨U, F, hF1, hF2⟩ := cls W
  have HF := hid hF2
  have HF1 := hid hF1
  have x0 : ∀ u, (F u).cell? ⟨g, 0, none⟩ = some (.int .i64 (rX t).1) := fun u => cell_of_row _ _ 0 _ _ _ ((hF1 u).heap r12)
  have x1 : ∀ u, (F u).cell? ⟨g, 1, none⟩ = some (.int .i64 (rX t).2.1) := fun u => cell_of_row _ _ 1 _ _ _ ((hF1 u).heap r12)
  have x2 : ∀ u, (F u).cell? ⟨g, 2, none⟩ = some (.int .i64 (rX t).2.2) := fun u => cell_of_row _ _ 2 _ _ _ ((hF1 u).heap r12)
  have x3 : ∀ u, (F u).cell? ⟨g, 3, none⟩ = some (.int .i64 (rY t).1) := fun u => cell_of_row _ _ 3 _ _ _ ((hF1 u).heap r12)
  have x4 : ∀ u, (F u).cell? ⟨g, 4, none⟩ = some (.int .i64 (rY t).2.1) := fun u => cell_of_row _ _ 4 _ _ _ ((hF1 u).heap r12)
  have x5 : ∀ u, (F u).cell? ⟨g, 5, none⟩ = some (.int .i64 (rY t).2.2) := fun u => cell_of_row _ _ 5 _ _ _ ((hF1 u).heap r12)
  have x6 : ∀ u, (F u).cell? ⟨g, 6, none⟩ = some (.int .i64 (rZ t).1) := fun u => cell_of_row _ _ 6 _ _ _ ((hF1 u).heap r12)
  have x7 : ∀ u, (F u).cell? ⟨g, 7, none⟩ = some (.int .i64 (rZ t).2.1) := fun u => cell_of_row _ _ 7 _ _ _ ((hF1 u).heap r12)
  have x8 : ∀ u, (F u).cell? ⟨g, 8, none⟩ = some (.int .i64 (rZ t).2.2) := fun u => cell_of_row _ _ 8 _ _ _ ((hF1 u).heap r12)
  have MI' := hid (fun u => MI.out (F u) (A3.trans (hF1 u)))
  have UN' := hid (fun u => UN.out (F u) (A3.trans (hF1 u)))
  have WY' := hid (fun u => WY.out (F u) (A3.trans (hF1 u)))
  have SD' := hid (fun u => SD.out (F u) (A3.trans (hF1 u)))
  have D := HF.out _ (Ab.refl W).drew
  have D2 := hid (fun u => HF.out _ (hF1 u).drew)
  have A3' := hid A3
  clear hF1 hF2 r12 MI UN WY SD A3
  refine region_cls F (by kernel_rfl) (by kernel_rfl) D ?_
  repeat (go_big_quiet_step (first
    | rfl
    | (go_at_call 47; exact calls_cls HF HF1 (MI'.out _))
    | (go_at_call 46; exact calls_cls HF HF1 (OF.out _))
    | (go_at_call 45; exact calls_cls HF HF1 (UN'.out _))))
  refine wpQuiet_nil ?_
  intro wz hwz
  obtain ⟨u, rfl⟩ := hwz
  clear MI' OF UN'
  go_wp2_with fail
  refine region_cls F (by kernel_rfl) (by kernel_rfl) (D2.out u) ?_
  repeat (go_big_quiet_step (first
    | rfl
    | (go_at_call 48; exact (CE.out _).mono (fun _ _ ⟨he, hw⟩ => ⟨he, _, hw⟩))
    | (go_at_call 50; exact calls_cls HF HF1 (WY'.out _))
    | (go_at_call 46; exact calls_cls HF HF1 (OE.out _))
    | (go_at_call 49; exact calls_cls HF HF1 (SD'.out _))))
  refine wpQuiet_nil ?_
  intro wz hwz
  obtain ⟨v, rfl⟩ := hwz
  go_wp2
  go_ret2
  exact ⟨rfl, A3'.out.trans (HF1.out v)⟩
set_option maxHeartbeats 4000000 in
theorem after1_at (k : Nat) (X Y Z : P3) (g0 : Nat) (w : World) (hk : k < 24) (h : Fr w) (ha : w.heap[g0]? = some (.cells #[.int .i64 X.1, .int .i64 X.2.1, .int .i64 X.2.2, .int .i64 Y.1, .int .i64 Y.2.1, .int .i64 Y.2.2, .int .i64 Z.1, .int .i64 Z.2.1, .int .i64 Z.2.2] 66)) :
    Calls Tryz.prog 31 #[.int .i64 k, .pointer (some ⟨g0, 0, none⟩)] w fun e w' => e = .returned (.bool (decide (rX k = X ∧ rY k = Y ∧ rZ k = Z))) ∧ Below w.heap.size w w' := by
  obtain ⟨U, F, hF1, hF2⟩ := cls w
  have HF := hid hF2
  have HF1 := hid hF1
  have x0 : ∀ u, (F u).cell? ⟨g0, 0, none⟩ = some (.int .i64 X.1) := fun u => cell_of_row _ _ 0 _ _ _ ((hF1 u).heap ha)
  have x1 : ∀ u, (F u).cell? ⟨g0, 1, none⟩ = some (.int .i64 X.2.1) := fun u => cell_of_row _ _ 1 _ _ _ ((hF1 u).heap ha)
  have x2 : ∀ u, (F u).cell? ⟨g0, 2, none⟩ = some (.int .i64 X.2.2) := fun u => cell_of_row _ _ 2 _ _ _ ((hF1 u).heap ha)
  have x3 : ∀ u, (F u).cell? ⟨g0, 3, none⟩ = some (.int .i64 Y.1) := fun u => cell_of_row _ _ 3 _ _ _ ((hF1 u).heap ha)
  have x4 : ∀ u, (F u).cell? ⟨g0, 4, none⟩ = some (.int .i64 Y.2.1) := fun u => cell_of_row _ _ 4 _ _ _ ((hF1 u).heap ha)
  have x5 : ∀ u, (F u).cell? ⟨g0, 5, none⟩ = some (.int .i64 Y.2.2) := fun u => cell_of_row _ _ 5 _ _ _ ((hF1 u).heap ha)
  have x6 : ∀ u, (F u).cell? ⟨g0, 6, none⟩ = some (.int .i64 Z.1) := fun u => cell_of_row _ _ 6 _ _ _ ((hF1 u).heap ha)
  have x7 : ∀ u, (F u).cell? ⟨g0, 7, none⟩ = some (.int .i64 Z.2.1) := fun u => cell_of_row _ _ 7 _ _ _ ((hF1 u).heap ha)
  have x8 : ∀ u, (F u).cell? ⟨g0, 8, none⟩ = some (.int .i64 Z.2.2) := fun u => cell_of_row _ _ 8 _ _ _ ((hF1 u).heap ha)
  have T := hid (fun u => rotationOf_at k (F u) hk (h.to (hF1 u)))
  have D := HF.out _ (Ab.refl w).drew
  have EQ : ∀ u, (Op.equalIn 10000 66 (.agg #[.int .i64 (rX k).1, .int .i64 (rX k).2.1, .int .i64 (rX k).2.2, .int .i64 (rY k).1, .int .i64 (rY k).2.1, .int .i64 (rY k).2.2, .int .i64 (rZ k).1, .int .i64 (rZ k).2.1, .int .i64 (rZ k).2.2]) (.agg #[.int .i64 X.1, .int .i64 X.2.1, .int .i64 X.2.2, .int .i64 Y.1, .int .i64 Y.2.1, .int .i64 Y.2.2, .int .i64 Z.1, .int .i64 Z.2.1, .int .i64 Z.2.2])).run Tryz.prog (F u) = .ok (decide (rX k = X ∧ rY k = Y ∧ rZ k = Z)) (F u) := fun u => ro_cmp _ _ _ _ _ _ _
  clear hF1 hF2 h ha hk
  go_enter Tryz.func31, Tryz.ntmps31
  go_wp2_with fail
  refine region_cls F (by kernel_rfl) (by kernel_rfl) D ?_
  repeat (go_big_quiet_step (first | rfl | (go_at_call 28; exact calls_cls HF HF1 (T.out _))))
  refine wpQuiet_nil ?_
  intro wz hwz
  obtain ⟨u, rfl⟩ := hwz
  go_wp2
  go_ret
  exact ⟨by simp, HF1.out u⟩
set_option maxHeartbeats 4000000 in
theorem after_ok (u t : Nat) (w : World) (hu : u < 24) (ht : t < 24) (h : Fr w) :
    Calls Tryz.prog 9 #[.int .i64 u, .int .i64 t] w fun e w' => e = .returned (.int .i64 (aft u t)) ∧ Below w.heap.size w w' := by
  have hmf : ∀ (fn : Fn) (first cap : Array Value) (w : World), (Instr.makeFunc fn first cap).run Tryz.prog w = .ok (.func fn first cap) w := fun _ _ _ _ => rfl
  have CU : Hid (∀ w, Calls Tryz.prog 27 #[.int .i64 u, .int .i64 24] w fun e w' => e = .returned (.bool true) ∧ w' = w) := fun w => by
    have := counts_at u 24 w
    rwa [show inR u 24 = true by rw [inR_iff]; omega] at this
  have CT : Hid (∀ w, Calls Tryz.prog 27 #[.int .i64 t, .int .i64 24] w fun e w' => e = .returned (.bool true) ∧ w' = w) := fun w => by
    have := counts_at t 24 w
    rwa [show inR t 24 = true by rw [inR_iff]; omega] at this
  obtain ⟨k, hk⟩ : ∃ k, aft u t = k := ⟨_, rfl⟩
  obtain ⟨k1, k2, k3, k4⟩ := aft_tab u hu t ht
  rw [hk] at k1 k2 k3 k4
  rw [hk]
  have R1 := hid (rotationOf_at t w ht h)
  have R2 := hid (fun (v : World) (hv : Ab w v) => rotationOf_at u v hu (h.to hv))
  have TH : Hid (∀ v, Calls Tryz.prog 29 #[.agg #[.int .i64 (rX t).1, .int .i64 (rX t).2.1, .int .i64 (rX t).2.2, .int .i64 (rY t).1, .int .i64 (rY t).2.1, .int .i64 (rY t).2.2, .int .i64 (rZ t).1, .int .i64 (rZ t).2.1, .int .i64 (rZ t).2.2], .agg #[.int .i64 (rX u).1, .int .i64 (rX u).2.1, .int .i64 (rX u).2.2, .int .i64 (rY u).1, .int .i64 (rY u).2.1, .int .i64 (rY u).2.2, .int .i64 (rZ u).1, .int .i64 (rZ u).2.1, .int .i64 (rZ u).2.2]] v fun e w' => e = .returned (.agg #[.int .i64 (rX k).1, .int .i64 (rX k).2.1, .int .i64 (rX k).2.2, .int .i64 (rY k).1, .int .i64 (rY k).2.1, .int .i64 (rY k).2.2, .int .i64 (rZ k).1, .int .i64 (rZ k).2.1, .int .i64 (rZ k).2.2]) ∧ Below v.heap.size v w') := fun v => by
    rw [k2, k3, k4]; exact then_at (rX t) (rY t) (rZ t) (rX u) (rY u) (rZ u) v (un_rX t ht) (un_rY t ht) (un_rZ t ht) (un_rX u hu) (un_rY u hu) (un_rZ u hu)
  have LE := hid (fun (v : World) (hv : Ab w v) (g : Nat) (hg : v.heap[g]? = some (.cells #[.int .i64 (rX k).1, .int .i64 (rX k).2.1, .int .i64 (rX k).2.2, .int .i64 (rY k).1, .int .i64 (rY k).2.1, .int .i64 (rY k).2.2, .int .i64 (rZ k).1, .int .i64 (rZ k).2.1, .int .i64 (rZ k).2.2] 66)) => least_a 24 k (fun j => decide (rX j = rX k ∧ rY j = rY k ∧ rZ j = rZ k)) g v (by decide) (by omega) (by simp)
    (fun j hj => by simp only [decide_eq_false_iff_not]; intro e; have := rot_inj k k1 j (by omega) e.1 e.2.1; omega)
    (hid (fun j hj w' hw => after1_at j (rX k) (rY k) (rZ k) g w' hj (h.to (hv.trans hw)) (hw.heap hg))))
  clear k2 k3 k4 hk h
  have hne : ¬ u = t ∨ u = t := by omega
  go_enter Tryz.func9, Tryz.ntmps9
  go_upto_region 3 with (first
    | (go_at_call_of 27 u; refine (CU.out _).mono ?_; rintro e w' ⟨rfl, rfl⟩)
    | (go_at_call_of 27 t; refine (CT.out _).mono ?_; rintro e w' ⟨rfl, rfl⟩))
  go_wp2_with fail
  refine R1.out.mono ?_
  rintro e w1 ⟨rfl, b1⟩
  have A1 : Ab _ w1 := b1
  go_wp2_with fail
  refine (R2.out _ A1).mono ?_
  rintro e w2 ⟨rfl, b2⟩
  have A2 := A1.call b2
  go_wp2_with fail
  refine (TH.out _).mono ?_
  rintro e w3 ⟨rfl, b3⟩
  have A3 := A2.call b3
  have L := hid (LE.out _ (A3.alloc _) w3.heap.size (heap_alloc_new _ _))
  have A4 := hid A3
  clear A1 A2 A3 b1 b2 b3 R1 R2 TH LE CU CT
  go_wp2_with fail
  refine L.out.mono ?_
  rintro e w4 ⟨rfl, b4⟩
  go_wp2
  go_ret
  exact ⟨rfl, (A4.out.alloc _).call b4⟩
end Go.Proofs.YtcmpiohiganliaaGreatDoor

namespace Go.Proofs.YtcmpiohiganliaaGreatDoor
open Go.RowKit Cu
theorem clN_nat {n : Nat} (hn : 1 ≤ n ∧ n ≤ 32) : clN n = (6 * n * n : Nat) := by
  unfold clN
  rw [if_pos (by omega)]
  simp
theorem place_ok (n c : Nat) (hn : 1 ≤ n ∧ n ≤ 32) (hc : c < 6 * n * n) (w : World) :
    Calls Tryz.prog 44 #[.int .i64 n, .int .i64 c] w fun e w' => e = .returned (.tuple #[.int .i64 (cf n c), .int .i64 (ci n c), .int .i64 (cj n c), .bool true]) ∧ ∃ k, w' = w.drewN k := by
  have h := place_at n c w
  have hin : inR c (clN n) = true := by rw [inR_iff, clN_nat hn]; omega
  rw [hin, show pF n c = (cf n c : Nat) by simp [pF, hin, cf], show pI n c = (ci n c : Nat) by simp [pI, hin, ci], show pJ n c = (cj n c : Nat) by simp [pJ, hin, cj]] at h
  exact h
theorem cN_nat {n f i j : Nat} (hn : 1 ≤ n ∧ n ≤ 32) (hf : f < 6) (hi : i < n) (hj : j < n) : cN n f i j = (nm n f i j : Nat) := by
  unfold cN
  rw [if_pos ⟨by omega, by rw [inR_iff]; omega, by rw [inR_iff]; omega, by rw [inR_iff]; omega⟩]
  simp [nm]
theorem sm_100 {p : P3} (h : (-100 ≤ p.1 ∧ p.1 ≤ 100) ∧ (-100 ≤ p.2.1 ∧ p.2.1 ≤ 100) ∧ (-100 ≤ p.2.2 ∧ p.2.2 ≤ 100)) : Sm p := by unfold Sm; omega
theorem sm_pl {p q : P3} (h : (-100 ≤ p.1 ∧ p.1 ≤ 100) ∧ (-100 ≤ p.2.1 ∧ p.2.1 ≤ 100) ∧ (-100 ≤ p.2.2 ∧ p.2.2 ≤ 100)) (k : Un q) : Sm (pl p q) := by unfold Un at k; simp only [Sm, pl]; omega
/-- BESIDE, where there is such a cell and side -/
theorem beside_at (n c s : Nat) (w : World) (hn : 1 ≤ n ∧ n ≤ 32) (hc : c < 6 * n * n) (hs : s < 4) (h : Fr w) :
    Calls Tryz.prog 66 #[.int .i64 n, .int .i64 c, .int .i64 s] w fun e w' => e = .returned (.tuple #[.int .i64 (bsC n c s), .int .i64 (bsS n c s)]) ∧ Below w.heap.size w w' := by
  obtain ⟨h1, h2, h3, h4⟩ := dec_lt hn.1 hc
  have hm := md_le h1 h2 h3 hn.2
  have he := at_ah (s := s) hs h2 h3
  have hl := ah_lt (s := s) h2 h3
  have hms : md n (cf n c) (ci n c) (cj n c) = ms n (cf n c) s (ah n s (ci n c) (cj n c)) (lf n s (ci n c) (cj n c)) := by
    have := md_ms (f := cf n c) h1 hs hl.1 hl.2
    rwa [he.1, he.2] at this
  obtain ⟨d1, d2⟩ := ms_step (n := n) (a := ah n s (ci n c) (cj n c)) (b := lf n s (ci n c) (cj n c)) h1 hs
  rw [← hms] at d1 d2
  obtain ⟨w1, w2⟩ := wy_back _ h1 s hs
  have PL := hid (place_ok n c hn hc)
  by_cases ha : ah n s (ci n c) (cj n c) + 1 < n
  · have k := at_lt (s := s) ha hl.2
    have hr := md_ms (f := cf n c) h1 hs ha hl.2
    have := beside_go n c (cf n c) (ci n c) (cj n c) s (cf n c) _ _ ((s + 2) % 4) _ _ _ _ _ w hn h1 hs h1 k.1 k.2 (by omega) h2 h3 h PL rfl rfl d1 (sm_100 hm) (sm_pl hm (un_wy h1)) hr rfl
      (Or.inl ⟨by omega, d2, w1⟩)
    rw [cN_nat hn h1 k.1 k.2] at this
    unfold bsC bsS
    rw [if_pos ha, if_pos ha]
    exact this
  · obtain ⟨n1, n2⟩ := nf_lt _ h1 s hs
    have h0 : 0 < n := by omega
    have k := at_lt (s := ns (cf n c) s) h0 hl.2
    have hr := md_ms n1 n2 h0 hl.2
    have hedge := ms_edge (n := n) (a := ah n s (ci n c) (cj n c)) (b := lf n s (ci n c) (cj n c)) h1 hs (by omega)
    rw [← hms] at hedge
    have := beside_go n c (cf n c) (ci n c) (cj n c) s (nf (cf n c) s) _ _ ((ns (cf n c) s + 2) % 4) _ _ _ _ _ w hn h1 hs n1 k.1 k.2 (by omega) h2 h3 h PL rfl rfl d1 (sm_100 hm) (sm_pl hm (un_wy h1)) hr rfl
      (Or.inr ⟨by omega, hedge, w2⟩)
    rw [cN_nat hn n1 k.1 k.2] at this
    unfold bsC bsS
    rw [if_neg ha, if_neg ha]
    exact this
/-- TURN -/
theorem turn_at (n t c : Nat) (w : World) (hn : 1 ≤ n ∧ n ≤ 32) (hc : c < 6 * n * n) (ht : t < 24) (h : Fr w) :
    Calls Tryz.prog 13 #[.int .i64 n, .int .i64 t, .int .i64 c] w fun e w' => e = .returned (.tuple #[.int .i64 (tnC n t c), .int .i64 (tnS n t c)]) ∧ Below w.heap.size w w' := by
  obtain ⟨h1, h2, h3, h4⟩ := dec_lt hn.1 hc
  obtain ⟨t1, t2⟩ := tf_lt t ht _ h1
  have k := at_lt (s := tq t (cf n c)) h2 h3
  have := turn_go n c (cf n c) (ci n c) (cj n c) t (tf t (cf n c)) _ _ (tq t (cf n c)) _ _ _ w hn h1 h2 h3 ht t1 k.1 k.2 t2 h (hid (place_ok n c hn hc)) rfl rfl (ro_md ht h1 h2 h3) rfl (ro_tab t ht _ h1).2.1
  rw [cN_nat hn t1 k.1 k.2] at this
  exact this
/-- awake -/
theorem cells_nat (n : Nat) (hn : 1 ≤ n ∧ n ≤ 32) (w : World) : Calls Tryz.prog 23 #[.int .i64 n] w fun e w' => e = .returned (.int .i64 (6 * n * n : Nat)) ∧ w' = w := by
  rw [← clN_nat hn]; exact cells_at n w
end Go.Proofs.YtcmpiohiganliaaGreatDoor

namespace Go.Proofs.YtcmpiohiganliaaGreatDoor
open Go.RowKit Cu
/-- a net with the edges of T sides -/
def GE (B n T gb mb : Nat) (es v3 v4 v5 v6 : Value) (w : World) : Prop :=
  w.heap[gb]? = some (.cells #[.int .i64 n, es, .map (some mb), v3, v4, v5, v6] 78) ∧ w.ownsRow B 107 4 es (eN n T) (edL n T) ∧ MapIs w mb (2 * T) (gT n T) ∧ (B ≤ gb ∧ B ≤ mb ∧ gb ≠ mb) ∧ es.ownBlock ≠ some gb ∧ es.ownBlock ≠ some mb
theorem GE.to {B n T gb mb : Nat} {es v3 v4 v5 v6 : Value} {w w' : World} (h : GE B n T gb mb es v3 v4 v5 v6 w) (a : Ab w w') : GE B n T gb mb es v3 v4 v5 v6 w' := by
  obtain ⟨h1, h2, h3, h4, h5⟩ := h
  refine ⟨a.heap h1, ?_, h3.block (Below.block a _ h3.lt), h4, h5⟩
  exact h2.kept (row := none) ⟨Below.os a, Below.tape a, Below.output a, Below.size a, fun k hk _ => Below.block a k hk⟩ (by cases es.ownBlock <;> simp)
theorem GE.cells {B n T gb mb : Nat} {es v3 v4 v5 v6 : Value} {w : World} (h : GE B n T gb mb es v3 v4 v5 v6 w) :
    w.cell? ⟨gb, 0, none⟩ = some (.int .i64 n) ∧ w.cell? ⟨gb, 1, none⟩ = some es ∧ w.cell? ⟨gb, 2, none⟩ = some (.map (some mb)) ∧ w.frozen? ⟨gb, 1, none⟩ = false :=
  ⟨cell_of_row _ _ 0 _ _ _ h.1, cell_of_row _ _ 1 _ _ _ h.1, cell_of_row _ _ 2 _ _ _ h.1, free_row h.1 1⟩
theorem GE.sl {B n T gb mb : Nat} {es v3 v4 v5 v6 : Value} {w : World} (h : GE B n T gb mb es v3 v4 v5 v6 w) : ∃ a0 cap, es = .slice a0 (eN n T) cap := by
  rcases h.2.1.2 with ⟨rfl, h0⟩ | ⟨g, cap, cur, rfl, _⟩
  · exact ⟨none, 0, by rw [h0]⟩
  · exact ⟨_, cap, rfl⟩
/-- what the two stores into the map leave -/
theorem GE.maps {B n T gb mb : Nat} {es v3 v4 v5 v6 : Value} {w1 w2 w3 : World} (h : GE B n T gb mb es v3 v4 v5 v6 w1) (g1 : w1.grownBy w2 (some mb)) (g2 : w2.grownBy w3 (some mb)) :
    w3.heap[gb]? = some (.cells #[.int .i64 n, es, .map (some mb), v3, v4, v5, v6] 78) ∧ w3.ownsRow B 107 4 es (eN n T) (edL n T) := by
  obtain ⟨h1, h2, h3, h4, h5⟩ := h
  have g := g1.trans g2
  exact ⟨(g.block gb (lt_of_block h1) (by simp; omega)).trans h1, h2.kept g (.inr h5.2)⟩
theorem grown_drew {w w' : World} {r : Option Nat} (h : w.drew.grownBy w' r) : w.grownBy w' r := ⟨h.os, h.tape, h.output, h.size, h.block⟩
theorem own_slice {w : World} {B : Nat} {e : TypeId} {sz k : Nat} {v : Value} {xs : List Value} (h : w.ownsRow B e sz v k xs) : ∃ a0 cap, v = .slice a0 k cap := by
  rcases h.2 with ⟨rfl, h0⟩ | ⟨g, cap, cur, rfl, _⟩
  · exact ⟨none, 0, by rw [h0]⟩
  · exact ⟨_, cap, rfl⟩
theorem row_after {w3 w5 : World} {o o' : Obj} {gb : Nat} {v : Value} (h : w3.heap[gb]? = some o) (hne : v.ownBlock ≠ some gb) (hg : (w3.alloc o').grownBy w5 v.ownBlock) : w5.heap[gb]? = some o :=
  (hg.block gb (by have := lt_of_block h; simp; omega) (fun e => hne e.symm)).trans ((Below.heap_alloc _ _ _ (lt_of_block h)).trans h)
theorem cell_four_new (w : World) (a b c d : Value) (t : TypeId) : ∀ j u, [a, b, c, d][j]? = some u → (w.alloc (.cells #[a, b, c, d] t)).cell? ((⟨w.heap.size, 0, none⟩ : Addr).add j) = some u := by
  intro j u hj
  have ha : (⟨w.heap.size, 0, none⟩ : Addr).add j = ⟨w.heap.size, j, none⟩ := by unfold Addr.add; split <;> simp_all
  rw [ha, cell_of_row _ _ j _ _ (0, 0) (heap_alloc_new w _)]
  simpa using hj
theorem GE.next {B n T gb mb : Nat} {es v v3 v4 v5 v6 : Value} {o' : Obj} {w1 w3 w5 : World} (hn : 1 ≤ n) (hT : T < 24 * n * n) (hl : isL n T = true) (G : GE B n T gb mb es v3 v4 v5 v6 w1) (hm : w1.grownBy w3 (some mb)) (hg : (w3.alloc o').grownBy w5 es.ownBlock)
    (R5 : w5.heap[gb]? = some (.cells #[.int .i64 n, es, .map (some mb), v3, v4, v5, v6] 78)) (ho : w5.ownsRow B 107 4 v (eN n T + 1) (edL n T ++ edV n T)) (hat : v.ownBlock = es.ownBlock ∨ v.ownBlock = some (w3.alloc o').heap.size)
    (M : MapIs w3 mb (2 * T + 1 + 1) (fun c s => if c = (bsC n (T / 4) (T % 4) : Nat) ∧ s = (bsS n (T / 4) (T % 4) : Nat) then (((eN n T : Nat) : Int), -1) else if c = (T / 4 : Nat) ∧ s = (T % 4 : Nat) then (((eN n T : Nat) : Int), 1) else gT n T c s)) :
    GE B n (T + 1) gb mb v v3 v4 v5 v6 (w5.setCell ⟨gb, 1, none⟩ v) := by
  obtain ⟨g1, g2, g3, g4, g5, g6⟩ := G
  have l1 := lt_of_block g1
  have l3 := hm.size
  have lm := M.lt
  have ne1 : v.ownBlock ≠ some gb := by
    rcases hat with h | h
    · rw [h]; exact g5
    · rw [h]; simp; omega
  have ne2 : v.ownBlock ≠ some mb := by
    rcases hat with h | h
    · rw [h]; exact g6
    · rw [h]; simp; omega
  have gs : w5.grownBy (w5.setCell ⟨gb, 1, none⟩ v) (some gb) := ⟨rfl, rfl, rfl, by simp [World.setCell], fun k _ hk => Below.heap_setCell _ _ _ _ (by simpa using hk)⟩
  refine ⟨?_, ?_, ?_, g4, ne1, ne2⟩
  · have := one_set (v := v) (k := 1) R5
    simpa using this
  · have h := ho.kept gs (.inr ne1)
    rw [← eN_step hl, ← edL_step hl] at h
    exact h
  · have e : (w5.setCell ⟨gb, 1, none⟩ v).heap[mb]? = w3.heap[mb]? :=
      (gs.block mb (by have := hg.size; simp at this; omega) (by simp; omega)).trans ((hg.block mb (by simp; omega) (fun e => g6 e.symm)).trans (Below.heap_alloc _ _ _ lm))
    have h := (M.block e).congr (fun c s _ _ => gT_step hn hT hl c s)
    exact h.mono (by omega)
theorem infoEdge : (Tryz.prog.info? 107).map (fun i => (i.zero, i.size, i.bytes)) = some (some (.agg #[.int .i64 0, .int .i64 0, .int .i64 0, .int .i64 0]), 4, 32) := by kernel_rfl
set_option maxRecDepth 100000 in
set_option maxHeartbeats 8000000 in
theorem addEdges_at (n N gb mb : Nat) (v3 v4 v5 v6 : Value) (w0 w : World) (hn : 1 ≤ n ∧ n ≤ 32) (hN : N = 6 * n * n) (hF : Fr w0) (A : Ab w0 w) (G : GE w0.heap.size n 0 gb mb (.slice none 0 0) v3 v4 v5 v6 w) :
    Calls Tryz.prog 36 #[.pointer (some ⟨gb, 0, none⟩), .int .i64 N] w fun e w' => e = .returned (.tuple #[]) ∧ Ab w0 w' ∧ ∃ es, GE w0.heap.size n (24 * n * n) gb mb es v3 v4 v5 v6 w' := by
  have HF := hid hF
  have HG := hid G
  have HA := hid A
  have HN := hid hN
  have HL : Hid (N ≤ 6144) := by
    show N ≤ 6144
    rw [hN, Nat.mul_assoc]
    have := Nat.mul_le_mul hn.2 hn.2
    omega
  have HE : Hid (24 * n * n = 4 * N) := by
    show 24 * n * n = 4 * N
    rw [hN, show 24 = 4 * 6 from rfl, Nat.mul_assoc 4 6 n, Nat.mul_assoc 4 (6 * n) n]
  obtain ⟨i0, hi, hz0, hz1, hz2⟩ := info_parts infoEdge
  have HI := hid (And.intro hi (And.intro hz0 (And.intro hz1 hz2)))
  have Hn := hid hn
  clear hF G A hN hi hz0 hz1 hz2 hn
  have hN' : (N : Int) ≤ 6144 := by have := HL.out; omega
  go_enter Tryz.func36, Tryz.ntmps36
  go_wp2
  go_loopw [9] (fun iv wr => ∃ c : Nat, c ≤ N ∧ iv = .int .i64 (c : Nat) ∧ Ab w0 wr ∧ ∃ es, GE w0.heap.size n (4 * c) gb mb es v3 v4 v5 v6 wr) (fun iv _ => N - (intOf iv).toNat)
  case atStart => exact ⟨0, by omega, rfl, HA.out, _, HG.out⟩
  case round =>
    obtain ⟨c, hc, rfl, A, es, G⟩ := hrel
    have A1 := hid A
    have G1 := hid G
    clear A G HG HA
    by_cases hcN : c < N
    · have hcN' : (c : Int) < N := by omega
      go_wp2
      go_loopw [12] (fun iv wr => ∃ s : Nat, s ≤ 4 ∧ iv = .int .i64 (s : Nat) ∧ Ab w0 wr ∧ ∃ es, GE w0.heap.size n (4 * c + s) gb mb es v3 v4 v5 v6 wr) (fun iv _ => 4 - (intOf iv).toNat)
      case atStart => exact ⟨0, by omega, rfl, A1.out, es, G1.out⟩
      case round =>
        clear A1 G1
        obtain ⟨s, hs, rfl, A, es', G⟩ := hrel
        by_cases hs4 : s < 4
        · have hs4' : (s : Int) < 4 := by omega
          obtain ⟨a0, cap, rfl⟩ := G.sl
          obtain ⟨c0, c1, c2, c3⟩ := G.cells
          have hc6 : c < 6 * n * n := by rw [← HN.out]; exact hcN
          have BE := hid (beside_at n c s wr Hn.out hc6 hs4 (HF.out.to A))
          have AA := hid A
          have GG := hid G
          have HT := hid (t_lt hc6 hs4)
          obtain ⟨d6, b4⟩ := bs_lt Hn.out.1 hc6 hs4
          have hd6 : bsC n c s < 6144 := by have := HL.out; rw [HN.out] at this; omega
          have hT4 := hid (t_dec (c := c) hs4)
          have hlis : Hid (isL n (4 * c + s) = decide (c < bsC n c s)) := by show isL n (4 * c + s) = _; unfold isL; rw [hT4.out.1, hT4.out.2]
          have hKle : Hid (eN n (4 * c + s) ≤ 12 * n * n) := by
            have := eN_mono (n := n) (Nat.le_of_lt HT.out); rw [eN_all Hn.out.1] at this; exact this
          have hKb : eN n (4 * c + s) ≤ 12288 := by
            have h1 := hKle.out; have h2 := HE.out; have h3 := HL.out
            have : 2 * (12 * n * n) = 24 * n * n := by rw [show 24 = 2 * 12 from rfl, Nat.mul_assoc 2 12 n, Nat.mul_assoc 2 (12 * n) n]
            omega
          obtain ⟨d, hd⟩ : ∃ d, bsC n c s = d := ⟨_, rfl⟩
          obtain ⟨b, hb⟩ : ∃ b, bsS n c s = b := ⟨_, rfl⟩
          obtain ⟨K, hK⟩ : ∃ K, eN n (4 * c + s) = K := ⟨_, rfl⟩
          rw [hd, hb] at BE
          rw [hd] at hlis d6 hd6
          rw [hb] at b4
          rw [hK] at hKb c1
          have GG' : Hid (GE w0.heap.size n (4 * c + s) gb mb (.slice a0 K cap) v3 v4 v5 v6 wr) := by rw [← hK]; exact GG.out
          have HD := hid (And.intro hd (And.intro hb hK))
          clear A G GG hd hb hK hKle hc6
          go_wp2_with fail
          refine BE.out.mono ?_
          rintro e w1 ⟨rfl, b1⟩
          have A2 : Hid (Ab w0 w1) := AA.out.call b1
          have G2 : Hid (GE w0.heap.size n (4 * c + s) gb mb (.slice a0 K cap) v3 v4 v5 v6 w1) := GG'.out.to b1
          clear c0 c1 c2 c3 AA GG' b1 BE
          by_cases hl : c < d
          · have hl' : (c : Int) < d := by omega
            have hisL : Hid (isL n (4 * c + s) = true) := by show _ = _; rw [hlis.out]; simp [hl]
            obtain ⟨w2, hu1, M1, g1⟩ := (G2.out.2.2.1.block (w' := w1.drew) rfl).upd (c := c) (s := s) (x := K) (y := 1) (by have := HL.out; have := HT.out; have := HE.out; omega) (by unfold W64; have := HL.out; omega) (by unfold W64; omega)
            obtain ⟨w3, hu2, M2, g2⟩ := (M1.block (w' := w2.drew) rfl).upd (c := d) (s := b) (x := K) (y := -1) (by have := HL.out; have := HT.out; have := HE.out; omega) (by unfold W64; omega) (by unfold W64; omega)
            replace g1 := grown_drew g1
            replace g2 := grown_drew g2
            obtain ⟨c0, c1, c2, c3⟩ := G2.out.cells
            have GM := hid (G2.out.maps g1 g2)
            have d1 : w2.cell? ⟨gb, 1, none⟩ = some (.slice a0 K cap) := g1.cell c1 (by have := G2.out.2.2.2.1.2.2; simp; omega)
            have d2 : w2.cell? ⟨gb, 2, none⟩ = some (.map (some mb)) := g1.cell c2 (by have := G2.out.2.2.2.1.2.2; simp; omega)
            have M2' := hid M2
            have g12 := hid (And.intro g1 g2)
            clear M1 M2 g1 g2
            go_upto_region 8 with fail
            go_region
            go_upto_region 9 with fail
            go_region
            clear c0 c1 c2 c3 d1 d2 hu1 hu2
            have c1 : w3.cell? ⟨gb, 1, none⟩ = some (.slice a0 K cap) := cell_of_row _ _ 1 _ _ _ GM.out.1
            have OW : Hid (w3.ownsRow w0.heap.size 107 4 (.slice a0 K cap) K (edL n (4 * c + s))) := by have h := GM.out.2; rw [HD.out.2.2] at h; exact h
            have A3 : Hid (Ab w0 w3) := (A2.out.grown (g12.out.1.trans g12.out.2) (Ab.size A2.out) (fun k hk => by cases hk; exact G2.out.2.2.2.1.2.1))
            obtain ⟨hi, hz0, hz1, hz2⟩ := HI.out
            go_upto_region 10 with fail
            go_wp2_with (first
              | (at_builtin; refine wpList_append_own_at _ rfl _ _ 75 rfl w0.heap.size 107 i0 (.agg #[.int .i64 0, .int .i64 0, .int .i64 0, .int .i64 0]) 4 32 Tryz.underlying75 hi hz0 hz1 hz2 rfl (by decide) _ _ _ rfl (OW.out.alloc _) ⟨w3.heap.size, 0, none⟩ 1 1 [.int .i64 c, .int .i64 s, .int .i64 d, .int .i64 b] rfl rfl (cell_four_new _ _ _ _ _ _) (by simp [Value.oneCell']) (by unfold maxLen; omega) (by omega) (by have := Ab.size A3.out; simp; omega) ?_; intro v' w5 ho hg _ hat; obtain ⟨a1, cap1, rfl⟩ := own_slice ho; have R5 := hid (row_after GM.out.1 G2.out.2.2.2.2.1 hg); have f1 := free_row R5.out 1; have x1 := cell_of_row _ _ 1 _ _ _ R5.out; have HO := hid (And.intro ho (And.intro hg hat)); clear ho hg hat))
            go_roundw
            case rel =>
              have hT := HT.out
              refine ⟨s + 1, by omega, by simp, ?_, (.slice a1 (K + 1) cap1), ?_⟩
              · exact Ab.setk (Below.grown (A3.out.alloc (.cells #[.int .i64 c, .int .i64 s, .int .i64 d, .int .i64 b] 107)) HO.out.2.1 (Ab.size (A3.out.alloc _)) (fun k hk => (OW.out.lt k hk).1)) G2.out.2.2.2.1.1 _
              · have e1 := hT4.out.1
                have e2 := hT4.out.2
                have e3 := HD.out
                have hed : edV n (4 * c + s) = [.int .i64 c, .int .i64 s, .int .i64 d, .int .i64 b] := by unfold edV; rw [e1, e2, e3.1, e3.2.1]
                refine GE.next (T := 4 * c + s) Hn.out.1 hT hisL.out G2.out (g12.out.1.trans g12.out.2) HO.out.2.1 R5.out ?_ HO.out.2.2 ?_
                · rw [hed, e3.2.2]; exact HO.out.1
                · rw [e1, e2, e3.1, e3.2.1, e3.2.2]; exact M2'.out
            case measure => simp [intOf]; omega
          · have hl' : ¬ (c : Int) < d := by omega
            have hisL : Hid (isL n (4 * c + s) = false) := by show _ = _; rw [hlis.out]; simp [hl]
            go_wp2
            go_roundw
            case rel =>
              refine ⟨s + 1, by omega, by simp, A2.out, (.slice a0 K cap), ?_⟩
              have g := G2.out
              have hh := hisL.out
              show GE w0.heap.size n (4 * c + s + 1) gb mb (.slice a0 K cap) v3 v4 v5 v6 w1
              exact ⟨g.1, by rw [eN_stay hh, edL_stay hh]; exact g.2.1, (g.2.2.1.congr (fun c' s' _ _ => gT_stay Hn.out.1 hh c' s')).mono (by omega), g.2.2.2⟩
            case measure => simp [intOf]; omega
        · obtain rfl : s = 4 := by omega
          have AA := hid A
          have GG := hid G
          clear A G
          go_wp2
          go_roundw
          case rel => exact ⟨c + 1, by omega, by simp, AA.out, _, GG.out⟩
          case measure => simp [intOf]; omega
    · obtain rfl : c = N := by omega
      go_wp2
      go_end0
      exact ⟨rfl, A1.out, es, by rw [HE.out]; exact G1.out⟩
end Go.Proofs.YtcmpiohiganliaaGreatDoor

namespace Go.Proofs.YtcmpiohiganliaaGreatDoor.Tf

/-- n / g to the nearest whole number, of two equally near the even one. -/
def rne (n g : Nat) : Nat := n / g + (if g < 2 * (n % g) ∨ (g = 2 * (n % g) ∧ n / g % 2 = 1) then 1 else 0)

theorem pow_pos (k : Nat) : 0 < 2 ^ k := Nat.two_pow_pos k

theorem shl_one (d : Nat) : 1 <<< d = 2 ^ d := by rw [Nat.shiftLeft_eq, Nat.one_mul]

theorem cut_even (neg : Bool) (n d : Nat) : Ieee.Toward.even.cut neg n d = rne n (2 ^ d) := by
  unfold Ieee.Toward.cut rne
  simp only [shl_one]
  by_cases h : d ≤ n.log2 + 2
  · rw [Nat.min_eq_left h]
    by_cases a : 2 ^ d < 2 * (n % 2 ^ d)
    · simp [a]
    · by_cases b : 2 ^ d = 2 * (n % 2 ^ d)
      · by_cases c : n / 2 ^ d % 2 = 1
        · simp [← b, c]
        · simp [← b, c]
      · simp [a, b]
  · rw [Nat.min_eq_right (by omega)]
    have h1 : n < 2 ^ (n.log2 + 1) := Nat.lt_log2_self
    have h2 : 2 ^ (n.log2 + 2) = 2 * 2 ^ (n.log2 + 1) := by rw [Nat.pow_succ]; omega
    have h3 : 2 ^ (n.log2 + 2) ≤ 2 ^ d := Nat.pow_le_pow_right (by omega) (by omega)
    have q1 : n / 2 ^ (n.log2 + 2) = 0 := Nat.div_eq_of_lt (by omega)
    have q2 : n / 2 ^ d = 0 := Nat.div_eq_of_lt (by omega)
    have r1 : n % 2 ^ (n.log2 + 2) = n := Nat.mod_eq_of_lt (by omega)
    have r2 : n % 2 ^ d = n := Nat.mod_eq_of_lt (by omega)
    rw [q1, q2, r1, r2]
    have a1 : ¬ 2 ^ (n.log2 + 2) < 2 * n := by omega
    have a2 : ¬ 2 ^ d < 2 * n := by omega
    simp [a1, a2]

theorem rne_one (n : Nat) : rne n 1 = n := by
  unfold rne; simp [Nat.mod_one]

theorem rne_mul (q g : Nat) (hg : 0 < g) : rne (q * g) g = q := by
  unfold rne
  rw [Nat.mul_mod_left, Nat.mul_div_cancel _ hg]
  have : ¬ (g < 2 * 0 ∨ g = 2 * 0 ∧ q % 2 = 1) := by omega
  rw [if_neg this]; omega

theorem rne_scale (n g c : Nat) (hc : 0 < c) : rne (n * c) (g * c) = rne n g := by
  unfold rne
  rw [Nat.mul_div_mul_right _ _ hc, Nat.mul_mod_mul_right]
  have e1 : (g * c < 2 * (n % g * c)) ↔ g < 2 * (n % g) := by
    rw [← Nat.mul_assoc]; exact Nat.mul_lt_mul_right hc
  have e2 : (g * c = 2 * (n % g * c)) ↔ g = 2 * (n % g) := by
    rw [← Nat.mul_assoc]; exact Nat.mul_left_inj (by omega)
  simp only [e1, e2]

/-- the magnitude of rung r, in units of the least place -/
def mag (p r : Nat) : Nat := if r < 2 ^ p then r else (2 ^ p + r % 2 ^ p) * 2 ^ (r / 2 ^ p - 1)

/-- the rung nearest to V / 2 ^ d units, without the end -/
def rung (p d V : Nat) : Nat := (V.log2 - (p + d)) * 2 ^ p + rne V (2 ^ (V.log2 - (p + d) + d))

theorem div_mod_succ (r g : Nat) (hg : 0 < g) : ((r + 1) % g = r % g + 1 ∧ (r + 1) / g = r / g) ∨ (r % g = g - 1 ∧ (r + 1) % g = 0 ∧ (r + 1) / g = r / g + 1) := by
  have h1 := Nat.div_add_mod r g
  have h2 := Nat.mod_lt r hg
  by_cases c : r % g + 1 < g
  · left
    have e : r + 1 = (r % g + 1) + g * (r / g) := by omega
    constructor
    · rw [e, Nat.add_mul_mod_self_left, Nat.mod_eq_of_lt c]
    · rw [e, Nat.add_mul_div_left _ _ hg, Nat.div_eq_of_lt c]; omega
  · right
    have e : r + 1 = g * (r / g + 1) := by rw [Nat.mul_add]; omega
    refine ⟨by omega, ?_, ?_⟩
    · rw [e, Nat.mul_mod_right]
    · rw [e, Nat.mul_div_cancel_left _ hg]

/-- the step from rung r to the next -/
def gap (p r : Nat) : Nat := 2 ^ (r / 2 ^ p - 1)

theorem gap_pos (p r : Nat) : 0 < gap p r := pow_pos _

theorem mag_succ (p r : Nat) : mag p (r + 1) = mag p r + gap p r := by
  have hp := pow_pos p
  unfold mag gap
  by_cases h : r < 2 ^ p
  · rw [if_pos h, Nat.div_eq_of_lt h]
    by_cases h' : r + 1 < 2 ^ p
    · rw [if_pos h']
    · have e : r + 1 = 2 ^ p := by omega
      rw [if_neg h', e, Nat.mod_self, Nat.div_self hp]; simp
  · rw [if_neg h, if_neg (by omega)]
    have hk : 1 ≤ r / 2 ^ p := (Nat.le_div_iff_mul_le hp).2 (by omega)
    rcases div_mod_succ r (2 ^ p) hp with ⟨a, b⟩ | ⟨a, b, c⟩
    · rw [a, b, ← Nat.add_assoc, Nat.add_mul _ 1, Nat.one_mul]
    · rw [b, c, a]
      obtain ⟨k, hk'⟩ : ∃ k, r / 2 ^ p = k + 1 := ⟨r / 2 ^ p - 1, by omega⟩
      rw [hk']
      simp only [Nat.add_sub_cancel, Nat.add_zero]
      rw [Nat.pow_succ 2 k]
      have : 2 ^ p + (2 ^ p - 1) = 2 * 2 ^ p - 1 := by omega
      rw [this, Nat.sub_mul, Nat.one_mul]
      have h1 : 2 ^ k ≤ 2 * 2 ^ p * 2 ^ k := Nat.le_mul_of_pos_left _ (by omega)
      have h2 : 2 ^ p * (2 ^ k * 2) = 2 * 2 ^ p * 2 ^ k := by rw [Nat.mul_comm (2 ^ k) 2, ← Nat.mul_assoc, Nat.mul_comm (2 ^ p) 2]
      omega

theorem mag_zero (p : Nat) : mag p 0 = 0 := by unfold mag; rw [if_pos (pow_pos p)]

theorem mag_lt_of_lt {p r r' : Nat} (h : r < r') : mag p r < mag p r' := by
  induction r' with
  | zero => omega
  | succ n ih =>
    have := gap_pos p n
    rw [mag_succ]
    by_cases c : r = n
    · subst c; omega
    · have := ih (by omega); omega

theorem mag_lt {p r r' : Nat} : mag p r < mag p r' ↔ r < r' := by
  constructor
  · intro h
    by_cases c : r < r'
    · exact c
    · by_cases e : r = r'
      · subst e; omega
      · have := mag_lt_of_lt (p := p) (show r' < r by omega); omega
  · exact mag_lt_of_lt

theorem mag_le {p r r' : Nat} : mag p r ≤ mag p r' ↔ r ≤ r' := by
  have := @mag_lt p r' r
  omega

theorem mag_inj {p r r' : Nat} : mag p r = mag p r' ↔ r = r' := by
  have := @mag_lt p r' r
  have := @mag_lt p r r'
  omega

theorem le_mag (p r : Nat) : r ≤ mag p r := by
  induction r with
  | zero => omega
  | succ n ih => have := gap_pos p n; rw [mag_succ]; omega

theorem log2_of {n k : Nat} (h : 2 ^ k ≤ n) (h' : n < 2 ^ (k + 1)) : n.log2 = k := by
  have : n ≠ 0 := by have := pow_pos k; omega
  exact (Nat.log2_eq_iff this).2 ⟨h, h'⟩

theorem log2_small {n k : Nat} (h : n < 2 ^ (k + 1)) : n.log2 ≤ k := by
  by_cases c : n = 0
  · subst c; simp
  · have := (Nat.log2_lt c).2 h; omega

/-- WHERE V LIES DECIDES WHAT IT IS ROUNDED TO. -/
theorem rung_between (p d r V : Nat) (hp : 1 ≤ p) (h1 : mag p r * 2 ^ d ≤ V) (h2 : V < mag p (r + 1) * 2 ^ d) :
    rung p d V = if (mag p r + mag p (r + 1)) * 2 ^ d < 2 * V ∨ ((mag p r + mag p (r + 1)) * 2 ^ d = 2 * V ∧ r % 2 = 1) then r + 1 else r := by
  have hp0 := pow_pos p
  have hd0 := pow_pos d
  rw [mag_succ] at h2 ⊢
  have hg := gap_pos p r
  by_cases h : r < 2 ^ p
  · have em : mag p r = r := by unfold mag; rw [if_pos h]
    have eg : gap p r = 1 := by unfold gap; rw [Nat.div_eq_of_lt h]
    rw [em, eg] at h2 ⊢
    rw [em] at h1
    have hV : V < 2 ^ (p + d) := by
      rw [Nat.pow_add]
      exact Nat.lt_of_lt_of_le h2 (Nat.mul_le_mul_right _ (by omega))
    have hl : V.log2 - (p + d) = 0 := by
      obtain ⟨q, hq⟩ : ∃ q, p + d = q + 1 := ⟨p + d - 1, by omega⟩
      rw [hq] at hV
      have := log2_small hV; omega
    have hq : V / 2 ^ d = r := Nat.div_eq_of_lt_le h1 h2
    have hm := Nat.div_add_mod V (2 ^ d)
    rw [hq, Nat.mul_comm] at hm
    unfold rung
    rw [hl, Nat.zero_add, Nat.zero_mul, Nat.zero_add]
    unfold rne
    rw [hq]
    have e2 : (r + (r + 1)) * 2 ^ d = 2 * (r * 2 ^ d) + 2 ^ d := by
      rw [← Nat.add_assoc, Nat.add_mul, Nat.one_mul, Nat.add_mul]; omega
    rw [e2]
    by_cases c : 2 ^ d < 2 * (V % 2 ^ d) ∨ (2 ^ d = 2 * (V % 2 ^ d) ∧ r % 2 = 1)
    · rw [if_pos c, if_pos (by omega)]
    · rw [if_neg c, if_neg (by omega)]; rfl
  · have hk : 1 ≤ r / 2 ^ p := (Nat.le_div_iff_mul_le hp0).2 (by omega)
    obtain ⟨k, hk'⟩ : ∃ k, r / 2 ^ p = k + 1 := ⟨r / 2 ^ p - 1, by omega⟩
    have eg : gap p r = 2 ^ k := by unfold gap; rw [hk']; rfl
    have em : mag p r = (2 ^ p + r % 2 ^ p) * 2 ^ k := by unfold mag; rw [if_neg h, hk']; rfl
    have hf := Nat.mod_lt r hp0
    have hdm := Nat.div_add_mod r (2 ^ p)
    rw [hk'] at hdm
    generalize hF : r % 2 ^ p = F at *
    have hk0 := pow_pos (k + d)
    have e1 : (2 ^ p + F) * 2 ^ k * 2 ^ d = (2 ^ p + F) * 2 ^ (k + d) := by rw [Nat.mul_assoc, ← Nat.pow_add]
    rw [em, eg, Nat.add_mul, e1, ← Nat.pow_add] at h2
    rw [em, e1] at h1
    rw [em, eg, ← Nat.add_assoc, Nat.add_mul _ (2 ^ k), Nat.add_mul, e1, ← Nat.pow_add]
    have hlo : 2 ^ (p + (k + d)) ≤ V := by
      rw [Nat.pow_add]
      exact Nat.le_trans (Nat.mul_le_mul_right _ (by omega)) h1
    have hhi : V < 2 ^ (p + (k + d) + 1) := by
      have : (2 ^ p + F) * 2 ^ (k + d) + 2 ^ (k + d) = (2 ^ p + F + 1) * 2 ^ (k + d) := by rw [Nat.add_mul _ 1, Nat.one_mul]
      have h3 : (2 ^ p + F + 1) * 2 ^ (k + d) ≤ (2 * 2 ^ p) * 2 ^ (k + d) := Nat.mul_le_mul_right _ (by omega)
      have h4 : (2 * 2 ^ p) * 2 ^ (k + d) = 2 ^ (p + (k + d) + 1) := by rw [Nat.pow_succ, Nat.pow_add 2 p, Nat.mul_comm _ 2, Nat.mul_assoc]
      omega
    have hlog := log2_of hlo hhi
    have es : V.log2 - (p + d) = k := by omega
    unfold rung
    rw [es]
    have hq : V / 2 ^ (k + d) = 2 ^ p + F := by
      refine Nat.div_eq_of_lt_le h1 ?_
      rw [Nat.add_mul _ 1, Nat.one_mul]; exact h2
    have hm := Nat.div_add_mod V (2 ^ (k + d))
    rw [hq, Nat.mul_comm] at hm
    unfold rne
    rw [hq]
    generalize hR : V % 2 ^ (k + d) = R at *
    generalize hA : (2 ^ p + F) * 2 ^ (k + d) = A at *
    generalize hG : 2 ^ (k + d) = G at *
    have hpar : (2 ^ p + F) % 2 = r % 2 := by
      obtain ⟨q, rfl⟩ : ∃ q, p = q + 1 := ⟨p - 1, by omega⟩
      rw [Nat.pow_succ] at hdm ⊢
      have : 2 ^ q * 2 * (k + 1) = 2 * (2 ^ q * (k + 1)) := by rw [Nat.mul_comm (2 ^ q) 2, Nat.mul_assoc]
      omega
    rw [hpar]
    have hr : k * 2 ^ p + (2 ^ p + F) = r := by
      rw [Nat.mul_add, Nat.mul_comm (2 ^ p) k] at hdm; omega
    by_cases c : G < 2 * R ∨ (G = 2 * R ∧ r % 2 = 1)
    · rw [if_pos c, if_pos (by omega)]; omega
    · rw [if_neg c, if_neg (by omega)]; omega

theorem floor_ex (p d V : Nat) : ∃ r, mag p r * 2 ^ d ≤ V ∧ V < mag p (r + 1) * 2 ^ d := by
  have hd := pow_pos d
  have key : ∀ n, V < mag p n * 2 ^ d → ∃ r, mag p r * 2 ^ d ≤ V ∧ V < mag p (r + 1) * 2 ^ d := by
    intro n
    induction n with
    | zero => intro h; rw [mag_zero] at h; omega
    | succ n ih =>
      intro h
      by_cases c : V < mag p n * 2 ^ d
      · exact ih c
      · exact ⟨n, by omega, h⟩
  refine key (V + 1) ?_
  have h1 := le_mag p (V + 1)
  have h2 : mag p (V + 1) * 1 ≤ mag p (V + 1) * 2 ^ d := Nat.mul_le_mul_left _ hd
  omega

theorem rung_mag (p d r : Nat) (hp : 1 ≤ p) : rung p d (mag p r * 2 ^ d) = r := by
  have hd := pow_pos d
  have := gap_pos p r
  have e := mag_succ p r
  have hlt : mag p r * 2 ^ d < mag p (r + 1) * 2 ^ d := (Nat.mul_lt_mul_right hd).2 (by omega)
  rw [rung_between p d r _ hp (Nat.le_refl _) hlt]
  have e2 : (mag p r + mag p (r + 1)) * 2 ^ d = mag p r * 2 ^ d + mag p (r + 1) * 2 ^ d := Nat.add_mul ..
  rw [if_neg (by omega)]

theorem rung_mag0 (p r : Nat) (hp : 1 ≤ p) : rung p 0 (mag p r) = r := by
  have := rung_mag p 0 r hp
  rwa [Nat.pow_zero, Nat.mul_one] at this

theorem rung_floor (p d r V : Nat) (hp : 1 ≤ p) (h1 : mag p r * 2 ^ d ≤ V) (h2 : V < mag p (r + 1) * 2 ^ d) : r ≤ rung p d V ∧ rung p d V ≤ r + 1 := by
  rw [rung_between p d r V hp h1 h2]; split <;> omega

theorem rung_mono {p d V V' : Nat} (hp : 1 ≤ p) (h : V ≤ V') : rung p d V ≤ rung p d V' := by
  have hd := pow_pos d
  obtain ⟨r, a, b⟩ := floor_ex p d V
  obtain ⟨r', a', b'⟩ := floor_ex p d V'
  have hr : r < r' + 1 := (mag_lt (p := p)).1 ((Nat.mul_lt_mul_right hd).1 (by omega))
  by_cases e : r = r'
  · subst e
    rw [rung_between p d r V hp a b, rung_between p d r V' hp a' b']
    split <;> split <;> omega
  · have h1 := rung_floor p d r V hp a b
    have h2 := rung_floor p d r' V' hp a' b'
    omega

/-- what lies between two rungs is rounded between them -/
theorem rung_ge {p d r V : Nat} (hp : 1 ≤ p) (h : mag p r * 2 ^ d ≤ V) : r ≤ rung p d V := by
  have := rung_mono (d := d) hp h
  rwa [rung_mag p d r hp] at this
theorem rung_le {p d r V : Nat} (hp : 1 ≤ p) (h : V ≤ mag p r * 2 ^ d) : rung p d V ≤ r := by
  have := rung_mono (d := d) hp h
  rwa [rung_mag p d r hp] at this

end Go.Proofs.YtcmpiohiganliaaGreatDoor.Tf

namespace Go.Proofs.YtcmpiohiganliaaGreatDoor.Tf
open Ieee

theorem log2_mul_pow (m c : Nat) (hm : m ≠ 0) : (m * 2 ^ c).log2 = m.log2 + c := by
  have h1 := Nat.log2_self_le hm
  have h2 : m < 2 ^ (m.log2 + 1) := Nat.lt_log2_self
  have hc := pow_pos c
  refine log2_of ?_ ?_
  · rw [Nat.pow_add]; exact Nat.mul_le_mul_right _ h1
  · rw [show m.log2 + c + 1 = (m.log2 + 1) + c from by omega, Nat.pow_add]
    exact (Nat.mul_lt_mul_right hc).2 h2

theorem shl (m c : Nat) : m <<< c = m * 2 ^ c := Nat.shiftLeft_eq ..

/-- a magnitude times a power of two, at a place that much lower, is the same number -/
theorem nearest_scale (f : Format) (neg : Bool) (m c : Nat) (place : Int) : f.nearest neg (m * 2 ^ c) place = f.nearest neg m (place + c) := by
  by_cases hm : m = 0
  · subst hm; simp [Format.nearest]
  · have hc := pow_pos c
    have hmc : m * 2 ^ c ≠ 0 := Nat.mul_ne_zero hm (by omega)
    unfold Format.nearest
    rw [if_neg hm, if_neg hmc, log2_mul_pow m c hm]
    have el : max (place + ((m.log2 + c : Nat) : Int) - f.fractionBits) f.leastPlace = max (place + c + (m.log2 : Nat) - f.fractionBits) f.leastPlace := by
      congr 1; omega
    simp only [el, cut_even, shl]
    generalize max (place + (c : Int) + (m.log2 : Nat) - (f.fractionBits : Int)) f.leastPlace = last
    congr 3
    by_cases h1 : 0 ≤ place - last
    · have a1 : (last - place).toNat = 0 := by omega
      have a2 : (last - (place + c)).toNat = 0 := by omega
      have a3 : (place + c - last).toNat = c + (place - last).toNat := by omega
      rw [a1, a2, a3, Nat.pow_zero, rne_one, rne_one, Nat.pow_add, Nat.mul_assoc]
    · have b1 : (place - last).toNat = 0 := by omega
      rw [b1, Nat.pow_zero, Nat.mul_one]
      by_cases h2 : 0 ≤ place + c - last
      · have a2 : (last - (place + c)).toNat = 0 := by omega
        have a3 : c = (place + c - last).toNat + (last - place).toNat := by omega
        rw [a2, Nat.pow_zero, rne_one]
        rw (occs := .pos [1]) [a3]
        rw [Nat.pow_add, ← Nat.mul_assoc, rne_mul _ _ (pow_pos _)]
      · have a2 : (place + c - last).toNat = 0 := by omega
        have a3 : (last - place).toNat = (last - (place + c)).toNat + c := by omega
        rw [a2, Nat.pow_zero, Nat.mul_one, a3, Nat.pow_add, rne_scale _ _ _ hc]

/-- the nearest word, by rungs: d places below the least one -/
theorem nearest_rung (f : Format) (neg : Bool) (m d : Nat) : f.nearest neg m (f.leastPlace - d) = f.word neg (min (rung f.fractionBits d m) f.infRung) := by
  unfold Format.nearest
  by_cases hm : m = 0
  · subst hm
    rw [if_pos rfl]
    have : rung f.fractionBits d 0 = 0 := by
      unfold rung
      simp [rne, Nat.zero_mod, Nat.zero_div]
    rw [this, Nat.zero_min]
  · rw [if_neg hm]
    have el : max (f.leastPlace - (d : Int) + (m.log2 : Nat) - (f.fractionBits : Int)) f.leastPlace = f.leastPlace + ((m.log2 - (f.fractionBits + d) : Nat) : Int) := by
      omega
    simp only [el, cut_even, shl]
    have a1 : (f.leastPlace - (d : Int) - (f.leastPlace + ((m.log2 - (f.fractionBits + d) : Nat) : Int))).toNat = 0 := by omega
    have a2 : (f.leastPlace + ((m.log2 - (f.fractionBits + d) : Nat) : Int) - (f.leastPlace - (d : Int))).toNat = m.log2 - (f.fractionBits + d) + d := by omega
    have a3 : (f.leastPlace + ((m.log2 - (f.fractionBits + d) : Nat) : Int) - f.leastPlace).toNat = m.log2 - (f.fractionBits + d) := by omega
    rw [a1, a2, a3, Nat.pow_zero, Nat.mul_one]
    rfl

/-- the sign bit of a word; its rung; is it finite? -/
def sg (f : Format) (x : Nat) : Bool := x / f.signWeight % 2 == 1
def rg (f : Format) (x : Nat) : Nat := x % f.signWeight
/-- its value in units of the least place, where it is finite -/
def sval (f : Format) (x : Nat) : Int := if sg f x then -(mag f.fractionBits (rg f x) : Int) else (mag f.fractionBits (rg f x) : Int)

theorem read_fin (f : Format) (x : Nat) (h : rg f x < f.infRung) : ∃ m a : Nat, f.read x = .number (sg f x) m (f.leastPlace + a) ∧ m * 2 ^ a = mag f.fractionBits (rg f x) := by
  unfold Format.read
  simp only []
  change rg f x < f.infRung at h
  unfold mag
  by_cases c : rg f x < f.binade
  · refine ⟨rg f x, 0, ?_, ?_⟩
    · rw [if_pos (show x % f.signWeight < f.binade from c)]; simp [sg, rg]
    · rw [if_pos (show rg f x < 2 ^ f.fractionBits from c)]; omega
  · refine ⟨f.binade + rg f x % f.binade, rg f x / f.binade - 1, ?_, ?_⟩
    · rw [if_neg (show ¬ x % f.signWeight < f.binade from c), if_pos (show x % f.signWeight < f.infRung from h)]; rfl
    · rw [if_neg (show ¬ rg f x < 2 ^ f.fractionBits from c)]; rfl

theorem read_inf (f : Format) (x : Nat) (he : f.binade ≤ f.infRung) (h : rg f x = f.infRung) : f.read x = .infinity (sg f x) := by
  unfold Format.read
  simp only []
  unfold rg at h
  rw [if_neg (by omega), if_neg (by omega), if_pos h]; rfl

theorem read_nan (f : Format) (x : Nat) (he : f.binade ≤ f.infRung) (h : f.infRung < rg f x) : f.read x = .nan (sg f x) (rg f x - f.infRung) := by
  unfold Format.read
  simp only []
  unfold rg at h
  rw [if_neg (by omega), if_neg (by omega), if_neg (by omega)]; rfl

/-- a NaN -/
def nan (f : Format) (x : Nat) : Prop := f.infRung < rg f x

theorem order_nan_left (f : Format) (x y : Nat) (he : f.binade ≤ f.infRung) (h : f.infRung < rg f x) : f.order x y = none := by
  unfold Format.order; rw [read_nan f x he h]; rfl
theorem order_nan_right (f : Format) (x y : Nat) (he : f.binade ≤ f.infRung) (h : f.infRung < rg f y) : f.order x y = none := by
  unfold Format.order; rw [read_nan f y he h]; cases f.read x <;> rfl

theorem signed_mul (s : Bool) (m a : Nat) (c : Nat) : Ieee.signed s m a * (2 ^ c : Nat) = Ieee.signed s (m * 2 ^ a) c := by
  unfold Ieee.signed
  simp only [shl]
  cases s
  · simp
  · simp [Int.neg_mul]

theorem signed_at (s : Bool) (m a b : Nat) (h : b ≤ a) : Ieee.signed s m (a - b) * ((2 ^ b : Nat) : Int) = if s then -((m * 2 ^ a : Nat) : Int) else ((m * 2 ^ a : Nat) : Int) := by
  rw [signed_mul]
  unfold Ieee.signed
  simp only [shl]
  have e : m * 2 ^ (a - b) * 2 ^ b = m * 2 ^ a := by
    rw [Nat.mul_assoc, ← Nat.pow_add, Nat.sub_add_cancel h]
  rw [e]

theorem compare_mul (a b c : Int) (hc : 0 < c) : compare (a * c) (b * c) = compare a b := by
  have h1 : a * c < b * c ↔ a < b := Int.mul_lt_mul_right hc
  have h2 : b * c < a * c ↔ b < a := Int.mul_lt_mul_right hc
  have h3 : a * c = b * c ↔ a = b := by omega
  simp only [compare, compareOfLessAndEq, h1, h3]

theorem order_fin (f : Format) (x y : Nat) (hx : rg f x < f.infRung) (hy : rg f y < f.infRung) : f.order x y = some (compare (sval f x) (sval f y)) := by
  obtain ⟨m, a, e1, v1⟩ := read_fin f x hx
  obtain ⟨n, b, e2, v2⟩ := read_fin f y hy
  unfold Format.order
  rw [e1, e2]
  simp only [Datum.order]
  have eb : min (f.leastPlace + (a : Int)) (f.leastPlace + (b : Int)) = f.leastPlace + ((min a b : Nat) : Int) := by omega
  rw [eb]
  have t1 : (f.leastPlace + (a : Int) - (f.leastPlace + ((min a b : Nat) : Int))).toNat = a - min a b := by omega
  have t2 : (f.leastPlace + (b : Int) - (f.leastPlace + ((min a b : Nat) : Int))).toNat = b - min a b := by omega
  rw [t1, t2]
  rw [← compare_mul _ _ ((2 ^ (min a b) : Nat) : Int) (by exact_mod_cast pow_pos _)]
  rw [signed_at _ _ _ _ (Nat.min_le_left a b), signed_at _ _ _ _ (Nat.min_le_right a b), v1, v2]
  rfl

/-- a whole number of units, rounded to a word; 'z': the sign of nothing -/
def rnd (f : Format) (z : Bool) (v : Int) : Nat := f.word (if v = 0 then z else decide (v < 0)) (min (rung f.fractionBits 0 v.natAbs) f.infRung)

theorem sum_fin (f : Format) (s t : Bool) (m n a b : Nat) :
    ((Datum.number s m (f.leastPlace + a)).sum (.number t n (f.leastPlace + b))).map f.write
      = some (rnd f (s && t) ((if s then -((m * 2 ^ a : Nat) : Int) else ((m * 2 ^ a : Nat) : Int)) + (if t then -((n * 2 ^ b : Nat) : Int) else ((n * 2 ^ b : Nat) : Int)))) := by
  simp only [Datum.sum, Option.map, Format.write]
  have eb : min (f.leastPlace + (a : Int)) (f.leastPlace + (b : Int)) = f.leastPlace + ((min a b : Nat) : Int) := by omega
  rw [eb]
  have t1 : (f.leastPlace + (a : Int) - (f.leastPlace + ((min a b : Nat) : Int))).toNat = a - min a b := by omega
  have t2 : (f.leastPlace + (b : Int) - (f.leastPlace + ((min a b : Nat) : Int))).toNat = b - min a b := by omega
  rw [t1, t2]
  have hv : (Ieee.signed s m (a - min a b) + Ieee.signed t n (b - min a b)) * ((2 ^ (min a b) : Nat) : Int) = (if s then -((m * 2 ^ a : Nat) : Int) else ((m * 2 ^ a : Nat) : Int)) + (if t then -((n * 2 ^ b : Nat) : Int) else ((n * 2 ^ b : Nat) : Int)) := by
    rw [Int.add_mul, signed_at _ _ _ _ (Nat.min_le_left a b), signed_at _ _ _ _ (Nat.min_le_right a b)]
  rw [← hv]
  generalize Ieee.signed s m (a - min a b) + Ieee.signed t n (b - min a b) = total
  generalize min a b = c
  have hc : (0 : Int) < ((2 ^ c : Nat) : Int) := by exact_mod_cast pow_pos c
  unfold rnd
  have n1 : (total * ((2 ^ c : Nat) : Int)).natAbs = total.natAbs * 2 ^ c := by rw [Int.natAbs_mul, Int.natAbs_natCast]
  have n2 : total * ((2 ^ c : Nat) : Int) = 0 ↔ total = 0 := by
    rw [Int.mul_eq_zero]; omega
  have n3 : total * ((2 ^ c : Nat) : Int) < 0 ↔ total < 0 := by
    have : total * ((2 ^ c : Nat) : Int) < 0 * ((2 ^ c : Nat) : Int) ↔ total < 0 := Int.mul_lt_mul_right hc
    rw [Int.zero_mul] at this; exact this
  rw [n1]
  simp only [n2, n3]
  rw [← nearest_scale]
  have := nearest_rung f (if total = 0 then s && t else decide (total < 0)) (total.natAbs * 2 ^ c) 0
  rw [show f.leastPlace - ((0 : Nat) : Int) = f.leastPlace from by omega] at this
  rw [this]

theorem add_fin (f : Format) (x y : Nat) (hx : rg f x < f.infRung) (hy : rg f y < f.infRung) : f.add x y = some (rnd f (sg f x && sg f y) (sval f x + sval f y)) := by
  obtain ⟨m, a, e1, v1⟩ := read_fin f x hx
  obtain ⟨n, b, e2, v2⟩ := read_fin f y hy
  unfold Format.add
  rw [e1, e2, sum_fin, v1, v2]
  rfl

/-- a product: of the magnitudes' product, so many places below the least one -/
theorem mul_fin (f : Format) (x y d : Nat) (hd : f.leastPlace = -(d : Int)) (hx : rg f x < f.infRung) (hy : rg f y < f.infRung) :
    f.mul x y = some (f.word (sg f x ^^ sg f y) (min (rung f.fractionBits d (mag f.fractionBits (rg f x) * mag f.fractionBits (rg f y))) f.infRung)) := by
  obtain ⟨m, a, e1, v1⟩ := read_fin f x hx
  obtain ⟨n, b, e2, v2⟩ := read_fin f y hy
  unfold Format.mul
  rw [e1, e2]
  simp only [Datum.product, Option.map, Format.write]
  rw [← nearest_rung, ← v1, ← v2]
  have e : m * 2 ^ a * (n * 2 ^ b) = m * n * 2 ^ (a + b) := by
    rw [Nat.pow_add]; simp only [Nat.mul_assoc, Nat.mul_left_comm]
  rw [e, nearest_scale]
  congr 2
  omega

end Go.Proofs.YtcmpiohiganliaaGreatDoor.Tf
