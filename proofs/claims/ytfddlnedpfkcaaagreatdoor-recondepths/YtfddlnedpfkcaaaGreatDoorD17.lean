/-
  Some of the texts of this proof, one behind the other.
-/
import Derived.Deep.QuietTactic
import Derived.Deep.RegionWith
import Derived.Deep.AppendLies
import Derived.OwnWalk
import Derived.Laws.StructEq
import Derived.Test.YtfddlnedpfkcaaaGreatDoorD16
namespace Go.Proofs.YtfddlnedpfkcaaaGreatDoor
open Go.RowKit Tf Cu
attribute [local go_sem] run_bits run_from raw_feq raw_fne raw_flt raw_fgt run_neg run_store_float
set_option maxRecDepth 100000 in
set_option maxHeartbeats 8000000 in
theorem dps12_nil (pb pw pt ps : Option Addr) (lb cb lw cw lt ct ls cs : Nat) (sky st : Int) (k : Int) (w : World) :
    Calls Tryz.prog 5 #[.pointer none, .int .i64 k, .agg #[.slice pb lb cb, .slice pw lw cw, .slice pt lt ct, .slice ps ls cs, .int .i64 sky, .int .i64 st]] w fun e w' => e = .returned (.tuple #[.slice none 0 0, .int .i64 2]) ∧ Below w.heap.size w w' := by
  have A0 : Hid (Ab w (w.alloc (.cells #[.slice pb lb cb, .slice pw lw cw, .slice pt lt ct, .slice ps ls cs, .int .i64 sky, .int .i64 st] 25))) := bl1 _ _
  go_enter Tryz.func5, Tryz.ntmps5
  go_wp2
  go_ret2
  exact ⟨rfl, A0.out⟩
set_option maxRecDepth 100000 in
set_option maxHeartbeats 8000000 in
theorem dps12_no (gb : Nat) (pb pw pt ps : Option Addr) (lb cb lw cw lt ct ls cs : Nat) (sky st : Int) (k : Int) (N : Nat) (fq vq : Bool) (w : World)
    (hq : fq = false ∨ (fq = true ∧ ((ls : Int) != (N : Int)) = true) ∨ (fq = true ∧ ((ls : Int) != (N : Int)) = false ∧ vq = false))
    (CF : Hid (∀ v, Ab w v → Calls Tryz.prog 13 #[(.pointer (some ⟨gb, 0, none⟩)), .agg #[.slice pb lb cb, .slice pw lw cw, .slice pt lt ct, .slice ps ls cs, .int .i64 sky, .int .i64 st]] v fun e w' => e = .returned (.bool fq) ∧ Below v.heap.size v w'))
    (CE : Hid (∀ v, Ab w v → Calls Tryz.prog 14 #[(.pointer (some ⟨gb, 0, none⟩))] v fun e w' => e = .returned (.int .i64 (N : Nat)) ∧ Below v.heap.size v w'))
    (CVa : Hid (∀ v : World, Calls Tryz.prog 15 #[.int .i64 k] v fun e w' => e = .returned (.bool vq) ∧ Below v.heap.size v w')) :
    Calls Tryz.prog 5 #[(.pointer (some ⟨gb, 0, none⟩)), .int .i64 k, .agg #[.slice pb lb cb, .slice pw lw cw, .slice pt lt ct, .slice ps ls cs, .int .i64 sky, .int .i64 st]] w fun e w' => e = .returned (.tuple #[.slice none 0 0, .int .i64 1]) ∧ Below w.heap.size w w' := by
  have A0 : Hid (Ab w (w.alloc (.cells #[.slice pb lb cb, .slice pw lw cw, .slice pt lt ct, .slice ps ls cs, .int .i64 sky, .int .i64 st] 25))) := bl1 _ _
  have RO : Hid ((w.alloc (.cells #[.slice pb lb cb, .slice pw lw cw, .slice pt lt ct, .slice ps ls cs, .int .i64 sky, .int .i64 st] 25)).heap[w.heap.size]? = some (.cells #[.slice pb lb cb, .slice pw lw cw, .slice pt lt ct, .slice ps ls cs, .int .i64 sky, .int .i64 st] 25)) := heap_alloc_new _ _
  go_enter Tryz.func5, Tryz.ntmps5
  go_upto_region 3 with fail
  generalize hW : World.alloc w _ = W at *
  obtain ⟨gs, hgs⟩ : ∃ g, w.heap.size = g := ⟨_, rfl⟩
  rw [hgs] at RO ⊢
  have HGS := hid hgs
  clear hgs hW
  rcases hq with rfl | ⟨rfl, q2⟩ | ⟨rfl, q2, rfl⟩
  · obtain ⟨UU, E, hF1, hF2⟩ := cls W
    have HU := hid hF2
    have HU1 := hid hF1
    have HX : Hid (∀ u, Ab w (E u)) := fun u => Ab.trans A0.out (hF1 u)
    have s0 : ∀ u, (E u).cell? ⟨gs, 0, none⟩ = some (.slice pb lb cb) := fun u => cell_of_row _ _ 0 _ _ _ ((hF1 u).heap RO.out)
    have s1 : ∀ u, (E u).cell? ⟨gs, 1, none⟩ = some (.slice pw lw cw) := fun u => cell_of_row _ _ 1 _ _ _ ((hF1 u).heap RO.out)
    have s2 : ∀ u, (E u).cell? ⟨gs, 2, none⟩ = some (.slice pt lt ct) := fun u => cell_of_row _ _ 2 _ _ _ ((hF1 u).heap RO.out)
    have s3 : ∀ u, (E u).cell? ⟨gs, 3, none⟩ = some (.slice ps ls cs) := fun u => cell_of_row _ _ 3 _ _ _ ((hF1 u).heap RO.out)
    have s4 : ∀ u, (E u).cell? ⟨gs, 4, none⟩ = some (.int .i64 sky) := fun u => cell_of_row _ _ 4 _ _ _ ((hF1 u).heap RO.out)
    have s5 : ∀ u, (E u).cell? ⟨gs, 5, none⟩ = some (.int .i64 st) := fun u => cell_of_row _ _ 5 _ _ _ ((hF1 u).heap RO.out)
    have DD0 := HU.out _ (Ab.refl W).drew
    clear hF1 hF2
    refine region_cls E (by kernel_rfl) (by kernel_rfl) DD0 ?_
    repeat (go_big_quiet_step (first
      | (with_reducible rfl)
      | (go_at_call 13; exact calls_cls HU HU1 (CF.out _ (HX.out _)))
      | (go_at_call 14; exact calls_cls HU HU1 (CE.out _ (HX.out _)))
      | (go_at_call 15; exact calls_cls HU HU1 (CVa.out _))))
    refine wpQuiet_nil ?_
    intro z hwz
    obtain ⟨u0, hu⟩ := hwz
    have AZ : Hid (Ab w z) := by rw [hu]; exact HX.out u0
    clear hu u0
    clear HU HU1 HX DD0 s0 s1 s2 s3 s4 s5
    clear E UU
    go_wp2
    go_ret2
    exact ⟨rfl, AZ.out⟩
  · obtain ⟨UU, E, hF1, hF2⟩ := cls W
    have HU := hid hF2
    have HU1 := hid hF1
    have HX : Hid (∀ u, Ab w (E u)) := fun u => Ab.trans A0.out (hF1 u)
    have s0 : ∀ u, (E u).cell? ⟨gs, 0, none⟩ = some (.slice pb lb cb) := fun u => cell_of_row _ _ 0 _ _ _ ((hF1 u).heap RO.out)
    have s1 : ∀ u, (E u).cell? ⟨gs, 1, none⟩ = some (.slice pw lw cw) := fun u => cell_of_row _ _ 1 _ _ _ ((hF1 u).heap RO.out)
    have s2 : ∀ u, (E u).cell? ⟨gs, 2, none⟩ = some (.slice pt lt ct) := fun u => cell_of_row _ _ 2 _ _ _ ((hF1 u).heap RO.out)
    have s3 : ∀ u, (E u).cell? ⟨gs, 3, none⟩ = some (.slice ps ls cs) := fun u => cell_of_row _ _ 3 _ _ _ ((hF1 u).heap RO.out)
    have s4 : ∀ u, (E u).cell? ⟨gs, 4, none⟩ = some (.int .i64 sky) := fun u => cell_of_row _ _ 4 _ _ _ ((hF1 u).heap RO.out)
    have s5 : ∀ u, (E u).cell? ⟨gs, 5, none⟩ = some (.int .i64 st) := fun u => cell_of_row _ _ 5 _ _ _ ((hF1 u).heap RO.out)
    have DD0 := HU.out _ (Ab.refl W).drew
    clear hF1 hF2
    refine region_cls E (by kernel_rfl) (by kernel_rfl) DD0 ?_
    repeat (go_big_quiet_step (first
      | (with_reducible rfl)
      | (go_at_call 13; exact calls_cls HU HU1 (CF.out _ (HX.out _)))
      | (go_at_call 14; exact calls_cls HU HU1 (CE.out _ (HX.out _)))
      | (go_at_call 15; exact calls_cls HU HU1 (CVa.out _))))
    refine wpQuiet_nil ?_
    intro z hwz
    obtain ⟨u0, hu⟩ := hwz
    have AZ : Hid (Ab w z) := by rw [hu]; exact HX.out u0
    clear hu u0
    clear HU HU1 HX DD0 s0 s1 s2 s3 s4 s5
    clear E UU
    go_wp2
    go_ret2
    exact ⟨rfl, AZ.out⟩
  · obtain ⟨UU, E, hF1, hF2⟩ := cls W
    have HU := hid hF2
    have HU1 := hid hF1
    have HX : Hid (∀ u, Ab w (E u)) := fun u => Ab.trans A0.out (hF1 u)
    have s0 : ∀ u, (E u).cell? ⟨gs, 0, none⟩ = some (.slice pb lb cb) := fun u => cell_of_row _ _ 0 _ _ _ ((hF1 u).heap RO.out)
    have s1 : ∀ u, (E u).cell? ⟨gs, 1, none⟩ = some (.slice pw lw cw) := fun u => cell_of_row _ _ 1 _ _ _ ((hF1 u).heap RO.out)
    have s2 : ∀ u, (E u).cell? ⟨gs, 2, none⟩ = some (.slice pt lt ct) := fun u => cell_of_row _ _ 2 _ _ _ ((hF1 u).heap RO.out)
    have s3 : ∀ u, (E u).cell? ⟨gs, 3, none⟩ = some (.slice ps ls cs) := fun u => cell_of_row _ _ 3 _ _ _ ((hF1 u).heap RO.out)
    have s4 : ∀ u, (E u).cell? ⟨gs, 4, none⟩ = some (.int .i64 sky) := fun u => cell_of_row _ _ 4 _ _ _ ((hF1 u).heap RO.out)
    have s5 : ∀ u, (E u).cell? ⟨gs, 5, none⟩ = some (.int .i64 st) := fun u => cell_of_row _ _ 5 _ _ _ ((hF1 u).heap RO.out)
    have DD0 := HU.out _ (Ab.refl W).drew
    clear hF1 hF2
    refine region_cls E (by kernel_rfl) (by kernel_rfl) DD0 ?_
    repeat (go_big_quiet_step (first
      | (with_reducible rfl)
      | (go_at_call 13; exact calls_cls HU HU1 (CF.out _ (HX.out _)))
      | (go_at_call 14; exact calls_cls HU HU1 (CE.out _ (HX.out _)))
      | (go_at_call 15; exact calls_cls HU HU1 (CVa.out _))))
    refine wpQuiet_nil ?_
    intro z hwz
    obtain ⟨u0, hu⟩ := hwz
    have AZ : Hid (Ab w z) := by rw [hu]; exact HX.out u0
    clear hu u0
    clear HU HU1 HX DD0 s0 s1 s2 s3 s4 s5
    clear E UU
    go_wp2
    go_ret2
    exact ⟨rfl, AZ.out⟩
set_option maxRecDepth 100000 in
set_option maxHeartbeats 8000000 in
theorem dps12_go (gb : Nat) (pb pw pt : Option Addr) (lb cb lw cw lt ct sb so cs : Nat) (sky st : Int) (k : Int) (N : Nat) (Sp D : Nat → Nat) (w : World) (hN : N ≤ 1048576)
    (CF : Hid (∀ v, Ab w v → Calls Tryz.prog 13 #[(.pointer (some ⟨gb, 0, none⟩)), .agg #[.slice pb lb cb, .slice pw lw cw, .slice pt lt ct, .slice (some ⟨sb, so, none⟩) N cs, .int .i64 sky, .int .i64 st]] v fun e w' => e = .returned (.bool true) ∧ Below v.heap.size v w'))
    (CE : Hid (∀ v, Ab w v → Calls Tryz.prog 14 #[(.pointer (some ⟨gb, 0, none⟩))] v fun e w' => e = .returned (.int .i64 (N : Nat)) ∧ w' = v))
    (CVa : Hid (∀ v : World, Calls Tryz.prog 15 #[.int .i64 k] v fun e w' => e = .returned (.bool true) ∧ Below v.heap.size v w'))
    (FSp : Hid (∀ c, c < N → ∀ v, Ab w v → v.cell? ⟨sb, so + c, none⟩ = some (.float .f64 (Sp c))))
    (CD : Hid (∀ c, c < N → ∀ v, Ab w v → Calls Tryz.prog 11 #[(.pointer (some ⟨gb, 0, none⟩)), .int .i64 k, .agg #[.slice pb lb cb, .slice pw lw cw, .slice pt lt ct, .slice (some ⟨sb, so, none⟩) N cs, .int .i64 sky, .int .i64 st], .int .i64 (c : Nat), .float .f64 (Sp c)] v fun e w' => e = .returned (.float .f64 (D c)) ∧ Below v.heap.size v w')) :
    Calls Tryz.prog 5 #[(.pointer (some ⟨gb, 0, none⟩)), .int .i64 k, .agg #[.slice pb lb cb, .slice pw lw cw, .slice pt lt ct, .slice (some ⟨sb, so, none⟩) N cs, .int .i64 sky, .int .i64 st]] w fun e w' => ∃ b, e = .returned (.tuple #[.slice (some ⟨b, 0, none⟩) N N, .int .i64 0]) ∧ Below w.heap.size w w' ∧ w'.rowIs b 43 N (fun i => .float .f64 (D i)) ∧ w.heap.size ≤ b := by
  have M1 : ∀ v : World, (Instr.makeSlice 22 (.int .i64 (N : Nat)) (.int .i64 (N : Nat))).run Tryz.prog v = .ok (.slice (some ⟨v.heap.size, 0, none⟩) N N) (v.alloc (Obj.cells (madeCells #[.float .f64 0] N) 43)) := fun v =>
    run_make_row' (P := Tryz.prog) 22 43 (.float .f64 0) 8 Tryz.underlying22 infoF64 rfl .i64 .i64 N (by omega) (by omega) v
  have CEb : Hid (∀ v, Ab w v → Calls Tryz.prog 14 #[(.pointer (some ⟨gb, 0, none⟩))] v fun e w' => e = .returned (.int .i64 (N : Nat)) ∧ Below v.heap.size v w') := fun v hv => (CE.out v hv).mono fun _ _ h => ⟨h.1, by obtain ⟨_, rfl⟩ := h; exact Below.refl _ _⟩
  have HN := hid hN
  have q2 : ((N : Int) != (N : Int)) = false := by simp
  clear hN
  have A0 : Hid (Ab w (w.alloc (.cells #[.slice pb lb cb, .slice pw lw cw, .slice pt lt ct, .slice (some ⟨sb, so, none⟩) N cs, .int .i64 sky, .int .i64 st] 25))) := bl1 _ _
  have RO : Hid ((w.alloc (.cells #[.slice pb lb cb, .slice pw lw cw, .slice pt lt ct, .slice (some ⟨sb, so, none⟩) N cs, .int .i64 sky, .int .i64 st] 25)).heap[w.heap.size]? = some (.cells #[.slice pb lb cb, .slice pw lw cw, .slice pt lt ct, .slice (some ⟨sb, so, none⟩) N cs, .int .i64 sky, .int .i64 st] 25)) := heap_alloc_new _ _
  go_enter Tryz.func5, Tryz.ntmps5
  go_upto_region 3 with fail
  generalize hW : World.alloc w _ = W at *
  obtain ⟨gs, hgs⟩ : ∃ g, w.heap.size = g := ⟨_, rfl⟩
  rw [hgs] at RO ⊢
  have HGS := hid hgs
  clear hgs hW
  obtain ⟨UU, E, hF1, hF2⟩ := cls W
  have HU := hid hF2
  have HU1 := hid hF1
  have HX : Hid (∀ u, Ab w (E u)) := fun u => Ab.trans A0.out (hF1 u)
  have s0 : ∀ u, (E u).cell? ⟨gs, 0, none⟩ = some (.slice pb lb cb) := fun u => cell_of_row _ _ 0 _ _ _ ((hF1 u).heap RO.out)
  have s1 : ∀ u, (E u).cell? ⟨gs, 1, none⟩ = some (.slice pw lw cw) := fun u => cell_of_row _ _ 1 _ _ _ ((hF1 u).heap RO.out)
  have s2 : ∀ u, (E u).cell? ⟨gs, 2, none⟩ = some (.slice pt lt ct) := fun u => cell_of_row _ _ 2 _ _ _ ((hF1 u).heap RO.out)
  have s3 : ∀ u, (E u).cell? ⟨gs, 3, none⟩ = some (.slice (some ⟨sb, so, none⟩) N cs) := fun u => cell_of_row _ _ 3 _ _ _ ((hF1 u).heap RO.out)
  have s4 : ∀ u, (E u).cell? ⟨gs, 4, none⟩ = some (.int .i64 sky) := fun u => cell_of_row _ _ 4 _ _ _ ((hF1 u).heap RO.out)
  have s5 : ∀ u, (E u).cell? ⟨gs, 5, none⟩ = some (.int .i64 st) := fun u => cell_of_row _ _ 5 _ _ _ ((hF1 u).heap RO.out)
  have DD0 := HU.out _ (Ab.refl W).drew
  clear hF1 hF2
  refine region_cls E (by kernel_rfl) (by kernel_rfl) DD0 ?_
  repeat (go_big_quiet_step (first
    | (with_reducible rfl)
    | (go_at_call 13; exact calls_cls HU HU1 (CF.out _ (HX.out _)))
    | (go_at_call 14; exact calls_cls HU HU1 (CEb.out _ (HX.out _)))
    | (go_at_call 15; exact calls_cls HU HU1 (CVa.out _))))
  refine wpQuiet_nil ?_
  intro z hwz
  obtain ⟨u0, hu⟩ := hwz
  have AZ : Hid (Ab w z) := by rw [hu]; exact HX.out u0
  have RZ : Hid (z.heap[gs]? = some (.cells #[.slice pb lb cb, .slice pw lw cw, .slice pt lt ct, .slice (some ⟨sb, so, none⟩) N cs, .int .i64 sky, .int .i64 st] 25)) := by rw [hu]; exact (HU1.out u0).heap RO.out
  clear hu u0
  clear HU HU1 HX DD0 s0 s1 s2 s3 s4 s5
  clear E UU
  clear A0 RO
  go_wp2_with fail
  refine (CE.out _ AZ.out).mono ?_
  rintro e9 vq ⟨rfl, hvq⟩
  have hvq2 := hvq.symm
  subst hvq2
  have AV : Hid (Ab w (z.alloc (Obj.cells (madeCells #[.float .f64 0] N) 43))) := AZ.out.alloc _
  have RV : Hid ((z.alloc (Obj.cells (madeCells #[.float .f64 0] N) 43)).heap[gs]? = some (.cells #[.slice pb lb cb, .slice pw lw cw, .slice pt lt ct, .slice (some ⟨sb, so, none⟩) N cs, .int .i64 sky, .int .i64 st] 25)) := Ab.heap (bl1 _ _) RZ.out
  have OV : Hid ((z.alloc (Obj.cells (madeCells #[.float .f64 0] N) 43)).rowIs z.heap.size 43 N (fun _ => .float .f64 0)) := World.rowIs_made _ _ _ _
  have LZ : Hid (w.heap.size ≤ z.heap.size ∧ gs ≠ z.heap.size) := ⟨AZ.out.size, by have := lt_of_block RZ.out; omega⟩
  go_upto_region 6 with fail
  generalize hV : World.alloc z _ = V at *
  obtain ⟨b, hb⟩ : ∃ b, z.heap.size = b := ⟨_, rfl⟩
  rw [hb] at OV LZ ⊢
  clear hV hb AZ RZ M1
  have IN : Hid (Ab w V ∧ V.heap[gs]? = some (.cells #[.slice pb lb cb, .slice pw lw cw, .slice pt lt ct, .slice (some ⟨sb, so, none⟩) N cs, .int .i64 sky, .int .i64 st] 25) ∧ V.rowIs b 43 N (fun i => .float .f64 (if i < 0 then D i else 0))) := ⟨AV.out, RV.out, OV.out.congr (fun i _ => by simp)⟩
  clear AV RV OV
  go_wp2
  go_loopw [34] (fun iv wr => ∃ c : Nat, c ≤ N ∧ iv = .int .i64 (c : Nat) ∧ Ab w wr ∧ wr.heap[gs]? = some (.cells #[.slice pb lb cb, .slice pw lw cw, .slice pt lt ct, .slice (some ⟨sb, so, none⟩) N cs, .int .i64 sky, .int .i64 st] 25) ∧ wr.rowIs b 43 N (fun i => .float .f64 (if i < c then D i else 0))) (fun iv _ => N - (intOf iv).toNat)
  case atStart => exact ⟨0, by omega, rfl, IN.out⟩
  case round =>
    obtain ⟨c, hc, rfl, a1, r1, o1⟩ := hrel
    clear IN
    have AR := hid a1
    have RR := hid r1
    have OO := hid o1
    clear a1 r1 o1
    by_cases hcN : c < N
    · have HC := hid hcN
      have hcI : (c : Int) < N := by omega
      have hcB : (c : Int) ≤ 1048576 := by have := HN.out; omega
      obtain ⟨x, hx⟩ : ∃ x, Sp c = x := ⟨_, rfl⟩
      obtain ⟨y, hy⟩ : ∃ y, D c = y := ⟨_, rfl⟩
      have CDc := hid (CD.out c hcN)
      rw [hx, hy] at CDc
      have HX2 := hid hx
      have HY := hid hy
      clear hx hy hcN
      go_upto_region 9 with fail
      obtain ⟨UU, E, hF1, hF2⟩ := cls wr
      have HU := hid hF2
      have HU1 := hid hF1
      have HX : Hid (∀ u, Ab w (E u)) := fun u => Ab.trans AR.out (hF1 u)
      have s0 : ∀ u, (E u).cell? ⟨gs, 0, none⟩ = some (.slice pb lb cb) := fun u => cell_of_row _ _ 0 _ _ _ ((hF1 u).heap RR.out)
      have s1 : ∀ u, (E u).cell? ⟨gs, 1, none⟩ = some (.slice pw lw cw) := fun u => cell_of_row _ _ 1 _ _ _ ((hF1 u).heap RR.out)
      have s2 : ∀ u, (E u).cell? ⟨gs, 2, none⟩ = some (.slice pt lt ct) := fun u => cell_of_row _ _ 2 _ _ _ ((hF1 u).heap RR.out)
      have s3 : ∀ u, (E u).cell? ⟨gs, 3, none⟩ = some (.slice (some ⟨sb, so, none⟩) N cs) := fun u => cell_of_row _ _ 3 _ _ _ ((hF1 u).heap RR.out)
      have s4 : ∀ u, (E u).cell? ⟨gs, 4, none⟩ = some (.int .i64 sky) := fun u => cell_of_row _ _ 4 _ _ _ ((hF1 u).heap RR.out)
      have s5 : ∀ u, (E u).cell? ⟨gs, 5, none⟩ = some (.int .i64 st) := fun u => cell_of_row _ _ 5 _ _ _ ((hF1 u).heap RR.out)
      have xp : ∀ u, (E u).cell? ⟨sb, so + c, none⟩ = some (.float .f64 x) := fun u => (FSp.out c HC.out _ (HX.out u)).trans (by rw [HX2.out])
      have DD0 := HU.out _ (Ab.refl wr).drew
      clear hF1 hF2
      refine region_tail 13 E (by kernel_rfl) (by kernel_rfl) (by kernel_rfl) DD0 ?_
      simp only [List.take_succ_cons, List.take_zero, List.drop_succ_cons, List.drop_zero]
      repeat (go_big_quiet_step (first
        | (with_reducible rfl)
        | (go_at_call 11; exact calls_cls HU HU1 (CDc.out _ (HX.out _)))))
      refine wpQuiet_nil ?_
      intro vz hwz
      obtain ⟨u0, hu⟩ := hwz
      have AZ : Hid (Ab wr vz) := by rw [hu]; exact HU1.out u0
      clear hu u0
      clear HU HU1 HX DD0 s0 s1 s2 s3 s4 s5 xp
      clear E UU
      have OZ := hid (rowIs.ab OO.out AZ.out)
      have xc := OZ.out.cell HC.out
      have xf := OZ.out.frozen c
      go_wp2
      refine ⟨⟨c + 1, by have := HC.out; omega, by simp, (AR.out.trans AZ.out).setk LZ.out.1 _, ?_, (OZ.out.set c _).congr (fun i _ => ?_)⟩, by simp [intOf]; have := HC.out; omega⟩
      · rw [heap_set_ne LZ.out.2]; exact AZ.out.heap RR.out
      · by_cases e : i = c
        · simp [e, HY.out]
        · by_cases l : i < c
          · simp [e, l, show i < c + 1 by omega]
          · simp [e, l, show ¬ i < c + 1 by omega]
    · have e6 : N = c := by omega
      subst e6
      go_wp2
      go_ret2
      exact ⟨b, rfl, AR.out, OO.out.congr (fun i hi => by simp [hi]), LZ.out.1⟩
/-- what Depths is to answer -/
def DepthsC : Prop := ∀ (n gb : Nat) (k : Int) (pb : Option Addr) (lb cb : Nat) (B : Nat → Nat) (pw : Option Addr) (lw cw : Nat) (Wt : Nat → Int) (pt : Option Addr) (lt ct : Nat) (ps : Option Addr) (ls cs : Nat) (Sp : Nat → Nat) (sky st : Int) (w : World), (1 ≤ n ∧ n ≤ 32) → GridOf n gb w → IsFl w pb lb B → IsIn w pw lw Wt → IsFl w ps ls Sp →
    (((lb = 6 * n * n ∧ lw = 6 * n * n) ∧ ls = 12 * n * n ∧ (0 ≤ k ∧ k ≤ 3)) → Calls Tryz.prog 5 #[.pointer (some ⟨gb, 0, none⟩), .int .i64 k, .agg #[.slice pb lb cb, .slice pw lw cw, .slice pt lt ct, .slice ps ls cs, .int .i64 sky, .int .i64 st]] w fun e w' => ∃ b, e = .returned (.tuple #[.slice (some ⟨b, 0, none⟩) (12 * n * n) (12 * n * n), .int .i64 0]) ∧ Below w.heap.size w w' ∧ w'.rowIs b 43 (12 * n * n) (fun i => .float .f64 (rdAll n k lb lw B Wt (i : Nat) (Sp i))) ∧ w.heap.size ≤ b) ∧
    (¬ ((lb = 6 * n * n ∧ lw = 6 * n * n) ∧ ls = 12 * n * n ∧ (0 ≤ k ∧ k ≤ 3)) → Calls Tryz.prog 5 #[.pointer (some ⟨gb, 0, none⟩), .int .i64 k, .agg #[.slice pb lb cb, .slice pw lw cw, .slice pt lt ct, .slice ps ls cs, .int .i64 sky, .int .i64 st]] w fun e w' => e = .returned (.tuple #[.slice none 0 0, .int .i64 1]) ∧ Below w.heap.size w w')
theorem edges_n2 {n : Nat} (hn : 1 ≤ n ∧ n ≤ 32) : 1 ≤ 12 * n * n ∧ 12 * n * n ≤ 12288 := by
  have h := Nat.mul_le_mul hn.2 hn.2
  have h2 := Nat.mul_le_mul hn.1 hn.1
  rw [Nat.mul_assoc]
  omega
set_option maxRecDepth 100000 in
theorem depthsC : DepthsC := by
  intro n gb k pb lb cb B pw lw cw Wt pt lt ct ps ls cs Sp sky st w hn g hB hW hS
  have en := edges_n2 hn
  have CC : Hid (∀ v, Ab w v → Calls Tryz.prog 38 #[.pointer (some ⟨gb, 0, none⟩)] v fun e w' => e = .returned (.int .i64 (6 * n * n : Nat)) ∧ Below v.heap.size v w') := fun v hv => (gCells_at (g.to hv)).mono fun _ _ h => ⟨h.1, by obtain ⟨_, rfl⟩ := h; exact Below.refl _ _⟩
  have CE : Hid (∀ v, Ab w v → Calls Tryz.prog 14 #[.pointer (some ⟨gb, 0, none⟩)] v fun e w' => e = .returned (.int .i64 (12 * n * n : Nat)) ∧ w' = v) := fun v hv => gEdges_at (g.to hv)
  have CEb : Hid (∀ v, Ab w v → Calls Tryz.prog 14 #[.pointer (some ⟨gb, 0, none⟩)] v fun e w' => e = .returned (.int .i64 (12 * n * n : Nat)) ∧ Below v.heap.size v w') := fun v hv => (gEdges_at (g.to hv)).mono fun _ _ h => ⟨h.1, by obtain ⟨_, rfl⟩ := h; exact Below.refl _ _⟩
  have CVa : Hid (∀ v : World, Calls Tryz.prog 15 #[.int .i64 k] v fun e w' => e = .returned (.bool (decide (0 ≤ k ∧ k ≤ 3))) ∧ Below v.heap.size v w') := fun v => valid_at k v
  refine ⟨fun fit => ?_, fun no => ?_⟩
  · obtain ⟨⟨rfl, rfl⟩, rfl, hk⟩ := fit
    obtain ⟨sb, so, rfl⟩ := hS.some0 (by omega)
    rw [decide_eq_true hk] at CVa
    exact dps12_go gb pb pw pt _ cb _ cw lt ct sb so cs sky st k (12 * n * n) Sp (fun i => rdAll n k (6 * n * n) (6 * n * n) B Wt (i : Nat) (Sp i)) w (by omega)
      (fun v hv => fit12_at (.pointer (some ⟨gb, 0, none⟩)) pb pw pt _ _ cb _ cw lt ct _ cs sky st (6 * n * n) true v (.inr ⟨by simp, by simp⟩) (fun z hz => CC.out z (hv.trans hz))) CE CVa
      (fun c hc v hv => (Below.cell hv (hS.at0 hc).2.1).trans (hS.at0 hc).2.2)
      (fun c hc v hv => depthC n gb k pb _ cb B pw _ cw Wt pt lt ct _ _ cs sky st (c : Nat) (Sp c) v hn (g.to hv) (hB.below hv) (hW.below hv) (hS.at0 hc).1)
  · have ft : ∀ q : Bool, ((((lb : Int) == ((6 * n * n : Nat) : Int)) = false ∧ q = false) ∨ (((lb : Int) == ((6 * n * n : Nat) : Int)) = true ∧ ((lw : Int) == ((6 * n * n : Nat) : Int)) = q)) → ∀ v, Ab w v → Calls Tryz.prog 13 #[.pointer (some ⟨gb, 0, none⟩), .agg #[.slice pb lb cb, .slice pw lw cw, .slice pt lt ct, .slice ps ls cs, .int .i64 sky, .int .i64 st]] v fun e w' => e = .returned (.bool q) ∧ Below v.heap.size v w' := fun q hq v hv => fit12_at (.pointer (some ⟨gb, 0, none⟩)) pb pw pt ps lb cb lw cw lt ct ls cs sky st (6 * n * n) q v hq (fun z hz => CC.out z (hv.trans hz))
    by_cases c1 : lb = 6 * n * n ∧ lw = 6 * n * n
    · have f := ft true (.inr ⟨by rw [c1.1]; simp, by rw [c1.2]; simp⟩)
      by_cases c2 : ls = 12 * n * n
      · have c3 : ¬ (0 ≤ k ∧ k ≤ 3) := fun h => no ⟨c1, c2, h⟩
        exact dps12_no gb pb pw pt ps lb cb lw cw lt ct ls cs sky st k (12 * n * n) true _ w (.inr (.inr ⟨rfl, by rw [c2]; simp, decide_eq_false c3⟩)) f CEb CVa
      · exact dps12_no gb pb pw pt ps lb cb lw cw lt ct ls cs sky st k (12 * n * n) true _ w (.inr (.inl ⟨rfl, by rw [bne_iff_ne]; omega⟩)) f CEb CVa
    · have f := ft false (by
        by_cases c2 : lb = 6 * n * n
        · exact .inr ⟨by rw [c2]; simp, by rw [beq_eq_false_iff_ne]; omega⟩
        · exact .inl ⟨by rw [beq_eq_false_iff_ne]; omega, rfl⟩)
      exact dps12_no gb pb pw pt ps lb cb lw cw lt ct ls cs sky st k (12 * n * n) false _ w (.inl rfl) f CEb CVa
end Go.Proofs.YtfddlnedpfkcaaaGreatDoor

namespace Go.Proofs.YtfddlnedpfkcaaaGreatDoor
open Go.RowKit Tf Cu Go.Deep
attribute [local go_sem] run_bits run_from raw_feq raw_fne raw_flt raw_fgt run_neg run_store_float
theorem four (W : World) (A B C D : Obj) : ((((W.alloc A).alloc B).alloc C).alloc D).heap[W.heap.size]? = some A ∧ ((((W.alloc A).alloc B).alloc C).alloc D).heap[W.heap.size + 1]? = some B ∧ ((((W.alloc A).alloc B).alloc C).alloc D).heap[W.heap.size + 1 + 1]? = some C ∧ ((((W.alloc A).alloc B).alloc C).alloc D).heap[W.heap.size + 1 + 1 + 1]? = some D := by
  have q0 := heap_alloc_new W A
  have q1 := heap_alloc_new (W.alloc A) B
  have q2 := heap_alloc_new ((W.alloc A).alloc B) C
  have q3 := heap_alloc_new (((W.alloc A).alloc B).alloc C) D
  rw [size1] at q1
  rw [size1, size1] at q2
  rw [size1, size1, size1] at q3
  exact ⟨Ab.heap (bl1 _ _) (Ab.heap (bl1 _ _) (Ab.heap (bl1 _ _) q0)), Ab.heap (bl1 _ _) (Ab.heap (bl1 _ _) q1), Ab.heap (bl1 _ _) q2, q3⟩
theorem four_ab {w W : World} (h : Ab w W) (A B C D : Obj) : Ab w ((((W.alloc A).alloc B).alloc C).alloc D).drew := ((((h.alloc A).alloc B).alloc C).alloc D).drew
theorem cell_dd {v : World} {g : Nat} {dd : Nat → Int} (h : v.heap[g]? = some (.cells #[.int .i64 (dd 0), .int .i64 (dd 1), .int .i64 (dd 2), .int .i64 (dd 3), .int .i64 (dd 4), .int .i64 (dd 5)] 42)) {c : Nat} (hc : c < 6) : v.cell? ⟨g, c, none⟩ = some (.int .i64 (dd c)) := by
  match c, hc with
  | 0, _ => exact cell_of_row _ _ 0 _ _ _ h
  | 1, _ => exact cell_of_row _ _ 1 _ _ _ h
  | 2, _ => exact cell_of_row _ _ 2 _ _ _ h
  | 3, _ => exact cell_of_row _ _ 3 _ _ _ h
  | 4, _ => exact cell_of_row _ _ 4 _ _ _ h
  | 5, _ => exact cell_of_row _ _ 5 _ _ _ h
/-- behind c rounds -/
def FlI (w : World) (gd g5 b1 b2 b3 : Nat) (dd : Nat → Int) (c : Nat) (v : World) : Prop :=
  Ab w v ∧ v.heap[g5]? = some (.cells #[.slice (some ⟨b1, 0, none⟩) 6 6, .slice (some ⟨b2, 0, none⟩) 6 6, .slice none 0 0, .slice (some ⟨b3, 0, none⟩) 12 12, .int .i64 0, .int .i64 0] 25) ∧ v.heap[gd]? = some (.cells #[.int .i64 (dd 0), .int .i64 (dd 1), .int .i64 (dd 2), .int .i64 (dd 3), .int .i64 (dd 4), .int .i64 (dd 5)] 42) ∧ v.rowIs b1 43 6 (fun _ => .float .f64 0) ∧ v.rowIs b2 2 6 (fun i => .int .i64 (if i < c then dd i * arI (ArC 1 i) else 0)) ∧ v.rowIs b3 43 12 (fun _ => .float .f64 0) ∧ v.heap[gd + 1]? = some (.cells #[.slice none 0 0, .slice none 0 0, .slice none 0 0, .slice none 0 0, .int .i64 0, .int .i64 0] 25)
theorem FlI.to {w : World} {gd g5 b1 b2 b3 : Nat} {dd : Nat → Int} {c : Nat} {v v' : World} (h : FlI w gd g5 b1 b2 b3 dd c v) (a : Ab v v') : FlI w gd g5 b1 b2 b3 dd c v' := by
  obtain ⟨h1, h2, h3, h4, h5, h6, h7⟩ := h
  exact ⟨h1.trans a, a.heap h2, a.heap h3, rowIs.ab h4 a, rowIs.ab h5 a, rowIs.ab h6 a, a.heap h7⟩
theorem FlI.set {w : World} {gd g5 b1 b2 b3 : Nat} {dd : Nat → Int} {c : Nat} {v : World} (h : FlI w gd g5 b1 b2 b3 dd c v) (hw : w.heap.size ≤ b2) (n1 : g5 ≠ b2) (n2 : gd ≠ b2) (n3 : b1 ≠ b2) (n4 : b3 ≠ b2) (n5 : gd + 1 ≠ b2) : FlI w gd g5 b1 b2 b3 dd (c + 1) (v.setCell ⟨b2, c, none⟩ (.int .i64 (dd c * arI (ArC 1 c)))) := by
  obtain ⟨h1, h2, h3, h4, h5, h6, h7⟩ := h
  refine ⟨h1.setk hw _, by rw [heap_set_ne n1]; exact h2, by rw [heap_set_ne n2]; exact h3, h4.setOther n3 _, (h5.set c _).congr (fun i _ => ?_), h6.setOther n4 _, by rw [heap_set_ne n5]; exact h7⟩
  by_cases e : i = c
  · subst e; simp
  · by_cases l : i < c
    · simp [e, l, show i < c + 1 by omega]
    · simp [e, l, show ¬ i < c + 1 by omega]
set_option maxRecDepth 100000 in
set_option maxHeartbeats 16000000 in
theorem flat_at {gb : Nat} {dd : Nat → Int} (w : World) (g : GridOf 1 gb w) (hm : ∀ c, c < 6 → IntKind.i64.wrap (dd c * arI (ArC 1 c)) = dd c * arI (ArC 1 c)) :
    Calls Tryz.prog 10 #[.pointer (some ⟨gb, 0, none⟩), .agg #[.int .i64 (dd 0), .int .i64 (dd 1), .int .i64 (dd 2), .int .i64 (dd 3), .int .i64 (dd 4), .int .i64 (dd 5)]] w fun e w' => ∃ b1 b2 b3, e = .returned (.agg #[.slice (some ⟨b1, 0, none⟩) 6 6, .slice (some ⟨b2, 0, none⟩) 6 6, .slice none 0 0, .slice (some ⟨b3, 0, none⟩) 12 12, .int .i64 0, .int .i64 0]) ∧ Below w.heap.size w w' ∧ w'.rowIs b1 43 6 (fun _ => .float .f64 0) ∧ w'.rowIs b2 2 6 (fun i => .int .i64 (if i < 6 then dd i * arI (ArC 1 i) else 0)) ∧ w'.rowIs b3 43 12 (fun _ => .float .f64 0) := by
  have M1 : ∀ v : World, (Instr.makeSlice 22 (.int .i64 6) (.int .i64 6)).run Tryz.prog v = .ok (.slice (some ⟨v.heap.size, 0, none⟩) 6 6) (v.alloc (Obj.cells (madeCells #[.float .f64 0] 6) 43)) := fun v => by
    exact run_make_row' (P := Tryz.prog) 22 43 (.float .f64 0) 8 Tryz.underlying22 infoF64 rfl .i64 .i64 6 (by omega) (by omega) v
  have M2 : ∀ v : World, (Instr.makeSlice 23 (.int .i64 6) (.int .i64 6)).run Tryz.prog v = .ok (.slice (some ⟨v.heap.size, 0, none⟩) 6 6) (v.alloc (Obj.cells (madeCells #[.int .i64 0] 6) 2)) := fun v => by
    exact run_make_row' (P := Tryz.prog) 23 2 (.int .i64 0) 8 Tryz.underlying23 info64 rfl .i64 .i64 6 (by omega) (by omega) v
  have M3 : ∀ v : World, (Instr.makeSlice 22 (.int .i64 12) (.int .i64 12)).run Tryz.prog v = .ok (.slice (some ⟨v.heap.size, 0, none⟩) 12 12) (v.alloc (Obj.cells (madeCells #[.float .f64 0] 12) 43)) := fun v => by
    exact run_make_row' (P := Tryz.prog) 22 43 (.float .f64 0) 8 Tryz.underlying22 infoF64 rfl .i64 .i64 12 (by omega) (by omega) v
  go_enter Tryz.func10, Tryz.ntmps10
  go_upto_region 1 with fail
  have DR : Hid (((w.alloc (.cells #[.int .i64 (dd 0), .int .i64 (dd 1), .int .i64 (dd 2), .int .i64 (dd 3), .int .i64 (dd 4), .int .i64 (dd 5)] 42)).alloc (.cells #[.slice none 0 0, .slice none 0 0, .slice none 0 0, .slice none 0 0, .int .i64 0, .int .i64 0] 25)).heap[w.heap.size]? = some (.cells #[.int .i64 (dd 0), .int .i64 (dd 1), .int .i64 (dd 2), .int .i64 (dd 3), .int .i64 (dd 4), .int .i64 (dd 5)] 42)) := Ab.heap (bl1 _ _) (heap_alloc_new _ _)
  have ZR : Hid (((w.alloc (.cells #[.int .i64 (dd 0), .int .i64 (dd 1), .int .i64 (dd 2), .int .i64 (dd 3), .int .i64 (dd 4), .int .i64 (dd 5)] 42)).alloc (.cells #[.slice none 0 0, .slice none 0 0, .slice none 0 0, .slice none 0 0, .int .i64 0, .int .i64 0] 25)).heap[w.heap.size + 1]? = some (.cells #[.slice none 0 0, .slice none 0 0, .slice none 0 0, .slice none 0 0, .int .i64 0, .int .i64 0] 25)) := by
    have h := heap_alloc_new (w.alloc (.cells #[.int .i64 (dd 0), .int .i64 (dd 1), .int .i64 (dd 2), .int .i64 (dd 3), .int .i64 (dd 4), .int .i64 (dd 5)] 42)) (.cells #[.slice none 0 0, .slice none 0 0, .slice none 0 0, .slice none 0 0, .int .i64 0, .int .i64 0] 25)
    rwa [size1] at h
  have A2 : Hid (Ab w ((w.alloc (.cells #[.int .i64 (dd 0), .int .i64 (dd 1), .int .i64 (dd 2), .int .i64 (dd 3), .int .i64 (dd 4), .int .i64 (dd 5)] 42)).alloc (.cells #[.slice none 0 0, .slice none 0 0, .slice none 0 0, .slice none 0 0, .int .i64 0, .int .i64 0] 25))) := bl2 _ _ _
  generalize hW : World.alloc (World.alloc w _) _ = W at *
  go_cut [5] from 7 to 10 (fun s5 wx => ∃ g5 b1 b2 b3, s5 = .pointer (some ⟨g5, 0, none⟩) ∧ Ab W wx ∧ wx.heap[g5]? = some (.cells #[.slice (some ⟨b1, 0, none⟩) 6 6, .slice (some ⟨b2, 0, none⟩) 6 6, .slice none 0 0, .slice (some ⟨b3, 0, none⟩) 12 12, .int .i64 0, .int .i64 0] 25) ∧ wx.heap[b1]? = some (Obj.cells (madeCells #[.float .f64 0] 6) 43) ∧ wx.heap[b2]? = some (Obj.cells (madeCells #[.int .i64 0] 6) 2) ∧ wx.heap[b3]? = some (Obj.cells (madeCells #[.float .f64 0] 12) 43) ∧ W.heap.size ≤ g5 ∧ W.heap.size ≤ b2 ∧ W.heap.size ≤ b1 ∧ W.heap.size ≤ b3 ∧ g5 ≠ b2 ∧ b1 ≠ b2 ∧ b3 ≠ b2)
  case first =>
    go_region_with fail
    all_goals go_wp2_with fail
    all_goals go_meet
    all_goals refine' ⟨_, _, _, _, rfl, four_ab (Ab.refl W) _ _ _ _, (by first | exact (four W _ _ _ _).2.2.2 | exact (four W _ _ _ _).2.2.1 | exact (four W _ _ _ _).2.1 | exact (four W _ _ _ _).1), ?_, ?_, ?_, ?_, ?_, ?_, ?_, ?_, ?_, ?_⟩
    all_goals first
      | exact (four W _ _ _ _).1
      | exact (four W _ _ _ _).2.1
      | exact (four W _ _ _ _).2.2.1
      | exact (four W _ _ _ _).2.2.2
      | omega
  case rest =>
    obtain ⟨g5, b1, b2, b3, rfl, A1, r5, r1, r2, r3, l5, l2, l1, l3, n1, n2, n3⟩ := hcut
    obtain ⟨gd, hgd⟩ : ∃ x, w.heap.size = x := ⟨_, rfl⟩
    have HG := hid g
    have HM := hid hm
    have L2 := hid (show gd + 2 ≤ b2 by rw [← hW, size1, size1] at l2; omega)
    have L1 := hid (show gd + 2 ≤ b1 by rw [← hW, size1, size1] at l1; omega)
    have L3 := hid (show gd + 2 ≤ b3 by rw [← hW, size1, size1] at l3; omega)
    rw [hgd] at DR ZR
    have FI := hid (show FlI w gd g5 b1 b2 b3 dd 0 wc from ⟨A2.out.trans A1, r5, Ab.heap A1 DR.out, made_row r1, (made_row r2).congr (fun i _ => by simp), made_row r3, Ab.heap A1 ZR.out⟩)
    have N1 := hid n1
    have N2 := hid n2
    have N3 := hid n3
    have HN : Hid (w.heap.size = gd) := hgd
    clear g hm l5 l2 l1 l3 A1 r5 r1 r2 r3 n1 n2 n3 DR ZR A2 hW M1 M2 M3
    go_wp2
    go_loopw [6] (fun iv wr => ∃ c : Nat, c ≤ 6 ∧ iv = .int .i64 (c : Nat) ∧ FlI w gd g5 b1 b2 b3 dd c wr) (fun iv _ => 6 - (intOf iv).toNat)
    case atStart => exact ⟨0, by omega, rfl, FI.out⟩
    case round =>
      obtain ⟨c, hc, rfl, F⟩ := hrel
      clear FI
      have FF := hid F
      clear F
      by_cases hc6 : c < 6
      · have hc' : (c : Int) < 6 := by omega
        have MM := HM.out c hc6
        have AR : Hid (∀ v, Ab w v → Calls Tryz.prog 32 #[.pointer (some ⟨gb, 0, none⟩), .int .i64 (c : Nat)] v fun e w' => e = .returned (.int .i64 (arI (ArC 1 c))) ∧ Below v.heap.size v w') := fun v hv => gArea_ok (by decide) hc6 (HG.out.to hv)
        have DC : Hid (∀ v, Ab wr v → FlI w gd g5 b1 b2 b3 dd c v) := fun v hv => FF.out.to hv
        have HC6 := hid hc6
        clear hc6
        generalize hp : dd c * arI (ArC 1 c) = P at *
        have HP : Hid (dd c * arI (ArC 1 c) = P) := hp
        obtain ⟨X, hX⟩ : ∃ X, dd c = X := ⟨_, rfl⟩
        obtain ⟨Y, hY⟩ : ∃ Y, arI (ArC 1 c) = Y := ⟨_, rfl⟩
        rw [hY] at AR
        have MM2 : IntKind.i64.wrap (X * Y) = P := by rw [← hX, ← hY, hp]; exact MM
        clear hp MM
        go_upto_region 5 with fail
        obtain ⟨UU, E, hF1, hF2⟩ := cls wr
        have HU := hid hF2
        have HU1 := hid hF1
        have x1 : ∀ u, (E u).cell? ⟨g5, 1, none⟩ = some (.slice (some ⟨b2, 0, none⟩) 6 6) := fun u => cell_of_row _ _ 1 _ _ _ (DC.out _ (hF1 u)).2.1
        have x2 : ∀ u, (E u).cell? ⟨gd, c, none⟩ = some (.int .i64 X) := fun u => by rw [← hX]; exact cell_dd (DC.out _ (hF1 u)).2.2.1 HC6.out
        have HX : Hid (∀ u, Ab w (E u)) := fun u => (DC.out _ (hF1 u)).1
        have DD0 := HU.out _ (Ab.refl wr).drew
        clear hF1 hF2
        refine region_tail 11 E (by kernel_rfl) (by kernel_rfl) (by kernel_rfl) DD0 ?_
        simp only [List.take_succ_cons, List.take_zero, List.drop_succ_cons, List.drop_zero]
        repeat (go_big_quiet_step (first
          | (with_reducible rfl)
          | (go_at_call 32; exact calls_cls HU HU1 (AR.out _ (HX.out _)))))
        refine wpQuiet_nil ?_
        intro vz hwz
        obtain ⟨u0, hu⟩ := hwz
        have AZ : Hid (Ab wr vz) := by rw [hu]; exact HU1.out u0
        clear hu u0
        clear HU HU1 HX DD0 x1 x2
        clear E UU
        have FZ := hid (DC.out _ AZ.out)
        have z1 := FZ.out.2.2.2.2.1.cell HC6.out
        have z2 := FZ.out.2.2.2.2.1.frozen c
        go_wp2
        refine ⟨⟨c + 1, by have := HC6.out; omega, by simp, ?_⟩, by simp [intOf]; have := HC6.out; omega⟩
        rw [← HP.out]
        exact FZ.out.set (by rw [HN.out]; have := L2.out; omega) N1.out (by have := L2.out; omega) N2.out N3.out (by have := L2.out; omega)
      · have e6 : c = 6 := by omega
        subst e6
        have s0 := cell_of_row _ _ 0 _ _ _ FF.out.2.1
        have s1 := cell_of_row _ _ 1 _ _ _ FF.out.2.1
        have s2 := cell_of_row _ _ 2 _ _ _ FF.out.2.1
        have s3 := cell_of_row _ _ 3 _ _ _ FF.out.2.1
        have s4 := cell_of_row _ _ 4 _ _ _ FF.out.2.1
        have s5 := cell_of_row _ _ 5 _ _ _ FF.out.2.1
        have RZ := FF.out.2.2.2.2.2.2
        have t0 := cell_of_row _ _ 0 _ _ _ RZ
        have t1 := cell_of_row _ _ 1 _ _ _ RZ
        have t2 := cell_of_row _ _ 2 _ _ _ RZ
        have t3 := cell_of_row _ _ 3 _ _ _ RZ
        have t4 := cell_of_row _ _ 4 _ _ _ RZ
        have t5 := cell_of_row _ _ 5 _ _ _ RZ
        have f0 := free_row RZ 0
        have f1 := free_row RZ 1
        have f2 := free_row RZ 2
        have f3 := free_row RZ 3
        have f4 := free_row RZ 4
        have f5 := free_row RZ 5
        have ROW := hid (row6 (x := .slice (some ⟨b1, 0, none⟩) 6 6) (y := .slice (some ⟨b2, 0, none⟩) 6 6) (z := .slice none 0 0) (p := .slice (some ⟨b3, 0, none⟩) 12 12) (q := .int .i64 0) (r := .int .i64 0) RZ)
        clear RZ
        go_wp2
        have BN : Hid (gd + 1 ≠ b1 ∧ gd + 1 ≠ b2 ∧ gd + 1 ≠ b3) := ⟨by have := L1.out; omega, by have := L2.out; omega, by have := L3.out; omega⟩
        have G1 := FF.out.2.2.2.1
        have G2 := FF.out.2.2.2.2.1
        have G3 := FF.out.2.2.2.2.2.1
        have GA := FF.out.1
        refine bodyPost_ret ?_ rfl ⟨b1, b2, b3, rfl, ?_, ?_, ?_, ?_⟩
        · exact results_cell_row Tryz.results10 _ _ (w.heap.size + 1) _ _ (0, 0) _ rfl (by rw [HN.out]; exact ROW.out) Tryz.underlying25 rfl (by kernel_rfl)
        · exact (((((GA.setk (by rw [HN.out]; omega) _).setk (by rw [HN.out]; omega) _).setk (by rw [HN.out]; omega) _).setk (by rw [HN.out]; omega) _).setk (by rw [HN.out]; omega) _).setk (by rw [HN.out]; omega) _
        · exact (((((G1.setOther BN.out.1.symm _).setOther BN.out.1.symm _).setOther BN.out.1.symm _).setOther BN.out.1.symm _).setOther BN.out.1.symm _).setOther BN.out.1.symm _
        · exact (((((G2.setOther BN.out.2.1.symm _).setOther BN.out.2.1.symm _).setOther BN.out.2.1.symm _).setOther BN.out.2.1.symm _).setOther BN.out.2.1.symm _).setOther BN.out.2.1.symm _
        · exact (((((G3.setOther BN.out.2.2.symm _).setOther BN.out.2.2.symm _).setOther BN.out.2.2.symm _).setOther BN.out.2.2.symm _).setOther BN.out.2.2.symm _).setOther BN.out.2.2.symm _
end Go.Proofs.YtfddlnedpfkcaaaGreatDoor

namespace Go.Proofs.YtfddlnedpfkcaaaGreatDoor
open Go.RowKit Go.Deep
theorem rowIs.fl {w : World} {b n : Nat} {f : Nat → Nat} (h : w.rowIs b 43 n (fun i => .float .f64 (f i))) (hf : ∀ i, i < n → f i < 18446744073709551616) : IsFl w (some ⟨b, 0, none⟩) n f := fun k hk => ⟨hf k hk, b, 0, rfl, h.lt, by rw [Nat.zero_add]; exact h.cell hk⟩
theorem rowIs.in {w : World} {b n : Nat} {f : Nat → Int} (h : w.rowIs b 2 n (fun i => .int .i64 (f i))) (hf : ∀ i, i < n → -9223372036854775808 ≤ f i ∧ f i ≤ 9223372036854775807) : IsIn w (some ⟨b, 0, none⟩) n f := fun k hk => ⟨hf k hk, b, 0, rfl, h.lt, by rw [Nat.zero_add]; exact h.cell hk⟩
end Go.Proofs.YtfddlnedpfkcaaaGreatDoor

namespace Go.Proofs.YtfddlnedpfkcaaaGreatDoor
open Go.RowKit Tf Cu
attribute [local go_sem] run_bits run_from raw_feq raw_fne raw_flt raw_fgt run_neg run_store_float
theorem ar1 : ∀ c, c < 6 → arI (ArC 1 c) = 1431655765 := by decide +kernel
def dd12 (c : Nat) : Int := if c = 0 then 2 else if c = 3 then 4 else 1
def wt12 (i : Nat) : Int := if i < 6 then dd12 i * arI (ArC 1 i) else 0
theorem wt_num : wt12 0 = 2863311530 ∧ wt12 1 = 1431655765 ∧ wt12 3 = 5726623060 := by
  unfold wt12 dd12
  rw [ar1 0 (by decide), ar1 1 (by decide), ar1 3 (by decide)]
  decide
theorem side0 : isL 1 0 = true ∧ eN 1 0 = 0 ∧ mt 1 0 / 4 = 1 ∧ bkC 1 0 = 3 := by decide +kernel
theorem rd1 (k : Int) (u : Nat) (h : fgt u 0 = true) : rdAll 1 k 6 6 (fun _ => 0) wt12 0 u = rcR k (dpB 2863311530 1431655765) (dpB 5726623060 1431655765) (dpB 1431655765 1431655765) (lvl 0 2863311530 1431655765) 0 0 := by
  have s := side0
  have e := rdAll_eN (n := 1) (k := k) (B := fun _ => 0) (W := wt12) (t := 0) (u := u) (by decide) (by decide) s.1
  rw [s.2.1] at e
  have w := wt_num
  have a0 : arC 1 0 = 1431655765 := ar1 0 (by decide)
  have a1 : arC 1 1 = 1431655765 := ar1 1 (by decide)
  have a3 : arC 1 3 = 1431655765 := ar1 3 (by decide)
  refine Eq.trans e ?_
  rw [rdT_p h]
  unfold sdD ovC
  rw [s.2.2.1, s.2.2.2, show (0 : Nat) / 4 = 0 from rfl, w.1, w.2.1, w.2.2, a0, a1, a3]
theorem rn0 : rcR 0 (dpB 2863311530 1431655765) (dpB 5726623060 1431655765) (dpB 1431655765 1431655765) (lvl 0 2863311530 1431655765) 0 0 = 4611686018427387904 := by decide +kernel
theorem rn1 : rcR 1 (dpB 2863311530 1431655765) (dpB 5726623060 1431655765) (dpB 1431655765 1431655765) (lvl 0 2863311530 1431655765) 0 0 = 4609434218613702656 := by decide +kernel
theorem rn2 : rcR 2 (dpB 2863311530 1431655765) (dpB 5726623060 1431655765) (dpB 1431655765 1431655765) (lvl 0 2863311530 1431655765) 0 0 = 4607182418800017408 := by decide +kernel
theorem rd0 (k : Int) : rdAll 1 k 6 6 (fun _ => 0) wt12 0 0 = 0 := by
  have s := side0
  have e := rdAll_eN (n := 1) (k := k) (B := fun _ => 0) (W := wt12) (t := 0) (u := 0) (by decide) (by decide) s.1
  rw [s.2.1] at e
  refine Eq.trans e ?_
  exact rdT_0 (by decide) (by decide)
theorem rawBits12 (x : Nat) (w : World) : Calls Tryz.prog 12 #[.float .f64 x] w fun e w' => e = .returned (.int .u64 ((x : Nat) : Int)) ∧ w' = w := by
  go_enter Tryz.func12, Tryz.ntmps12
  go_wp2
  go_ret
  exact ⟨rfl, rfl⟩
theorem wt_in : ∀ c, c < 6 → -9223372036854775808 ≤ wt12 c ∧ wt12 c ≤ 9223372036854775807 := by
  intro c hc
  unfold wt12
  rw [if_pos hc, ar1 c hc]
  unfold dd12
  split
  · decide
  · split <;> decide
theorem wt_wrap : ∀ c, c < 6 → IntKind.i64.wrap (dd12 c * arI (ArC 1 c)) = dd12 c * arI (ArC 1 c) := by
  intro c hc
  rw [ar1 c hc]
  unfold dd12
  split
  · decide
  · split <;> decide
set_option maxRecDepth 100000 in
set_option maxHeartbeats 8000000 in
theorem awake12_at (DC : DepthC) (w : World) (hF : Fr w) : Calls Tryz.prog 4 #[] w fun e w' => e = .returned (.bool true) ∧ Below w.heap.size w w' := by
  have NW := hid (new_at 1 w (by omega) hF)
  have HD := hid DC
  have RB := hid rawBits12
  have q0 : feq 4611686018427387904 4611686018427387904 = true := by decide
  have q1 : feq 4609434218613702656 4609434218613702656 = true := by decide
  have q2 : feq 4607182418800017408 4607182418800017408 = true := by decide
  clear hF DC
  go_enter Tryz.func4, Tryz.ntmps4
  go_wp2_with fail
  refine NW.out.mono ?_
  rintro e v1 ⟨gb, rfl, a1, -, g1⟩
  have AW1 : Hid (Ab w v1) := a1
  have G1 : Hid (GridOf 1 gb v1) := g1
  clear a1 g1 NW
  have FL := hid (flat_at (dd := dd12) v1 G1.out wt_wrap)
  rw [show dd12 0 = 2 from rfl, show dd12 1 = 1 from rfl, show dd12 2 = 1 from rfl, show dd12 3 = 4 from rfl, show dd12 4 = 1 from rfl, show dd12 5 = 1 from rfl] at FL
  go_wp2_with fail
  refine FL.out.mono ?_
  rintro e v2 ⟨b1, b2, b3, rfl, k2, r1, r2, r3⟩
  have AB : Hid (Ab v1 (v2.alloc (.cells #[.slice (some ⟨b1, 0, none⟩) 6 6, .slice (some ⟨b2, 0, none⟩) 6 6, .slice none 0 0, .slice (some ⟨b3, 0, none⟩) 12 12, .int .i64 0, .int .i64 0] 25))) := (show Ab v1 v2 from k2).alloc _
  have IB : Hid (IsFl (v2.alloc (.cells #[.slice (some ⟨b1, 0, none⟩) 6 6, .slice (some ⟨b2, 0, none⟩) 6 6, .slice none 0 0, .slice (some ⟨b3, 0, none⟩) 12 12, .int .i64 0, .int .i64 0] 25)) (some ⟨b1, 0, none⟩) 6 (fun _ => 0)) := (rowIs.fl (r1.alloc _) (fun _ _ => by decide))
  have IW : Hid (IsIn (v2.alloc (.cells #[.slice (some ⟨b1, 0, none⟩) 6 6, .slice (some ⟨b2, 0, none⟩) 6 6, .slice none 0 0, .slice (some ⟨b3, 0, none⟩) 12 12, .int .i64 0, .int .i64 0] 25)) (some ⟨b2, 0, none⟩) 6 wt12) := rowIs.in (f := wt12) (r2.alloc _) wt_in
  have RS : Hid ((v2.alloc (.cells #[.slice (some ⟨b1, 0, none⟩) 6 6, .slice (some ⟨b2, 0, none⟩) 6 6, .slice none 0 0, .slice (some ⟨b3, 0, none⟩) 12 12, .int .i64 0, .int .i64 0] 25)).heap[v2.heap.size]? = some (.cells #[.slice (some ⟨b1, 0, none⟩) 6 6, .slice (some ⟨b2, 0, none⟩) 6 6, .slice none 0 0, .slice (some ⟨b3, 0, none⟩) 12 12, .int .i64 0, .int .i64 0] 25)) := heap_alloc_new _ _
  have CD : Hid (∀ (k : Int) (u r : Nat), u < 18446744073709551616 → rdAll 1 k 6 6 (fun _ => 0) wt12 0 u = r → ∀ v, Ab (v2.alloc (.cells #[.slice (some ⟨b1, 0, none⟩) 6 6, .slice (some ⟨b2, 0, none⟩) 6 6, .slice none 0 0, .slice (some ⟨b3, 0, none⟩) 12 12, .int .i64 0, .int .i64 0] 25)) v → Calls Tryz.prog 11 #[.pointer (some ⟨gb, 0, none⟩), .int .i64 k, .agg #[.slice (some ⟨b1, 0, none⟩) 6 6, .slice (some ⟨b2, 0, none⟩) 6 6, .slice none 0 0, .slice (some ⟨b3, 0, none⟩) 12 12, .int .i64 0, .int .i64 0], .int .i64 0, .float .f64 u] v fun e' w' => e' = .returned (.float .f64 r) ∧ Below v.heap.size v w') := fun k u r hu hr v hv => by
    have h := HD.out 1 gb k (some ⟨b1, 0, none⟩) 6 6 (fun _ => 0) (some ⟨b2, 0, none⟩) 6 6 wt12 none 0 0 (some ⟨b3, 0, none⟩) 12 12 0 0 0 u v (by omega) (G1.out.to (AB.out.trans hv)) (IB.out.below hv) (IW.out.below hv) hu
    rwa [hr] at h
  clear k2 r1 r2 r3 FL HD IB IW
  have c0 := cell_of_row _ _ 0 _ _ _ RS.out
  have c1 := cell_of_row _ _ 1 _ _ _ RS.out
  have c2 := cell_of_row _ _ 2 _ _ _ RS.out
  have c3 := cell_of_row _ _ 3 _ _ _ RS.out
  have c4 := cell_of_row _ _ 4 _ _ _ RS.out
  have c5 := cell_of_row _ _ 5 _ _ _ RS.out
  go_wp2_with fail
  generalize hV : v2.alloc (.cells #[.slice (some ⟨b1, 0, none⟩) 6 6, .slice (some ⟨b2, 0, none⟩) 6 6, .slice none 0 0, .slice (some ⟨b3, 0, none⟩) 12 12, .int .i64 0, .int .i64 0] 25) = V at *
  clear hV
  refine (CD.out 0 4607182418800017408 4611686018427387904 (by decide) ((rd1 0 _ (by decide)).trans rn0) _ (Ab.refl _)).mono ?_
  rintro e v3 ⟨rfl, k3⟩
  clear c0 c1 c2 c3 c4 c5
  have A3 : Hid (Ab V v3) := k3
  clear k3
  have c0 := cell_of_row _ _ 0 _ _ _ (A3.out.heap RS.out)
  have c1 := cell_of_row _ _ 1 _ _ _ (A3.out.heap RS.out)
  have c2 := cell_of_row _ _ 2 _ _ _ (A3.out.heap RS.out)
  have c3 := cell_of_row _ _ 3 _ _ _ (A3.out.heap RS.out)
  have c4 := cell_of_row _ _ 4 _ _ _ (A3.out.heap RS.out)
  have c5 := cell_of_row _ _ 5 _ _ _ (A3.out.heap RS.out)
  go_wp2_with fail
  refine (CD.out 1 4607182418800017408 4609434218613702656 (by decide) ((rd1 1 _ (by decide)).trans rn1) _ A3.out).mono ?_
  rintro e v4 ⟨rfl, k4⟩
  clear c0 c1 c2 c3 c4 c5
  have A4 : Hid (Ab V v4) := A3.out.call k4
  clear k4
  have c0 := cell_of_row _ _ 0 _ _ _ (A4.out.heap RS.out)
  have c1 := cell_of_row _ _ 1 _ _ _ (A4.out.heap RS.out)
  have c2 := cell_of_row _ _ 2 _ _ _ (A4.out.heap RS.out)
  have c3 := cell_of_row _ _ 3 _ _ _ (A4.out.heap RS.out)
  have c4 := cell_of_row _ _ 4 _ _ _ (A4.out.heap RS.out)
  have c5 := cell_of_row _ _ 5 _ _ _ (A4.out.heap RS.out)
  go_wp2_with fail
  refine (CD.out 2 4598175219545276416 4607182418800017408 (by decide) ((rd1 2 _ (by decide)).trans rn2) _ A4.out).mono ?_
  rintro e v5 ⟨rfl, k5⟩
  clear c0 c1 c2 c3 c4 c5
  have A5 : Hid (Ab V v5) := A4.out.call k5
  clear k5
  have c0 := cell_of_row _ _ 0 _ _ _ (A5.out.heap RS.out)
  have c1 := cell_of_row _ _ 1 _ _ _ (A5.out.heap RS.out)
  have c2 := cell_of_row _ _ 2 _ _ _ (A5.out.heap RS.out)
  have c3 := cell_of_row _ _ 3 _ _ _ (A5.out.heap RS.out)
  have c4 := cell_of_row _ _ 4 _ _ _ (A5.out.heap RS.out)
  have c5 := cell_of_row _ _ 5 _ _ _ (A5.out.heap RS.out)
  go_wp2_with fail
  refine (CD.out 0 0 0 (by decide) (rd0 0) _ A5.out).mono ?_
  rintro e v6 ⟨rfl, k6⟩
  clear c0 c1 c2 c3 c4 c5
  have A6 : Hid (Ab V v6) := A5.out.call k6
  clear k6
  go_wp2_with fail
  refine (RB.out _ _).mono ?_
  rintro e v7 ⟨rfl, hv7⟩
  have hv8 := hv7.symm
  subst hv8
  go_wp2
  go_ret
  exact ⟨rfl, (AW1.out.trans AB.out).trans A6.out⟩
end Go.Proofs.YtfddlnedpfkcaaaGreatDoor

namespace Go.Proofs.YtfddlnedpfkcaaaGreatDoor
open Go.RowKit Tf Cu Go.Deep
/-- a list of the call's own, of so many floats -/
def OwnG (B : Nat) (v : Value) (l : List Nat) (w : World) : Prop := w.ownsRow B 43 1 v l.length (l.map (Value.float .f64))
theorem OwnG.fl {B : Nat} {v : Value} {l : List Nat} {w : World} (h : OwnG B v l w) (hl : ∀ x ∈ l, x < 18446744073709551616) : ∃ a0 cap, v = .slice a0 l.length cap ∧ IsFl w a0 l.length (fun j => l.getD j 0) := by
  rcases h.2 with ⟨rfl, h0⟩ | ⟨g, cap, cur, rfl, hb, hg, h1, h2, h3, h4⟩
  · exact ⟨none, 0, by rw [h0], fun k hk => by omega⟩
  · refine ⟨some ⟨g, 0, none⟩, cap, rfl, fun k hk => ?_⟩
    have hx : l.getD k 0 = l[k] := by simp [List.getD, hk]
    refine ⟨by dsimp only; rw [hx]; exact hl _ (List.getElem_mem _), g, 0, rfl, lt_of_block hg, ?_⟩
    have e := h.cells (g := g) rfl k (.float .f64 (l.getD k 0)) (by simp [hk])
    rw [add_off12] at e
    exact e
theorem OwnG.new (w : World) (B : Nat) (hB : B ≤ w.heap.size) : OwnG B (.slice (some ⟨w.heap.size, 0, none⟩) 0 0) [] (w.alloc (.cells #[] 43)) :=
  ⟨by simp, .inr ⟨w.heap.size, 0, #[], rfl, hB, heap_alloc_new _ _, Nat.le_refl _, by unfold maxLen; omega, by simp, by simp⟩⟩
theorem OwnG.to {B : Nat} {v : Value} {l : List Nat} {w w' : World} (h : OwnG B v l w) (hb : Ab w w') : OwnG B v l w' := by
  refine ⟨h.1, ?_⟩
  rcases h.2 with h0 | ⟨g, cap, cur, e, hb', hg, h1, h2, h3, h4⟩
  · exact .inl h0
  · exact .inr ⟨g, cap, cur, e, hb', hb.heap hg, h1, h2, h3, h4⟩
theorem OwnG.pushed {v : Value} {l : List Nat} {w0 wr w' : World} {x g c : Nat} {O : Obj} (hv : OwnG w0.heap.size v l wr) (hb : Ab w0 wr)
    (o : w'.ownsRow w0.heap.size 43 1 (.slice (some ⟨g, 0, none⟩) (l.length + 1) c) (l.length + 1) (l.map (Value.float .f64) ++ [.float .f64 x])) (hg : (wr.alloc O).grownBy w' v.ownBlock) :
    OwnG w0.heap.size (.slice (some ⟨g, 0, none⟩) (l.length + 1) c) (l ++ [x]) w' ∧ Ab w0 w' := by
  refine ⟨?_, ?_⟩
  · unfold OwnG
    rw [List.length_append, List.map_append]
    exact o
  · refine ((bl1 wr O |> Ab.trans hb : Below _ _ _)).grown hg (by have := hb.size; simp; omega) (fun k hk => ?_)
    exact (World.ownsRow.lt hv k hk).1
theorem info_g : ∃ i, Tryz.prog.info? 43 = some i ∧ i.zero = some (.float .f64 0) ∧ i.size = 1 ∧ i.bytes = 8 := by
  have h := infoF64
  cases e : Tryz.prog.info? 43 with
  | none => rw [e] at h; cases h
  | some i =>
    rw [e] at h
    simp at h
    exact ⟨i, rfl, h.1, h.2.1, h.2.2⟩
theorem one_cellsG (x : Nat) : ∀ u ∈ [Value.float .f64 x], u.oneCell' = true := by
  intro u hu; simp at hu; subst hu; rfl
end Go.Proofs.YtfddlnedpfkcaaaGreatDoor

namespace Go.Proofs.YtfddlnedpfkcaaaGreatDoor
open Go.RowKit Tf
attribute [local go_sem] run_bits run_from raw_feq raw_fne raw_flt raw_fgt run_neg
set_option maxHeartbeats 1000000 in
set_option maxRecDepth 100000 in
theorem refMax_any (a b : Nat) (w : World) (ha : a < 18446744073709551616) (hb : b < 18446744073709551616) :
    Calls Tryz.prog 59 #[.float .f64 a, .float .f64 b] w fun e w' => e = .returned (.float .f64 (maxB a b)) ∧ w' = w := by
  obtain ⟨r, hr⟩ : ∃ r, maxB a b = r := ⟨_, rfl⟩
  obtain ⟨o, ho⟩ : ∃ o, orderB a b = o := ⟨_, rfl⟩
  have h1 := orderB_lt a b
  rw [ho] at h1
  have HO : Hid (orderB a b = o) := ho
  have HR : Hid (r = if isN a || isN b then quiet else if o < 0 then b else a) := by
    show r = _
    rw [← hr]; unfold maxB; simp only [h1]
  rw [hr]
  clear hr ho h1
  cases nA : isN a
  · cases nB : isN b
    · have h := HR.out
      rw [nA, nB] at h
      simp only [Bool.or_self, Bool.false_eq_true, if_false] at h
      by_cases c : o < 0
      · have e1 : decide (0 ≤ o) = false := by simp; omega
        rw [if_pos c] at h
        rw [h]
        clear c HR h
        go_enter Tryz.func59, Tryz.ntmps59
        go_wp2_with fail
        refine (refNone_any a _).mono ?_
        rintro e w' ⟨rfl, rfl⟩
        go_wp2_with fail
        refine (refNone_any b _).mono ?_
        rintro e w' ⟨rfl, rfl⟩
        go_wp2_with fail
        refine (refOrd_at a b o _ ha hb HO).mono ?_
        rintro e w' ⟨rfl, rfl⟩
        go_wp2
        go_ret
        exact ⟨rfl, rfl⟩
      · have e1 : decide (0 ≤ o) = true := by simp; omega
        rw [if_neg c] at h
        rw [h]
        clear c HR h
        go_enter Tryz.func59, Tryz.ntmps59
        go_wp2_with fail
        refine (refNone_any a _).mono ?_
        rintro e w' ⟨rfl, rfl⟩
        go_wp2_with fail
        refine (refNone_any b _).mono ?_
        rintro e w' ⟨rfl, rfl⟩
        go_wp2_with fail
        refine (refOrd_at a b o _ ha hb HO).mono ?_
        rintro e w' ⟨rfl, rfl⟩
        go_wp2
        go_ret
        exact ⟨rfl, rfl⟩
    · have h := HR.out
      rw [nA, nB] at h
      simp only [Bool.or_true, if_true] at h
      rw [h]
      clear HR h
      go_enter Tryz.func59, Tryz.ntmps59
      go_wp2_with fail
      refine (refNone_any a _).mono ?_
      rintro e w' ⟨rfl, rfl⟩
      go_wp2_with fail
      refine (refNone_any b _).mono ?_
      rintro e w' ⟨rfl, rfl⟩
      go_wp2_with fail
      refine (refQuiet_any _).mono ?_
      rintro e w' ⟨rfl, rfl⟩
      go_wp2
      go_ret
      exact ⟨rfl, rfl⟩
  · have h := HR.out
    rw [nA] at h
    simp only [Bool.true_or, if_true] at h
    rw [h]
    clear HR h
    go_enter Tryz.func59, Tryz.ntmps59
    go_wp2_with fail
    refine (refNone_any a _).mono ?_
    rintro e w' ⟨rfl, rfl⟩
    go_wp2_with fail
    refine (refQuiet_any _).mono ?_
    rintro e w' ⟨rfl, rfl⟩
    go_wp2
    go_ret
    exact ⟨rfl, rfl⟩

set_option maxHeartbeats 1000000 in
set_option maxRecDepth 100000 in
theorem refMin_any (a b : Nat) (w : World) (ha : a < 18446744073709551616) (hb : b < 18446744073709551616) :
    Calls Tryz.prog 60 #[.float .f64 a, .float .f64 b] w fun e w' => e = .returned (.float .f64 (minB a b)) ∧ w' = w := by
  obtain ⟨r, hr⟩ : ∃ r, minB a b = r := ⟨_, rfl⟩
  obtain ⟨o, ho⟩ : ∃ o, orderB a b = o := ⟨_, rfl⟩
  have h1 := orderB_gt a b
  rw [ho] at h1
  have HO : Hid (orderB a b = o) := ho
  have HR : Hid (r = if isN a || isN b then quiet else if 0 < o then b else a) := by
    show r = _
    rw [← hr]; unfold minB; simp only [h1]
  rw [hr]
  clear hr ho h1
  cases nA : isN a
  · cases nB : isN b
    · have h := HR.out
      rw [nA, nB] at h
      simp only [Bool.or_self, Bool.false_eq_true, if_false] at h
      by_cases c : 0 < o
      · have e1 : decide (o ≤ 0) = false := by simp; omega
        rw [if_pos c] at h
        rw [h]
        clear c HR h
        go_enter Tryz.func60, Tryz.ntmps60
        go_wp2_with fail
        refine (refNone_any a _).mono ?_
        rintro e w' ⟨rfl, rfl⟩
        go_wp2_with fail
        refine (refNone_any b _).mono ?_
        rintro e w' ⟨rfl, rfl⟩
        go_wp2_with fail
        refine (refOrd_at a b o _ ha hb HO).mono ?_
        rintro e w' ⟨rfl, rfl⟩
        go_wp2
        go_ret
        exact ⟨rfl, rfl⟩
      · have e1 : decide (o ≤ 0) = true := by simp; omega
        rw [if_neg c] at h
        rw [h]
        clear c HR h
        go_enter Tryz.func60, Tryz.ntmps60
        go_wp2_with fail
        refine (refNone_any a _).mono ?_
        rintro e w' ⟨rfl, rfl⟩
        go_wp2_with fail
        refine (refNone_any b _).mono ?_
        rintro e w' ⟨rfl, rfl⟩
        go_wp2_with fail
        refine (refOrd_at a b o _ ha hb HO).mono ?_
        rintro e w' ⟨rfl, rfl⟩
        go_wp2
        go_ret
        exact ⟨rfl, rfl⟩
    · have h := HR.out
      rw [nA, nB] at h
      simp only [Bool.or_true, if_true] at h
      rw [h]
      clear HR h
      go_enter Tryz.func60, Tryz.ntmps60
      go_wp2_with fail
      refine (refNone_any a _).mono ?_
      rintro e w' ⟨rfl, rfl⟩
      go_wp2_with fail
      refine (refNone_any b _).mono ?_
      rintro e w' ⟨rfl, rfl⟩
      go_wp2_with fail
      refine (refQuiet_any _).mono ?_
      rintro e w' ⟨rfl, rfl⟩
      go_wp2
      go_ret
      exact ⟨rfl, rfl⟩
  · have h := HR.out
    rw [nA] at h
    simp only [Bool.true_or, if_true] at h
    rw [h]
    clear HR h
    go_enter Tryz.func60, Tryz.ntmps60
    go_wp2_with fail
    refine (refNone_any a _).mono ?_
    rintro e w' ⟨rfl, rfl⟩
    go_wp2_with fail
    refine (refQuiet_any _).mono ?_
    rintro e w' ⟨rfl, rfl⟩
    go_wp2
    go_ret
    exact ⟨rfl, rfl⟩

end Go.Proofs.YtfddlnedpfkcaaaGreatDoor

namespace Go.Proofs.YtfddlnedpfkcaaaGreatDoor
open Go.RowKit Tf
attribute [local go_sem] run_bits run_from raw_feq raw_fne raw_flt raw_fgt run_neg
theorem rdepth_no11 (n a : Int) (w : World) (h : n < 1 ∨ a < 1) :
    Calls Tryz.prog 55 #[.int .i64 n, .int .i64 a] w fun e w' => e = .returned (.float .f64 0) ∧ w' = w := by
  by_cases c : n < 1
  · go_enter Tryz.func55, Tryz.ntmps55
    go_wp2
    go_ret
    exact ⟨rfl, rfl⟩
  · have d : a < 1 := by omega
    clear h
    go_enter Tryz.func55, Tryz.ntmps55
    go_wp2
    go_ret
    exact ⟨rfl, rfl⟩
theorem rdepth_yes11 (n a : Int) (w : World) (h1 : 1 ≤ n) (h2 : 1 ≤ a) (n2 : n ≤ 9223372036854775807) (a2 : a ≤ 9223372036854775807) :
    Calls Tryz.prog 55 #[.int .i64 n, .int .i64 a] w fun e w' => e = .returned (.float .f64 (dpB n a)) ∧ ∃ k, w' = w.drewN k := by
  obtain ⟨r, k, hr, hc⟩ := div_any (P := Tryz.prog) w (fw n) (fw a)
  have e := isC_eq hc (by rw [← dp_of h1 h2]; have := dp_in h1 h2 n2 a2; omega) (by rw [← dp_of h1 h2]; have := dp_in h1 h2 n2 a2; omega)
  rw [dp_of h1 h2, ← e]
  clear e hc
  have F1 := hid (Ref2.refFromInt_at n _ w (by omega) n2 rfl)
  have F2 := hid (Ref2.refFromInt_at a _ w (by omega) a2 rfl)
  rw [show rn false (n * one) = fw n from rfl] at F1
  rw [show rn false (a * one) = fw a from rfl] at F2
  generalize fw n = x at *
  generalize fw a = y at *
  go_enter Tryz.func55, Tryz.ntmps55
  go_wp2_with fail
  refine F1.out.mono ?_
  rintro e w' ⟨rfl, rfl⟩
  go_wp2_with fail
  refine F2.out.mono ?_
  rintro e w' ⟨rfl, rfl⟩
  go_wp2
  go_ret
  exact ⟨rfl, k, rfl⟩
theorem rdepth_at11 (n a : Int) (w : World) (n2 : n ≤ 9223372036854775807) (a2 : a ≤ 9223372036854775807) :
    Calls Tryz.prog 55 #[.int .i64 n, .int .i64 a] w fun e w' => e = .returned (.float .f64 (dpB n a)) ∧ ∃ k, w' = w.drewN k := by
  by_cases c : n < 1 ∨ a < 1
  · rw [dp_zero c]
    exact (rdepth_no11 n a w c).mono fun _ _ h => ⟨h.1, 0, h.2⟩
  · exact rdepth_yes11 n a w (by omega) (by omega) n2 a2
theorem rlevel_at11 (b : Nat) (n a : Int) (w : World) (hb : b < 18446744073709551616) (n2 : n ≤ 9223372036854775807) (a2 : a ≤ 9223372036854775807) :
    Calls Tryz.prog 58 #[.float .f64 b, .int .i64 n, .int .i64 a] w fun e w' => e = .returned (.float .f64 (lvl b n a)) ∧ ∃ k, w' = w.drewN k := by
  have D := hid (rdepth_at11 n a w n2 a2)
  have e0 : lvl b n a = addB b (dpB n a) := rfl
  rw [e0]
  have hd : dpB n a < 18446744073709551616 := by have := dp_le n2 a2; omega
  clear e0
  generalize dpB n a = d at *
  have AD : Hid (∀ k : Nat, ∃ r m, (∀ t, (binOp .add t (.float .f64 b) (.float .f64 d)).run Tryz.prog (w.drewN k) = .ok (.float .f64 r) ((w.drewN k).drewN m)) ∧ IsC r (addB b d)) := fun k => add_can _ b d hb hd
  generalize addB b d = y at *
  go_enter Tryz.func58, Tryz.ntmps58
  go_wp2_with fail
  refine D.out.mono ?_
  rintro e w' ⟨rfl, k, rfl⟩
  obtain ⟨r, m, hr, hc⟩ := AD.out k
  have C := hid (refCanon_any r (w.drewN (k + m)))
  rw [hc.2] at C
  go_wp2_with fail
  refine C.out.mono ?_
  rintro e w' ⟨rfl, rfl⟩
  go_wp2
  go_ret
  exact ⟨rfl, k + m, rfl⟩
end Go.Proofs.YtfddlnedpfkcaaaGreatDoor
