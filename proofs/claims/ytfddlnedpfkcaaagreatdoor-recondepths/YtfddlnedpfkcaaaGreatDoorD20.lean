/-
  Some of the texts of this proof, one behind the other.
-/
import Derived.Deep.QuietTactic
import Derived.Deep.RegionHeld3
import Derived.Laws.CopyOwn
import Derived.Test.YtfddlnedpfkcaaaGreatDoorTie
import Derived.Test.YtfddlnedpfkcaaaGreatDoorCards
import Derived.ProofKit
import Derived.LaidMore
import Derived.OpenShut
import Derived.Stop.Joined
import Derived.Carry
import Derived.Lib.SmallJoins
import Derived.WalkLawsBesides
import Derived.Test.YtfddlnedpfkcaaaGreatDoorD19
namespace Go.Proofs.YtfddlnedpfkcaaaGreatDoor
open Go.RowKit Tf Cu
attribute [local go_sem] run_bits run_from raw_feq raw_fne raw_flt raw_fgt run_neg run_store_float
set_option maxRecDepth 100000 in
set_option maxHeartbeats 8000000 in
theorem rdps12_nil (pb pw pt ps : Option Addr) (lb cb lw cw lt ct ls cs : Nat) (sky st : Int) (k : Int) (w : World) :
    Calls Tryz.prog 8 #[.pointer none, .int .i64 k, .agg #[.slice pb lb cb, .slice pw lw cw, .slice pt lt ct, .slice ps ls cs, .int .i64 sky, .int .i64 st]] w fun e w' => e = .returned (.tuple #[.slice none 0 0, .int .i64 2]) ∧ Below w.heap.size w w' := by
  have A0 : Hid (Ab w (w.alloc (.cells #[.slice pb lb cb, .slice pw lw cw, .slice pt lt ct, .slice ps ls cs, .int .i64 sky, .int .i64 st] 25))) := bl1 _ _
  go_enter Tryz.func8, Tryz.ntmps8
  go_wp2
  go_ret2
  exact ⟨rfl, A0.out⟩
set_option maxRecDepth 100000 in
set_option maxHeartbeats 8000000 in
theorem rdps12_no (gb : Nat) (pb pw pt ps : Option Addr) (lb cb lw cw lt ct ls cs : Nat) (sky st : Int) (k : Int) (M N : Nat) (vq : Bool) (w : World)
    (hq : ((lb : Int) != (M : Int)) = true ∨ (((lb : Int) != (M : Int)) = false ∧ ((lw : Int) != (M : Int)) = true) ∨ (((lb : Int) != (M : Int)) = false ∧ ((lw : Int) != (M : Int)) = false ∧ ((ls : Int) != (N : Int)) = true) ∨ (((lb : Int) != (M : Int)) = false ∧ ((lw : Int) != (M : Int)) = false ∧ ((ls : Int) != (N : Int)) = false ∧ vq = false))
    (CC : Hid (∀ v, Ab w v → Calls Tryz.prog 27 #[(.pointer (some ⟨gb, 0, none⟩))] v fun e w' => e = .returned (.int .i64 (M : Nat)) ∧ Below v.heap.size v w'))
    (CE : Hid (∀ v, Ab w v → Calls Tryz.prog 28 #[(.pointer (some ⟨gb, 0, none⟩))] v fun e w' => e = .returned (.int .i64 (N : Nat)) ∧ Below v.heap.size v w'))
    (CVa : Hid (∀ v : World, Calls Tryz.prog 29 #[.int .i64 k] v fun e w' => e = .returned (.bool vq) ∧ Below v.heap.size v w')) :
    Calls Tryz.prog 8 #[(.pointer (some ⟨gb, 0, none⟩)), .int .i64 k, .agg #[.slice pb lb cb, .slice pw lw cw, .slice pt lt ct, .slice ps ls cs, .int .i64 sky, .int .i64 st]] w fun e w' => e = .returned (.tuple #[.slice none 0 0, .int .i64 1]) ∧ Below w.heap.size w w' := by
  have A0 : Hid (Ab w (w.alloc (.cells #[.slice pb lb cb, .slice pw lw cw, .slice pt lt ct, .slice ps ls cs, .int .i64 sky, .int .i64 st] 25))) := bl1 _ _
  have RO : Hid ((w.alloc (.cells #[.slice pb lb cb, .slice pw lw cw, .slice pt lt ct, .slice ps ls cs, .int .i64 sky, .int .i64 st] 25)).heap[w.heap.size]? = some (.cells #[.slice pb lb cb, .slice pw lw cw, .slice pt lt ct, .slice ps ls cs, .int .i64 sky, .int .i64 st] 25)) := heap_alloc_new _ _
  go_enter Tryz.func8, Tryz.ntmps8
  go_upto_region 3 with fail
  generalize hW : World.alloc w _ = W at *
  obtain ⟨gs, hgs⟩ : ∃ g, w.heap.size = g := ⟨_, rfl⟩
  rw [hgs] at RO ⊢
  have HGS := hid hgs
  clear hgs hW
  rcases hq with q1 | ⟨q1, q2⟩ | ⟨q1, q2, q3⟩ | ⟨q1, q2, q3, rfl⟩
  · obtain ⟨UU, E, hF1, hF2⟩ := cls W
    have HU := hid hF2
    have HU1 := hid hF1
    have HX : Hid (∀ u, Ab w (E u)) := fun u => Ab.trans A0.out (hF1 u)
    have s0 : ∀ u, (E u).cell? ⟨gs, 0, none⟩ = some (.slice pb lb cb) := fun u => cell_of_row _ _ 0 _ _ _ ((hF1 u).heap RO.out)
    have s1 : ∀ u, (E u).cell? ⟨gs, 1, none⟩ = some (.slice pw lw cw) := fun u => cell_of_row _ _ 1 _ _ _ ((hF1 u).heap RO.out)
    have s2 : ∀ u, (E u).cell? ⟨gs, 2, none⟩ = some (.slice pt lt ct) := fun u => cell_of_row _ _ 2 _ _ _ ((hF1 u).heap RO.out)
    have s3 : ∀ u, (E u).cell? ⟨gs, 3, none⟩ = some (.slice ps ls cs) := fun u => cell_of_row _ _ 3 _ _ _ ((hF1 u).heap RO.out)
    have s4 : ∀ u, (E u).cell? ⟨gs, 4, none⟩ = some (.int .i64 sky) := fun u => cell_of_row _ _ 4 _ _ _ ((hF1 u).heap RO.out)
    have s5 : ∀ u, (E u).cell? ⟨gs, 5, none⟩ = some (.int .i64 st) := fun u => cell_of_row _ _ 5 _ _ _ ((hF1 u).heap RO.out)
    have DD0 := HU.out _ (Ab.refl W).drew
    clear hF1 hF2
    refine region_cls E (by kernel_rfl) (by kernel_rfl) DD0 ?_
    repeat (go_big_quiet_step (first
      | (with_reducible rfl)
      | (go_at_call 27; exact calls_cls HU HU1 (CC.out _ (HX.out _)))
      | (go_at_call 28; exact calls_cls HU HU1 (CE.out _ (HX.out _)))
      | (go_at_call 29; exact calls_cls HU HU1 (CVa.out _))))
    refine wpQuiet_nil ?_
    intro z hwz
    obtain ⟨u0, hu⟩ := hwz
    have AZ : Hid (Ab w z) := by rw [hu]; exact HX.out u0
    clear hu u0
    clear HU HU1 HX DD0 s0 s1 s2 s3 s4 s5
    clear E UU
    go_wp2
    go_ret2
    exact ⟨rfl, AZ.out⟩
  · obtain ⟨UU, E, hF1, hF2⟩ := cls W
    have HU := hid hF2
    have HU1 := hid hF1
    have HX : Hid (∀ u, Ab w (E u)) := fun u => Ab.trans A0.out (hF1 u)
    have s0 : ∀ u, (E u).cell? ⟨gs, 0, none⟩ = some (.slice pb lb cb) := fun u => cell_of_row _ _ 0 _ _ _ ((hF1 u).heap RO.out)
    have s1 : ∀ u, (E u).cell? ⟨gs, 1, none⟩ = some (.slice pw lw cw) := fun u => cell_of_row _ _ 1 _ _ _ ((hF1 u).heap RO.out)
    have s2 : ∀ u, (E u).cell? ⟨gs, 2, none⟩ = some (.slice pt lt ct) := fun u => cell_of_row _ _ 2 _ _ _ ((hF1 u).heap RO.out)
    have s3 : ∀ u, (E u).cell? ⟨gs, 3, none⟩ = some (.slice ps ls cs) := fun u => cell_of_row _ _ 3 _ _ _ ((hF1 u).heap RO.out)
    have s4 : ∀ u, (E u).cell? ⟨gs, 4, none⟩ = some (.int .i64 sky) := fun u => cell_of_row _ _ 4 _ _ _ ((hF1 u).heap RO.out)
    have s5 : ∀ u, (E u).cell? ⟨gs, 5, none⟩ = some (.int .i64 st) := fun u => cell_of_row _ _ 5 _ _ _ ((hF1 u).heap RO.out)
    have DD0 := HU.out _ (Ab.refl W).drew
    clear hF1 hF2
    refine region_cls E (by kernel_rfl) (by kernel_rfl) DD0 ?_
    repeat (go_big_quiet_step (first
      | (with_reducible rfl)
      | (go_at_call 27; exact calls_cls HU HU1 (CC.out _ (HX.out _)))
      | (go_at_call 28; exact calls_cls HU HU1 (CE.out _ (HX.out _)))
      | (go_at_call 29; exact calls_cls HU HU1 (CVa.out _))))
    refine wpQuiet_nil ?_
    intro z hwz
    obtain ⟨u0, hu⟩ := hwz
    have AZ : Hid (Ab w z) := by rw [hu]; exact HX.out u0
    clear hu u0
    clear HU HU1 HX DD0 s0 s1 s2 s3 s4 s5
    clear E UU
    go_wp2
    go_ret2
    exact ⟨rfl, AZ.out⟩
  · obtain ⟨UU, E, hF1, hF2⟩ := cls W
    have HU := hid hF2
    have HU1 := hid hF1
    have HX : Hid (∀ u, Ab w (E u)) := fun u => Ab.trans A0.out (hF1 u)
    have s0 : ∀ u, (E u).cell? ⟨gs, 0, none⟩ = some (.slice pb lb cb) := fun u => cell_of_row _ _ 0 _ _ _ ((hF1 u).heap RO.out)
    have s1 : ∀ u, (E u).cell? ⟨gs, 1, none⟩ = some (.slice pw lw cw) := fun u => cell_of_row _ _ 1 _ _ _ ((hF1 u).heap RO.out)
    have s2 : ∀ u, (E u).cell? ⟨gs, 2, none⟩ = some (.slice pt lt ct) := fun u => cell_of_row _ _ 2 _ _ _ ((hF1 u).heap RO.out)
    have s3 : ∀ u, (E u).cell? ⟨gs, 3, none⟩ = some (.slice ps ls cs) := fun u => cell_of_row _ _ 3 _ _ _ ((hF1 u).heap RO.out)
    have s4 : ∀ u, (E u).cell? ⟨gs, 4, none⟩ = some (.int .i64 sky) := fun u => cell_of_row _ _ 4 _ _ _ ((hF1 u).heap RO.out)
    have s5 : ∀ u, (E u).cell? ⟨gs, 5, none⟩ = some (.int .i64 st) := fun u => cell_of_row _ _ 5 _ _ _ ((hF1 u).heap RO.out)
    have DD0 := HU.out _ (Ab.refl W).drew
    clear hF1 hF2
    refine region_cls E (by kernel_rfl) (by kernel_rfl) DD0 ?_
    repeat (go_big_quiet_step (first
      | (with_reducible rfl)
      | (go_at_call 27; exact calls_cls HU HU1 (CC.out _ (HX.out _)))
      | (go_at_call 28; exact calls_cls HU HU1 (CE.out _ (HX.out _)))
      | (go_at_call 29; exact calls_cls HU HU1 (CVa.out _))))
    refine wpQuiet_nil ?_
    intro z hwz
    obtain ⟨u0, hu⟩ := hwz
    have AZ : Hid (Ab w z) := by rw [hu]; exact HX.out u0
    clear hu u0
    clear HU HU1 HX DD0 s0 s1 s2 s3 s4 s5
    clear E UU
    go_wp2
    go_ret2
    exact ⟨rfl, AZ.out⟩
  · obtain ⟨UU, E, hF1, hF2⟩ := cls W
    have HU := hid hF2
    have HU1 := hid hF1
    have HX : Hid (∀ u, Ab w (E u)) := fun u => Ab.trans A0.out (hF1 u)
    have s0 : ∀ u, (E u).cell? ⟨gs, 0, none⟩ = some (.slice pb lb cb) := fun u => cell_of_row _ _ 0 _ _ _ ((hF1 u).heap RO.out)
    have s1 : ∀ u, (E u).cell? ⟨gs, 1, none⟩ = some (.slice pw lw cw) := fun u => cell_of_row _ _ 1 _ _ _ ((hF1 u).heap RO.out)
    have s2 : ∀ u, (E u).cell? ⟨gs, 2, none⟩ = some (.slice pt lt ct) := fun u => cell_of_row _ _ 2 _ _ _ ((hF1 u).heap RO.out)
    have s3 : ∀ u, (E u).cell? ⟨gs, 3, none⟩ = some (.slice ps ls cs) := fun u => cell_of_row _ _ 3 _ _ _ ((hF1 u).heap RO.out)
    have s4 : ∀ u, (E u).cell? ⟨gs, 4, none⟩ = some (.int .i64 sky) := fun u => cell_of_row _ _ 4 _ _ _ ((hF1 u).heap RO.out)
    have s5 : ∀ u, (E u).cell? ⟨gs, 5, none⟩ = some (.int .i64 st) := fun u => cell_of_row _ _ 5 _ _ _ ((hF1 u).heap RO.out)
    have DD0 := HU.out _ (Ab.refl W).drew
    clear hF1 hF2
    refine region_cls E (by kernel_rfl) (by kernel_rfl) DD0 ?_
    repeat (go_big_quiet_step (first
      | (with_reducible rfl)
      | (go_at_call 27; exact calls_cls HU HU1 (CC.out _ (HX.out _)))
      | (go_at_call 28; exact calls_cls HU HU1 (CE.out _ (HX.out _)))
      | (go_at_call 29; exact calls_cls HU HU1 (CVa.out _))))
    refine wpQuiet_nil ?_
    intro z hwz
    obtain ⟨u0, hu⟩ := hwz
    have AZ : Hid (Ab w z) := by rw [hu]; exact HX.out u0
    clear hu u0
    clear HU HU1 HX DD0 s0 s1 s2 s3 s4 s5
    clear E UU
    go_wp2
    go_ret2
    exact ⟨rfl, AZ.out⟩
set_option maxRecDepth 100000 in
set_option maxHeartbeats 8000000 in
theorem rdps12_go (gb : Nat) (pb pw pt : Option Addr) (M cb cw lt ct sb so cs : Nat) (sky st : Int) (k : Int) (N : Nat) (Sp D : Nat → Nat) (w : World) (hN : N ≤ 1048576) (LD : Hid (∀ i, i < N → D i < 18446744073709551616))
    (CC : Hid (∀ v, Ab w v → Calls Tryz.prog 27 #[(.pointer (some ⟨gb, 0, none⟩))] v fun e w' => e = .returned (.int .i64 (M : Nat)) ∧ Below v.heap.size v w'))
    (CE : Hid (∀ v, Ab w v → Calls Tryz.prog 28 #[(.pointer (some ⟨gb, 0, none⟩))] v fun e w' => e = .returned (.int .i64 (N : Nat)) ∧ Below v.heap.size v w'))
    (CVa : Hid (∀ v : World, Calls Tryz.prog 29 #[.int .i64 k] v fun e w' => e = .returned (.bool true) ∧ Below v.heap.size v w'))
    (FSp : Hid (∀ c, c < N → ∀ v, Ab w v → v.cell? ⟨sb, so + c, none⟩ = some (.float .f64 (Sp c))))
    (CD : Hid (∀ c, c < N → ∀ v, Ab w v → Calls Tryz.prog 30 #[(.pointer (some ⟨gb, 0, none⟩)), .int .i64 k, .agg #[.slice pb M cb, .slice pw M cw, .slice pt lt ct, .slice (some ⟨sb, so, none⟩) N cs, .int .i64 sky, .int .i64 st], .int .i64 (c : Nat), .float .f64 (Sp c)] v fun e w' => e = .returned (.float .f64 (D c)) ∧ Below v.heap.size v w')) :
    Calls Tryz.prog 8 #[(.pointer (some ⟨gb, 0, none⟩)), .int .i64 k, .agg #[.slice pb M cb, .slice pw M cw, .slice pt lt ct, .slice (some ⟨sb, so, none⟩) N cs, .int .i64 sky, .int .i64 st]] w fun e w' => ∃ a0 cap, e = .returned (.tuple #[.slice a0 N cap, .int .i64 0]) ∧ Below w.heap.size w w' ∧ IsFl w' a0 N D := by
  obtain ⟨i0, hi, hz0, hz1, hz2⟩ := info_g
  have IP := hid (And.intro hi (And.intro hz0 (And.intro hz1 hz2)))
  clear hi hz0 hz1 hz2
  have HN := hid hN
  have q1 : ((M : Int) != (M : Int)) = false := by simp
  have q2 : ((N : Int) != (N : Int)) = false := by simp
  clear hN
  have A0 : Hid (Ab w (w.alloc (.cells #[.slice pb M cb, .slice pw M cw, .slice pt lt ct, .slice (some ⟨sb, so, none⟩) N cs, .int .i64 sky, .int .i64 st] 25))) := bl1 _ _
  have RO : Hid ((w.alloc (.cells #[.slice pb M cb, .slice pw M cw, .slice pt lt ct, .slice (some ⟨sb, so, none⟩) N cs, .int .i64 sky, .int .i64 st] 25)).heap[w.heap.size]? = some (.cells #[.slice pb M cb, .slice pw M cw, .slice pt lt ct, .slice (some ⟨sb, so, none⟩) N cs, .int .i64 sky, .int .i64 st] 25)) := heap_alloc_new _ _
  go_enter Tryz.func8, Tryz.ntmps8
  go_upto_region 3 with fail
  generalize hW : World.alloc w _ = W at *
  obtain ⟨gs, hgs⟩ : ∃ g, w.heap.size = g := ⟨_, rfl⟩
  rw [hgs] at RO ⊢
  have HGS := hid hgs
  clear hgs hW
  obtain ⟨UU, E, hF1, hF2⟩ := cls W
  have HU := hid hF2
  have HU1 := hid hF1
  have HX : Hid (∀ u, Ab w (E u)) := fun u => Ab.trans A0.out (hF1 u)
  have s0 : ∀ u, (E u).cell? ⟨gs, 0, none⟩ = some (.slice pb M cb) := fun u => cell_of_row _ _ 0 _ _ _ ((hF1 u).heap RO.out)
  have s1 : ∀ u, (E u).cell? ⟨gs, 1, none⟩ = some (.slice pw M cw) := fun u => cell_of_row _ _ 1 _ _ _ ((hF1 u).heap RO.out)
  have s2 : ∀ u, (E u).cell? ⟨gs, 2, none⟩ = some (.slice pt lt ct) := fun u => cell_of_row _ _ 2 _ _ _ ((hF1 u).heap RO.out)
  have s3 : ∀ u, (E u).cell? ⟨gs, 3, none⟩ = some (.slice (some ⟨sb, so, none⟩) N cs) := fun u => cell_of_row _ _ 3 _ _ _ ((hF1 u).heap RO.out)
  have s4 : ∀ u, (E u).cell? ⟨gs, 4, none⟩ = some (.int .i64 sky) := fun u => cell_of_row _ _ 4 _ _ _ ((hF1 u).heap RO.out)
  have s5 : ∀ u, (E u).cell? ⟨gs, 5, none⟩ = some (.int .i64 st) := fun u => cell_of_row _ _ 5 _ _ _ ((hF1 u).heap RO.out)
  have DD0 := HU.out _ (Ab.refl W).drew
  clear hF1 hF2
  refine region_cls E (by kernel_rfl) (by kernel_rfl) DD0 ?_
  repeat (go_big_quiet_step (first
    | (with_reducible rfl)
    | (go_at_call 27; exact calls_cls HU HU1 (CC.out _ (HX.out _)))
    | (go_at_call 28; exact calls_cls HU HU1 (CE.out _ (HX.out _)))
    | (go_at_call 29; exact calls_cls HU HU1 (CVa.out _))))
  refine wpQuiet_nil ?_
  intro z hwz
  obtain ⟨u0, hu⟩ := hwz
  have AZ : Hid (Ab W z) := by rw [hu]; exact HU1.out u0
  clear hu u0
  clear HU HU1 HX DD0 s0 s1 s2 s3 s4 s5
  clear E UU
  go_wp2_with fail
  have OI : Hid (OwnG W.heap.size (.slice (some ⟨z.heap.size, 0, none⟩) 0 0) [] (z.alloc (.cells #[] 43))) := OwnG.new z _ AZ.out.size
  have AI : Hid (Ab W (z.alloc (.cells #[] 43))) := AZ.out.alloc _
  go_loopw [8, 9] (fun lv iv wr => ∃ c : Nat, c ≤ N ∧ iv = .int .i64 (c : Nat) ∧ OwnG W.heap.size lv ((List.range c).map D) wr ∧ Ab W wr) (fun _ iv _ => N - (intOf iv).toNat)
  case atStart => exact ⟨0, by omega, rfl, OI.out, AI.out⟩
  case round =>
    obtain ⟨c, hc, rfl, ow, ar⟩ := hrel
    clear OI AI AZ
    have OW := hid ow
    have AR := hid ar
    clear ow ar
    by_cases hcN : c < N
    · have HC := hid hcN
      have hcI : (c : Int) < N := by omega
      have hcB : (c : Int) ≤ 1048576 := by have := HN.out; omega
      obtain ⟨x, hx⟩ : ∃ x, Sp c = x := ⟨_, rfl⟩
      obtain ⟨y, hy⟩ : ∃ y, D c = y := ⟨_, rfl⟩
      have CDc := hid (CD.out c hcN)
      rw [hx, hy] at CDc
      have HX2 := hid hx
      have HY := hid hy
      clear hx hy hcN
      go_wp2_with fail
      refine (CE.out _ (A0.out.trans AR.out)).mono ?_
      rintro e9 v1 ⟨rfl, b1⟩
      have A1 : Hid (Ab W v1) := AR.out.call b1
      have O1 := hid (OW.out.to b1)
      clear b1 OW AR
      go_upto_region 9 with fail
      have hlen : ((List.range c).map D).length = c := by simp
      have HLEN := hid hlen
      obtain ⟨la, hla⟩ : ∃ la, (List.range c).map D = la := ⟨_, rfl⟩
      rw [hla] at O1 HLEN
      have HLA := hid hla
      clear hlen hla
      have KS : Hid (∀ w', Ab W w' → Ab W w' ∧ w'.cell? ⟨gs, 0, none⟩ = some (.slice pb M cb) ∧ w'.cell? ⟨gs, 1, none⟩ = some (.slice pw M cw) ∧ w'.cell? ⟨gs, 2, none⟩ = some (.slice pt lt ct) ∧ w'.cell? ⟨gs, 3, none⟩ = some (.slice (some ⟨sb, so, none⟩) N cs) ∧ w'.cell? ⟨gs, 4, none⟩ = some (.int .i64 sky) ∧ w'.cell? ⟨gs, 5, none⟩ = some (.int .i64 st) ∧ w'.cell? ⟨sb, so + c, none⟩ = some (.float .f64 x)) := fun w' h => ⟨h, cell_of_row _ _ 0 _ _ _ (h.heap RO.out), cell_of_row _ _ 1 _ _ _ (h.heap RO.out), cell_of_row _ _ 2 _ _ _ (h.heap RO.out), cell_of_row _ _ 3 _ _ _ (h.heap RO.out), cell_of_row _ _ 4 _ _ _ (h.heap RO.out), cell_of_row _ _ 5 _ _ _ (h.heap RO.out), (FSp.out c HC.out _ (A0.out.trans h)).trans (by rw [HX2.out])⟩
      have A2 := A1.out
      have AD := A1.out.drew
      go_region_held3 (fun w' => Ab W w' ∧ w'.cell? ⟨gs, 0, none⟩ = some (.slice pb M cb) ∧ w'.cell? ⟨gs, 1, none⟩ = some (.slice pw M cw) ∧ w'.cell? ⟨gs, 2, none⟩ = some (.slice pt lt ct) ∧ w'.cell? ⟨gs, 3, none⟩ = some (.slice (some ⟨sb, so, none⟩) N cs) ∧ w'.cell? ⟨gs, 4, none⟩ = some (.int .i64 sky) ∧ w'.cell? ⟨gs, 5, none⟩ = some (.int .i64 st) ∧ w'.cell? ⟨sb, so + c, none⟩ = some (.float .f64 x)) ((refine KS.out _ ?_; (with_reducible (repeat (first | assumption | apply Ab.drew | apply Ab.drewN | apply Ab.alloc | (refine Ab.call ?_ (by assumption))))); done)) (first
        | (go_at_call 30; refine (CDc.out _ (A0.out.trans AD)).mono ?_; rintro e9 w3 ⟨rfl, b3⟩)
        | (refine step_append_lies _ (by rfl) _ _ 22 (by rfl) W.heap.size 43 i0 (.float .f64 0) 1 8 Tryz.underlying22 IP.out.1 IP.out.2.1 IP.out.2.2.1 IP.out.2.2.2 rfl (by decide) _ la.length (la.map (Value.float .f64)) (by rfl) (World.ownsRow.alloc (O1.out.to (Ab.call (Ab.drew (Ab.refl _)) b3)) _) ⟨w3.heap.size, 0, none⟩ 1 1 [.float .f64 y] (by rfl) (by rfl) (World.news_of_block (cs := #[.float .f64 y]) (t := 43) (fr := (0, 0)) (heap_alloc_new w3 _)) (one_cellsG y) (by decide) (by have := HLEN.out; have := HN.out; have := HC.out; unfold maxLen; omega) (by have := HLEN.out; have := HN.out; have := HC.out; omega) (by have := (Ab.call AD b3).size; simp; omega) _ rfl ?_; intro g1 c1 w4 o4 g4 e4 l4; have R4 := hid (OwnG.pushed (w0 := W) (O1.out.to (Ab.call (Ab.drew (Ab.refl _)) b3)) (Ab.call AD b3) o4 g4); have AB4 := R4.out.2; clear o4 g4 e4 l4))
      clear A2 AD b3 KS
      go_wp2
      refine ⟨⟨c + 1, by have := HC.out; omega, by simp, ?_, AB4⟩, by simp [intOf]; have := HC.out; omega⟩
      have e7 : (List.range (c + 1)).map D = la ++ [y] := by rw [List.range_succ, List.map_append, HLA.out]; simp [HY.out]
      rw [e7]
      exact R4.out.1
    · have e6 : N = c := by omega
      subst e6
      obtain ⟨a0, cap, hv, hfl⟩ := OW.out.fl (fun x hx => by
        obtain ⟨i, hi, rfl⟩ := List.mem_map.1 hx
        exact LD.out i (List.mem_range.1 hi))
      rw [List.length_map, List.length_range] at hv hfl
      subst hv
      have HF : Hid (IsFl wr a0 N D) := fun j hj => by
        obtain ⟨h1, b1, o1, h2, h3, h4⟩ := hfl j hj
        have e : ((List.range N).map D).getD j 0 = D j := by simp [List.getD, hj]
        dsimp only at h1 h4
        rw [e] at h1 h4
        exact ⟨h1, b1, o1, h2, h3, h4⟩
      clear hfl OW
      go_wp2_with fail
      refine (CE.out _ (A0.out.trans AR.out)).mono ?_
      rintro e9 v1 ⟨rfl, b1⟩
      have A1 : Hid (Ab w v1) := (A0.out.trans AR.out).call b1
      have F1 := hid (IsFl.below HF.out b1)
      clear b1 AR HF
      go_wp2
      go_ret2
      exact ⟨a0, cap, rfl, A1.out, F1.out⟩
end Go.Proofs.YtfddlnedpfkcaaaGreatDoor

namespace Go.Proofs.YtfddlnedpfkcaaaGreatDoor
open Go.RowKit Tf Cu Go.Deep
attribute [local go_sem] run_bits run_from raw_feq raw_fne raw_flt raw_fgt run_neg run_store_float
set_option maxRecDepth 100000 in
set_option maxHeartbeats 4000000 in
theorem all12_at (pa pb : Option Addr) (len ca cb : Nat) (xs : Nat → Nat) (w : World) (hl : len ≤ 281474976710656) (hA : IsFl w pa len xs) (hB : IsFl w pb len xs) :
    Calls Tryz.prog 9 #[.slice pa len ca, .slice pb len cb] w fun e w' => e = .returned (.bool true) ∧ Below w.heap.size w w' := by
  have SS : Hid (∀ (x : Nat) (v : World), Calls Tryz.prog 31 #[.float .f64 x, .float .f64 x] v fun e w' => e = .returned (.bool true) ∧ Below v.heap.size v w') := fun x v => by
    have h := rawSame_any x x v
    rw [show sameB x x = true by unfold sameB; exact decide_eq_true rfl] at h
    exact h.mono fun _ _ ⟨he, hw⟩ => ⟨he, by rw [hw]; exact Below.refl _ _⟩
  have HA := hid hA
  have HB := hid hB
  have HL := hid hl
  clear hA hB hl
  go_enter Tryz.func9, Tryz.ntmps9
  go_wp2
  go_loopw [5] (fun iv wr => ∃ c : Nat, c ≤ len ∧ iv = .int .i64 (c : Nat) ∧ Ab w wr) (fun iv _ => len - (intOf iv).toNat)
  case atStart => exact ⟨0, by omega, rfl, Ab.refl w⟩
  case round =>
    obtain ⟨c, hc, rfl, ar⟩ := hrel
    have AR := hid ar
    clear ar
    by_cases h : c < len
    · have HC := hid h
      obtain ⟨x, hx⟩ : ∃ x, xs c = x := ⟨_, rfl⟩
      obtain ⟨-, b1, o1, e1, l1, c1⟩ := HA.out c h
      obtain ⟨-, b2, o2, e2, l2, c2⟩ := HB.out c h
      rw [hx] at c1 c2
      have C1 := hid c1
      have C2 := hid c2
      have L1 := hid l1
      have L2 := hid l2
      have hcI : (c : Int) < len := by omega
      have hcB : (c : Int) ≤ 281474976710656 := by have := HL.out; omega
      clear c1 c2 l1 l2 hx h
      subst e1 e2
      go_upto_region 6 with fail
      obtain ⟨UU, E, hF1, hF2⟩ := cls wr
      have HU := hid hF2
      have HU1 := hid hF1
      have x1 : ∀ u, (E u).cell? ⟨b1, o1 + c, none⟩ = some (.float .f64 x) := fun u => (Below.cell (AR.out.trans (hF1 u)) L1.out).trans C1.out
      have x2 : ∀ u, (E u).cell? ⟨b2, o2 + c, none⟩ = some (.float .f64 x) := fun u => (Below.cell (AR.out.trans (hF1 u)) L2.out).trans C2.out
      have DD0 := HU.out _ (Ab.refl wr).drew
      clear hF1 hF2
      refine region_cls E (by kernel_rfl) (by kernel_rfl) DD0 ?_
      repeat (go_big_quiet_step (first
        | (with_reducible rfl)
        | (go_at_call 31; exact calls_cls HU HU1 (SS.out _ _))))
      refine wpQuiet_nil ?_
      intro z hwz
      obtain ⟨u0, hu⟩ := hwz
      have AZ : Hid (Ab w z) := by rw [hu]; exact AR.out.trans (HU1.out u0)
      clear hu u0
      clear HU HU1 DD0 x1 x2
      clear E UU
      go_wp2
      go_roundw
      case rel => exact ⟨c + 1, by have := HC.out; omega, by simp, AZ.out⟩
      case measure => simp [intOf]; have := HC.out; omega
    · have e : len = c := by omega
      subst e
      go_wp2
      go_ret
      exact ⟨rfl, AR.out⟩
end Go.Proofs.YtfddlnedpfkcaaaGreatDoor

namespace Go.Proofs.YtfddlnedpfkcaaaGreatDoor
open Go.RowKit Tf Cu
attribute [local go_sem] run_bits run_from raw_feq raw_fne raw_flt raw_fgt run_neg run_store_float
set_option maxRecDepth 100000 in
set_option maxHeartbeats 8000000 in
theorem depths12_go (side lim : Int) (pb pw pt ps : Option Addr) (lb cb lw cw lt ct ls cs : Nat) (sky st : Int) (len : Nat) (D : Nat → Nat) (er e2 : Int) (w : World) (hl : Hid (len ≤ 281474976710656))
    (AWK : Hid (∀ v, Ab w v → Calls Tryz.prog 4 #[] v fun e w' => e = .returned (.bool true) ∧ Below v.heap.size v w'))
    (NI : Hid (∀ v, Ab w v → Calls Tryz.prog 5 #[.pointer none, .int .i64 lim, .agg #[.slice pb lb cb, .slice pw lw cw, .slice pt lt ct, .slice ps ls cs, .int .i64 sky, .int .i64 st]] v fun e w' => e = .returned (.tuple #[.slice none 0 0, .int .i64 2]) ∧ Below v.heap.size v w'))
    (NG : Hid (∀ v, Ab w v → Calls Tryz.prog 6 #[.int .i64 side] v fun e' w' => ∃ gp, e' = .returned (.tuple #[gp, .int .i64 er]) ∧ Below v.heap.size v w' ∧ Hid (∀ v, Ab w' v → Calls Tryz.prog 5 #[gp, .int .i64 lim, .agg #[.slice pb lb cb, .slice pw lw cw, .slice pt lt ct, .slice ps ls cs, .int .i64 sky, .int .i64 st]] v fun e w' => ∃ a0 cap, e = .returned (.tuple #[.slice a0 len cap, .int .i64 e2]) ∧ Below v.heap.size v w' ∧ IsFl w' a0 len D)))
    (NR : Hid (∀ v, Ab w v → Calls Tryz.prog 7 #[.int .i64 side] v fun e' w' => ∃ gp, e' = .returned (.tuple #[gp, .int .i64 er]) ∧ Below v.heap.size v w' ∧ Hid (∀ v, Ab w' v → Calls Tryz.prog 8 #[gp, .int .i64 lim, .agg #[.slice pb lb cb, .slice pw lw cw, .slice pt lt ct, .slice ps ls cs, .int .i64 sky, .int .i64 st]] v fun e w' => ∃ a0 cap, e = .returned (.tuple #[.slice a0 len cap, .int .i64 e2]) ∧ Below v.heap.size v w' ∧ IsFl w' a0 len D))) :
    Calls Tryz.prog 3 #[.agg #[.int .i64 side, .int .i64 lim, .slice pb lb cb, .slice pw lw cw, .slice pt lt ct, .slice ps ls cs, .int .i64 sky, .int .i64 st]] w fun e w' => e = .returned (.bool true) ∧ Below w.heap.size w w' := by
  have A0 : Hid (Ab w (w.alloc (.cells #[.int .i64 side, .int .i64 lim, .slice pb lb cb, .slice pw lw cw, .slice pt lt ct, .slice ps ls cs, .int .i64 sky, .int .i64 st] 27))) := bl1 _ _
  have RO0 : Hid ((w.alloc (.cells #[.int .i64 side, .int .i64 lim, .slice pb lb cb, .slice pw lw cw, .slice pt lt ct, .slice ps ls cs, .int .i64 sky, .int .i64 st] 27)).heap[w.heap.size]? = some (.cells #[.int .i64 side, .int .i64 lim, .slice pb lb cb, .slice pw lw cw, .slice pt lt ct, .slice ps ls cs, .int .i64 sky, .int .i64 st] 27)) := heap_alloc_new _ _
  go_enter Tryz.func3, Tryz.ntmps3
  go_wp2_with fail
  refine (AWK.out _ A0.out).mono ?_
  rintro e9 v1 ⟨rfl, k1⟩
  have A1 : Hid (Ab w v1) := A0.out.call k1
  have RO1 : Hid (v1.heap[w.heap.size]? = some (.cells #[.int .i64 side, .int .i64 lim, .slice pb lb cb, .slice pw lw cw, .slice pt lt ct, .slice ps ls cs, .int .i64 sky, .int .i64 st] 27)) := Ab.heap k1 RO0.out
  clear k1 RO0 A0
  have c0 := cell_of_row _ _ 0 _ _ _ (RO1.out)
  have c1 := cell_of_row _ _ 1 _ _ _ (RO1.out)
  have c2 := cell_of_row _ _ 2 _ _ _ (RO1.out)
  have c3 := cell_of_row _ _ 3 _ _ _ (RO1.out)
  have c4 := cell_of_row _ _ 4 _ _ _ (RO1.out)
  have c5 := cell_of_row _ _ 5 _ _ _ (RO1.out)
  have c6 := cell_of_row _ _ 6 _ _ _ (RO1.out)
  have c7 := cell_of_row _ _ 7 _ _ _ (RO1.out)
  go_wp2_with fail
  refine (NI.out _ A1.out).mono ?_
  rintro e9 v2 ⟨rfl, k2⟩
  have A2 : Hid (Ab w v2) := A1.out.call k2
  have RO2 : Hid (v2.heap[w.heap.size]? = some (.cells #[.int .i64 side, .int .i64 lim, .slice pb lb cb, .slice pw lw cw, .slice pt lt ct, .slice ps ls cs, .int .i64 sky, .int .i64 st] 27)) := Ab.heap k2 RO1.out
  clear k2 RO1 A1
  clear c0 c1 c2 c3 c4 c5 c6 c7
  have c0 := cell_of_row _ _ 0 _ _ _ (RO2.out)
  have c1 := cell_of_row _ _ 1 _ _ _ (RO2.out)
  have c2 := cell_of_row _ _ 2 _ _ _ (RO2.out)
  have c3 := cell_of_row _ _ 3 _ _ _ (RO2.out)
  have c4 := cell_of_row _ _ 4 _ _ _ (RO2.out)
  have c5 := cell_of_row _ _ 5 _ _ _ (RO2.out)
  have c6 := cell_of_row _ _ 6 _ _ _ (RO2.out)
  have c7 := cell_of_row _ _ 7 _ _ _ (RO2.out)
  go_wp2_with fail
  refine (NG.out _ A2.out).mono ?_
  rintro e9 v3 ⟨gp, rfl, k3, D1⟩
  have A3 : Hid (Ab w v3) := A2.out.call k3
  have RO3 : Hid (v3.heap[w.heap.size]? = some (.cells #[.int .i64 side, .int .i64 lim, .slice pb lb cb, .slice pw lw cw, .slice pt lt ct, .slice ps ls cs, .int .i64 sky, .int .i64 st] 27)) := Ab.heap k3 RO2.out
  clear k3 RO2 A2
  clear c0 c1 c2 c3 c4 c5 c6 c7
  have c0 := cell_of_row _ _ 0 _ _ _ (RO3.out)
  have c1 := cell_of_row _ _ 1 _ _ _ (RO3.out)
  have c2 := cell_of_row _ _ 2 _ _ _ (RO3.out)
  have c3 := cell_of_row _ _ 3 _ _ _ (RO3.out)
  have c4 := cell_of_row _ _ 4 _ _ _ (RO3.out)
  have c5 := cell_of_row _ _ 5 _ _ _ (RO3.out)
  have c6 := cell_of_row _ _ 6 _ _ _ (RO3.out)
  have c7 := cell_of_row _ _ 7 _ _ _ (RO3.out)
  go_wp2_with fail
  refine (NR.out _ A3.out).mono ?_
  rintro e9 v4 ⟨rp, rfl, k4, R1⟩
  have A4 : Hid (Ab w v4) := A3.out.call k4
  have RO4 : Hid (v4.heap[w.heap.size]? = some (.cells #[.int .i64 side, .int .i64 lim, .slice pb lb cb, .slice pw lw cw, .slice pt lt ct, .slice ps ls cs, .int .i64 sky, .int .i64 st] 27)) := Ab.heap k4 RO3.out
  have D1' := hid (D1.out v4 k4)
  clear k4 RO3 A3 D1
  clear c0 c1 c2 c3 c4 c5 c6 c7
  have c0 := cell_of_row _ _ 0 _ _ _ (RO4.out)
  have c1 := cell_of_row _ _ 1 _ _ _ (RO4.out)
  have c2 := cell_of_row _ _ 2 _ _ _ (RO4.out)
  have c3 := cell_of_row _ _ 3 _ _ _ (RO4.out)
  have c4 := cell_of_row _ _ 4 _ _ _ (RO4.out)
  have c5 := cell_of_row _ _ 5 _ _ _ (RO4.out)
  have c6 := cell_of_row _ _ 6 _ _ _ (RO4.out)
  have c7 := cell_of_row _ _ 7 _ _ _ (RO4.out)
  go_wp2_with fail
  refine D1'.out.mono ?_
  rintro e9 v5 ⟨a0, ca, rfl, k5, f5⟩
  have A5 : Hid (Ab w v5) := A4.out.call k5
  have RO5 : Hid (v5.heap[w.heap.size]? = some (.cells #[.int .i64 side, .int .i64 lim, .slice pb lb cb, .slice pw lw cw, .slice pt lt ct, .slice ps ls cs, .int .i64 sky, .int .i64 st] 27)) := Ab.heap k5 RO4.out
  have F5 := hid f5
  have R1' := hid (R1.out v5 k5)
  clear k5 RO4 A4 D1' f5 R1
  clear c0 c1 c2 c3 c4 c5 c6 c7
  have c0 := cell_of_row _ _ 0 _ _ _ (RO5.out)
  have c1 := cell_of_row _ _ 1 _ _ _ (RO5.out)
  have c2 := cell_of_row _ _ 2 _ _ _ (RO5.out)
  have c3 := cell_of_row _ _ 3 _ _ _ (RO5.out)
  have c4 := cell_of_row _ _ 4 _ _ _ (RO5.out)
  have c5 := cell_of_row _ _ 5 _ _ _ (RO5.out)
  have c6 := cell_of_row _ _ 6 _ _ _ (RO5.out)
  have c7 := cell_of_row _ _ 7 _ _ _ (RO5.out)
  go_wp2_with fail
  refine R1'.out.mono ?_
  rintro e9 v6 ⟨b0, cb0, rfl, k6, f6⟩
  have A6 : Hid (Ab w v6) := A5.out.call k6
  have F6 := hid f6
  have F7 := hid (F5.out.below k6)
  clear k6 RO5 A5 R1' f6 F5
  clear c0 c1 c2 c3 c4 c5 c6 c7
  go_wp2_with fail
  refine (all12_at a0 b0 len ca cb0 D v6 hl.out F7.out F6.out).mono ?_
  rintro e9 v7 ⟨rfl, k7⟩
  have A7 : Hid (Ab w v7) := A6.out.call k7
  clear k7
  go_wp2
  go_ret
  exact ⟨rfl, A7.out⟩
theorem rdAll_lt {n : Nat} {k : Int} {lb lw : Nat} {B : Nat → Nat} {W : Nat → Int} {w : World} {pb pw : Option Addr} (hn : 1 ≤ n) (hB : IsFl w pb lb B) (hW : IsIn w pw lw W) (e : Int) (u : Nat) : rdAll n k lb lw B W e u < 18446744073709551616 := by
  unfold rdAll
  split
  · rename_i c
    obtain ⟨c1, rfl, rfl⟩ := c
    obtain ⟨E, rfl, hE⟩ := inR_nat c1
    rw [Int.toNat_natCast]
    obtain ⟨t1, t2, t3⟩ := edT_spec hn hE
    generalize edT n E = t at *
    have key : ∀ t, t < 24 * n * n → sdD n k (arC n) B W t < 18446744073709551616 := fun t ht => by
      have cU := t_cell ht
      have cD := t_cell (mt_lt hn ht)
      have wU := (hW _ cU).1.2
      have bU := (hB _ cU).1
      have bD := (hB _ cD).1
      unfold sdD ovC rcR
      refine pos0_lt (minB_lt (rcV_lt (by have := dp_le wU (arC_in n (t / 4)).2; omega)) ?_)
      unfold rcG sbB
      exact addB_lt _ _ (lvl_lt bU wU (arC_in n _).2) (negB_lt' (maxB_lt bU bD))
    unfold rdT
    split
    · exact key _ t1
    · split
      · exact key _ (mt_lt hn t1)
      · decide
  · decide
set_option maxRecDepth 100000 in
theorem rdepths12_at {n rb : Nat} (k : Int) {pb : Option Addr} {lb cb : Nat} {B : Nat → Nat} {pw : Option Addr} {lw cw : Nat} {Wt : Nat → Int} (pt : Option Addr) (lt ct : Nat) {ps : Option Addr} {ls cs : Nat} {Sp : Nat → Nat} (sky st : Int) (w : World) (hn : 1 ≤ n ∧ n ≤ 32) (g : RefOf n rb w) (hB : IsFl w pb lb B) (hW : IsIn w pw lw Wt) (hS : IsFl w ps ls Sp) :
    (((lb = 6 * n * n ∧ lw = 6 * n * n) ∧ ls = 12 * n * n ∧ (0 ≤ k ∧ k ≤ 3)) → Calls Tryz.prog 8 #[.pointer (some ⟨rb, 0, none⟩), .int .i64 k, .agg #[.slice pb lb cb, .slice pw lw cw, .slice pt lt ct, .slice ps ls cs, .int .i64 sky, .int .i64 st]] w fun e w' => ∃ a0 cap, e = .returned (.tuple #[.slice a0 (12 * n * n) cap, .int .i64 0]) ∧ Below w.heap.size w w' ∧ IsFl w' a0 (12 * n * n) (fun i => rdAll n k lb lw B Wt (i : Nat) (Sp i))) ∧
    (¬ ((lb = 6 * n * n ∧ lw = 6 * n * n) ∧ ls = 12 * n * n ∧ (0 ≤ k ∧ k ≤ 3)) → Calls Tryz.prog 8 #[.pointer (some ⟨rb, 0, none⟩), .int .i64 k, .agg #[.slice pb lb cb, .slice pw lw cw, .slice pt lt ct, .slice ps ls cs, .int .i64 sky, .int .i64 st]] w fun e w' => e = .returned (.tuple #[.slice none 0 0, .int .i64 1]) ∧ Below w.heap.size w w') := by
  have en := edges_n2 hn
  have CC : Hid (∀ v, Ab w v → Calls Tryz.prog 27 #[.pointer (some ⟨rb, 0, none⟩)] v fun e w' => e = .returned (.int .i64 (6 * n * n : Nat)) ∧ Below v.heap.size v w') := fun v hv => (rCells_at hn (g.to hv)).mono fun _ _ h => ⟨h.1, by obtain ⟨_, rfl⟩ := h; exact Below.refl _ _⟩
  have CE : Hid (∀ v, Ab w v → Calls Tryz.prog 28 #[.pointer (some ⟨rb, 0, none⟩)] v fun e w' => e = .returned (.int .i64 (12 * n * n : Nat)) ∧ Below v.heap.size v w') := fun v hv => (rEdges_at (g.to hv)).mono fun _ _ h => ⟨h.1, by obtain ⟨_, rfl⟩ := h; exact Below.refl _ _⟩
  have CVa : Hid (∀ v : World, Calls Tryz.prog 29 #[.int .i64 k] v fun e w' => e = .returned (.bool (decide (0 ≤ k ∧ k ≤ 3))) ∧ Below v.heap.size v w') := fun v => rvalid_at k v
  refine ⟨fun fit => ?_, fun no => ?_⟩
  · obtain ⟨⟨rfl, rfl⟩, rfl, hk⟩ := fit
    obtain ⟨sb, so, rfl⟩ := hS.some0 (by omega)
    rw [decide_eq_true hk] at CVa
    exact rdps12_go rb pb pw pt _ cb cw lt ct sb so cs sky st k (12 * n * n) Sp (fun i => rdAll n k (6 * n * n) (6 * n * n) B Wt (i : Nat) (Sp i)) w (by omega) (fun i _ => rdAll_lt hn.1 hB hW _ _) CC CE CVa
      (fun c hc v hv => (Below.cell hv (hS.at0 hc).2.1).trans (hS.at0 hc).2.2)
      (fun c hc v hv => rdepth12_at k pt lt ct _ _ cs sky st (c : Nat) (Sp c) v hn (g.to hv) (hB.below hv) (hW.below hv) (hS.at0 hc).1)
  · refine rdps12_no rb pb pw pt ps lb cb lw cw lt ct ls cs sky st k (6 * n * n) (12 * n * n) _ w ?_ CC CE CVa
    by_cases c1 : lb = 6 * n * n
    · by_cases c2 : lw = 6 * n * n
      · by_cases c3 : ls = 12 * n * n
        · exact .inr (.inr (.inr ⟨by rw [c1]; simp, by rw [c2]; simp, by rw [c3]; simp, decide_eq_false (fun h => no ⟨⟨c1, c2⟩, c3, h⟩)⟩))
        · exact .inr (.inr (.inl ⟨by rw [c1]; simp, by rw [c2]; simp, by rw [bne_iff_ne]; omega⟩))
      · exact .inr (.inl ⟨by rw [c1]; simp, by rw [bne_iff_ne]; omega⟩)
    · exact .inl (by rw [bne_iff_ne]; omega)
theorem depths12_at (side lim : Int) {pb pw pt ps : Option Addr} {lb cb lw cw lt ct ls cs : Nat} {B : Nat → Nat} {Wt Tr : Nat → Int} {Sp : Nat → Nat} (sky st : Int) (w : World) (hF : Fr w) (sea : SeaAt w pb lb cb B pw lw cw Wt pt lt ct Tr ps ls cs Sp) :
    Calls Tryz.prog 3 #[.agg #[.int .i64 side, .int .i64 lim, .slice pb lb cb, .slice pw lw cw, .slice pt lt ct, .slice ps ls cs, .int .i64 sky, .int .i64 st]] w fun e w' => e = .returned (.bool true) ∧ Below w.heap.size w w' := by
  have AWK : Hid (∀ v, Ab w v → Calls Tryz.prog 4 #[] v fun e w' => e = .returned (.bool true) ∧ Below v.heap.size v w') := fun v hv => awake12_at depthC v (hF.to hv)
  have NI : Hid (∀ v, Ab w v → Calls Tryz.prog 5 #[.pointer none, .int .i64 lim, .agg #[.slice pb lb cb, .slice pw lw cw, .slice pt lt ct, .slice ps ls cs, .int .i64 sky, .int .i64 st]] v fun e w' => e = .returned (.tuple #[.slice none 0 0, .int .i64 2]) ∧ Below v.heap.size v w') := fun v _ => dps12_nil pb pw pt ps lb cb lw cw lt ct ls cs sky st lim v
  by_cases h : 1 ≤ side ∧ side ≤ 32
  · obtain ⟨n, rfl⟩ := Int.eq_ofNat_of_zero_le (show 0 ≤ side by omega)
    have hn : 1 ≤ n ∧ n ≤ 32 := by omega
    have en := edges_n2 hn
    by_cases fit : (lb = 6 * n * n ∧ lw = 6 * n * n) ∧ ls = 12 * n * n ∧ (0 ≤ lim ∧ lim ≤ 3)
    · refine depths12_go n lim pb pw pt ps lb cb lw cw lt ct ls cs sky st (12 * n * n) (fun i => rdAll n lim lb lw B Wt (i : Nat) (Sp i)) 0 0 w (show _ ≤ _ by omega) AWK NI ?_ ?_
      · intro v hv
        refine (new_at n v hn (hF.to hv)).mono ?_
        rintro e' w' ⟨gb, rfl, a, -, g⟩
        refine ⟨_, rfl, a, fun z hz => ?_⟩
        have q := hv.trans (a.trans hz)
        refine ((depthsC n gb lim pb lb cb B pw lw cw Wt pt lt ct ps ls cs Sp sky st z hn (g.to hz) (sea.bed.below q) (sea.water.below q) (sea.speed.below q)).1 fit).mono ?_
        rintro e2 w2 ⟨b, rfl, k2, r, -⟩
        exact ⟨_, _, rfl, k2, rowIs.fl r (fun i _ => rdAll_lt hn.1 sea.bed sea.water _ _)⟩
      · intro v hv
        refine (rnew_at n v hn).mono ?_
        rintro e' w' ⟨rb, ab, es, rfl, a, re⟩
        have g := RE.all hn.1 re
        refine ⟨_, rfl, a, fun z hz => ?_⟩
        have q := hv.trans (a.trans hz)
        exact (rdepths12_at lim pt lt ct sky st z hn (g.to hz) (sea.bed.below q) (sea.water.below q) (sea.speed.below q)).1 fit
    · refine depths12_go n lim pb pw pt ps lb cb lw cw lt ct ls cs sky st 0 (fun _ => 0) 0 1 w (show 0 ≤ _ by omega) AWK NI ?_ ?_
      · intro v hv
        refine (new_at n v hn (hF.to hv)).mono ?_
        rintro e' w' ⟨gb, rfl, a, -, g⟩
        refine ⟨_, rfl, a, fun z hz => ?_⟩
        have q := hv.trans (a.trans hz)
        refine ((depthsC n gb lim pb lb cb B pw lw cw Wt pt lt ct ps ls cs Sp sky st z hn (g.to hz) (sea.bed.below q) (sea.water.below q) (sea.speed.below q)).2 fit).mono ?_
        rintro e2 w2 ⟨rfl, k2⟩
        exact ⟨_, _, rfl, k2, fun i hi => absurd hi (Nat.not_lt_zero i)⟩
      · intro v hv
        refine (rnew_at n v hn).mono ?_
        rintro e' w' ⟨rb, ab, es, rfl, a, re⟩
        have g := RE.all hn.1 re
        refine ⟨_, rfl, a, fun z hz => ?_⟩
        have q := hv.trans (a.trans hz)
        refine ((rdepths12_at lim pt lt ct sky st z hn (g.to hz) (sea.bed.below q) (sea.water.below q) (sea.speed.below q)).2 fit).mono ?_
        rintro e2 w2 ⟨rfl, k2⟩
        exact ⟨_, _, rfl, k2, fun i hi => absurd hi (Nat.not_lt_zero i)⟩
  · refine depths12_go side lim pb pw pt ps lb cb lw cw lt ct ls cs sky st 0 (fun _ => 0) 10 2 w (show 0 ≤ _ by omega) AWK NI ?_ ?_
    · intro v _
      refine (new_no side v h).mono ?_
      rintro e' w' ⟨rfl, rfl⟩
      exact ⟨_, rfl, Below.refl _ _, fun z _ => (dps12_nil pb pw pt ps lb cb lw cw lt ct ls cs sky st lim z).mono fun _ _ ⟨h1, h2⟩ => ⟨_, _, h1, h2, fun i hi => absurd hi (Nat.not_lt_zero i)⟩⟩
    · intro v _
      refine (rnew_no side v h).mono ?_
      rintro e' w' ⟨rfl, rfl⟩
      exact ⟨_, rfl, Below.refl _ _, fun z _ => (rdps12_nil pb pw pt ps lb cb lw cw lt ct ls cs sky st lim z).mono fun _ _ ⟨h1, h2⟩ => ⟨_, _, h1, h2, fun i hi => absurd hi (Nat.not_lt_zero i)⟩⟩
end Go.Proofs.YtfddlnedpfkcaaaGreatDoor

namespace Go.Proofs.YtfddlnedpfkcaaaGreatDoor
open Go.ChangeShapes Go.WideShapes Go.ChangeAt Go.WideMaps Go.WideElems Go.RowKit Cu

theorem own : ownKnob Tryz.prog.godebug = none := by kernel_rfl
theorem gFrames : Tryz.prog.globalNamed "tarn/cube.frames" = some 1 := by kernel_rfl
theorem tFrames : (Tryz.prog.globals[1]?).map (·.type) = some 122 := by kernel_rfl
theorem door_met (os : Os) (args : Array Value) : laidMetH Tryz.prog [("tarn/cube.frames", Rows.laid_tarn_cube_frames)] ((World.doorLaid Tryz.prog 400 os).forCall (fun _ _ => 0) ⟨#[], args, []⟩).memory :=
  laidMetH_of_parts3 (fuel := 8) (laidMet_of_run' 8 (by kernel_rfl) (by kernel_rfl)) (by kernel_rfl) (by kernel_rfl)
set_option maxRecDepth 100000 in
theorem pt_data {H : Type} {enc : TypeId × Value → H} {w : World} {base fuel : Nat} {spare : Nat → Bool} {held : Bool} {cs : List Value} {x : DataW H × List MemPlace} (h : DataW.trod enc Tryz.prog w base spare held fuel 114 cs = some x)
    (a b c : Int) (e : x.1 = .agg [.lit (.int .i64 a), .lit (.int .i64 b), .lit (.int .i64 c)]) : cs = [.int .i64 a, .int .i64 b, .int .i64 c] := by
  have k3 : Tryz.prog.cellsOf 3 = 1 := by kernel_rfl
  have kp : Tryz.prog.cellsOf 114 = 3 := by kernel_rfl
  obtain ⟨xs, m, _, hx, hlen, hn, hel⟩ := DataW.trod_array Tryz.underlying114 h
  rw [hx] at e
  match xs, hn, cs, hlen.trans kp with
  | [x0, x1, x2], _, [c0, c1, c2], _ =>
    have h0 := hel 0 (by decide)
    have h1 := hel 1 (by decide)
    have h2 := hel 2 (by decide)
    simp [k3] at h0 h1 h2
    obtain ⟨n0, e0, f0, _⟩ := DataW.trod_int Tryz.underlying3 h0
    obtain ⟨n1, e1, f1, _⟩ := DataW.trod_int Tryz.underlying3 h1
    obtain ⟨n2, e2, f2, _⟩ := DataW.trod_int Tryz.underlying3 h2
    simp at e0 e1 e2
    simp [f0, f1, f2] at e
    rw [e0, e1, e2, e.1, e.2.1, e.2.2]
set_option maxRecDepth 100000 in
theorem frame_data {H : Type} {enc : TypeId × Value → H} {w : World} {base fuel : Nat} {spare : Nat → Bool} {held : Bool} {cs : List Value} {x : DataW H × List MemPlace} (h : DataW.trod enc Tryz.prog w base spare held fuel 121 cs = some x)
    (p q r : P3) (e : x.1 = .agg [.agg [.lit (.int .i64 p.1), .lit (.int .i64 p.2.1), .lit (.int .i64 p.2.2)], .agg [.lit (.int .i64 q.1), .lit (.int .i64 q.2.1), .lit (.int .i64 q.2.2)], .agg [.lit (.int .i64 r.1), .lit (.int .i64 r.2.1), .lit (.int .i64 r.2.2)]]) :
    cs = [.int .i64 p.1, .int .i64 p.2.1, .int .i64 p.2.2, .int .i64 q.1, .int .i64 q.2.1, .int .i64 q.2.2, .int .i64 r.1, .int .i64 r.2.1, .int .i64 r.2.2] := by
  have kp : Tryz.prog.cellsOf 114 = 3 := by kernel_rfl
  have kf : Tryz.prog.cellsOf 121 = 9 := by kernel_rfl
  obtain ⟨xs, m, _, hx, hlen, hn, hel⟩ := DataW.trod_struct Tryz.underlying121 h
  rw [hx] at e
  match xs, hn, cs, hlen.trans kf with
  | [x0, x1, x2], _, [c0, c1, c2, c3, c4, c5, c6, c7, c8], _ =>
    have h0 := hel 0 _ rfl
    have h1 := hel 1 _ rfl
    have h2 := hel 2 _ rfl
    simp [kp] at h0 h1 h2
    simp at e
    have e0 := pt_data h0 _ _ _ e.1
    have e1 := pt_data h1 _ _ _ e.2.1
    have e2 := pt_data h2 _ _ _ e.2.2
    simp at e0 e1 e2
    simp [e0, e1, e2]
set_option maxRecDepth 100000 in
theorem table_data {H : Type} {enc : TypeId × Value → H} {w : World} {base fuel : Nat} {spare : Nat → Bool} {held : Bool} {cs : List Value} {x : DataW H × List MemPlace} (h : DataW.trod enc Tryz.prog w base spare held fuel 122 cs = some x)
    (e : x.1 = Rows.laid_tarn_cube_frames) : ∀ f, f < 6 → (cs.drop (f * 9)).take 9 = [.int .i64 (cC f).1, .int .i64 (cC f).2.1, .int .i64 (cC f).2.2, .int .i64 (cR f).1, .int .i64 (cR f).2.1, .int .i64 (cR f).2.2, .int .i64 (cU f).1, .int .i64 (cU f).2.1, .int .i64 (cU f).2.2] := by
  have kf : Tryz.prog.cellsOf 121 = 9 := by kernel_rfl
  obtain ⟨xs, m, _, hx, hlen, hn, hel⟩ := DataW.trod_array Tryz.underlying122 h
  rw [hx] at e
  intro f hf
  have h0 := hel f hf
  rw [kf] at h0
  match xs, hn with
  | [x0, x1, x2, x3, x4, x5], _ =>
    simp only [List.map_cons, List.map_nil, Rows.laid_tarn_cube_frames, DataW.agg.injEq, List.cons.injEq] at e
    rcases six hf with rfl | rfl | rfl | rfl | rfl | rfl
    · exact frame_data h0 (cC 0) (cR 0) (cU 0) e.1
    · exact frame_data h0 (cC 1) (cR 1) (cU 1) e.2.1
    · exact frame_data h0 (cC 2) (cR 2) (cU 2) e.2.2.1
    · exact frame_data h0 (cC 3) (cR 3) (cU 3) e.2.2.2.1
    · exact frame_data h0 (cC 4) (cR 4) (cU 4) e.2.2.2.2.1
    · exact frame_data h0 (cC 5) (cR 5) (cU 5) e.2.2.2.2.2.1
/-- WHAT THE CONDITION GIVES THE WALKS -/
theorem of_laid {W : World} (h : laidMetH Tryz.prog [("tarn/cube.frames", Rows.laid_tarn_cube_frames)] W) : Fr W := by
  rw [MakeChecks.laidMetH_plain _ _ _ (by kernel_rfl)] at h
  obtain ⟨ps, ⟨g0, t0, cs0, f0, p0, q0, hg0, ht0, hv0, hd0, _⟩, _⟩ := h
  obtain rfl := Option.some.inj (gFrames.symm.trans hg0)
  obtain rfl := Option.some.inj (tFrames.symm.trans ht0)
  have T := table_data hd0 rfl
  have C := World.var?_cell hg0 hv0
  have K : ∀ f, f < 6 → ∀ k, k < 9 → W.cell? ⟨1, f * 9 + k, none⟩ = ((cs0.toList.drop (f * 9)).take 9)[k]? := by
    intro f hf k hk
    rw [C, List.getElem?_take, if_pos hk, List.getElem?_drop]
    simp
  have N : ∀ f, f < 6 → Fr9 W f := by
    intro f hf
    have K := K f hf
    rw [T f hf] at K
    exact ⟨⟨K 0 (by omega), K 1 (by omega), K 2 (by omega)⟩, ⟨K 3 (by omega), K 4 (by omega), K 5 (by omega)⟩, ⟨K 6 (by omega), K 7 (by omega), K 8 (by omega)⟩⟩
  refine ⟨?_, N⟩
  have c0 := (N 0 (by omega)).1.1
  rcases Nat.lt_or_ge 1 W.heap.size with h1 | h1
  · exact h1
  · rw [World.cell?, Array.getElem?_eq_none h1] at c0; cases c0
end Go.Proofs.YtfddlnedpfkcaaaGreatDoor
