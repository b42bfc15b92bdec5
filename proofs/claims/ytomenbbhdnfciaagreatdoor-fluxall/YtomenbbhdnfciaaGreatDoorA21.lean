/-
  Some of the texts of this proof, one behind the other.
-/
import Derived.Deep.QuietTactic
import Derived.Deep.RegionHeld3
import Derived.Test.YtomenbbhdnfciaaGreatDoorA20
namespace Go.Proofs.YtomenbbhdnfciaaGreatDoor
open Go.RowKit Tf Cu
attribute [local go_sem] run_bits run_from raw_feq raw_fne raw_flt raw_fgt run_neg run_store_float
set_option maxRecDepth 100000 in
set_option maxHeartbeats 8000000 in
theorem rfits13_at (gb : Nat) (pb pw pt ps : Option Addr) (lb cb lw cw lt ct ls cs : Nat) (sky st : Int) (M N : Nat) (q : Bool) (w : World)
    (hq : (((lb : Int) == (M : Int)) = false ∧ q = false) ∨ (((lb : Int) == (M : Int)) = true ∧ ((lw : Int) == (M : Int)) = false ∧ q = false) ∨ (((lb : Int) == (M : Int)) = true ∧ ((lw : Int) == (M : Int)) = true ∧ ((lt : Int) == (M : Int)) = false ∧ q = false) ∨ (((lb : Int) == (M : Int)) = true ∧ ((lw : Int) == (M : Int)) = true ∧ ((lt : Int) == (M : Int)) = true ∧ ((ls : Int) == (N : Int)) = q))
    (CC : Hid (∀ v, Ab w v → Calls Tryz.prog 60 #[(.pointer (some ⟨gb, 0, none⟩))] v fun e w' => e = .returned (.int .i64 (M : Nat)) ∧ Below v.heap.size v w'))
    (CE : Hid (∀ v, Ab w v → Calls Tryz.prog 32 #[(.pointer (some ⟨gb, 0, none⟩))] v fun e w' => e = .returned (.int .i64 (N : Nat)) ∧ Below v.heap.size v w')) :
    Calls Tryz.prog 31 #[(.pointer (some ⟨gb, 0, none⟩)), .agg #[.slice pb lb cb, .slice pw lw cw, .slice pt lt ct, .slice ps ls cs, .int .i64 sky, .int .i64 st]] w fun e w' => e = .returned (.bool q) ∧ Below w.heap.size w w' := by
  have A0 : Hid (Ab w (w.alloc (.cells #[.slice pb lb cb, .slice pw lw cw, .slice pt lt ct, .slice ps ls cs, .int .i64 sky, .int .i64 st] 35))) := bl1 _ _
  have RO : Hid ((w.alloc (.cells #[.slice pb lb cb, .slice pw lw cw, .slice pt lt ct, .slice ps ls cs, .int .i64 sky, .int .i64 st] 35)).heap[w.heap.size]? = some (.cells #[.slice pb lb cb, .slice pw lw cw, .slice pt lt ct, .slice ps ls cs, .int .i64 sky, .int .i64 st] 35)) := heap_alloc_new _ _
  go_enter Tryz.func31, Tryz.ntmps31
  go_wp2_with fail
  refine (CC.out _ A0.out).mono ?_
  rintro e9 v1 ⟨rfl, b1⟩
  have A1 : Hid (Ab w v1) := A0.out.call b1
  have R1 : Hid (v1.heap[w.heap.size]? = some (.cells #[.slice pb lb cb, .slice pw lw cw, .slice pt lt ct, .slice ps ls cs, .int .i64 sky, .int .i64 st] 35)) := Ab.heap b1 RO.out
  clear b1 A0 RO
  go_upto_region 2 with fail
  obtain ⟨gs, hgs⟩ : ∃ g, w.heap.size = g := ⟨_, rfl⟩
  rw [hgs] at R1 ⊢
  clear hgs
  rcases hq with ⟨q1, rfl⟩ | ⟨q1, q2, rfl⟩ | ⟨q1, q2, q3, rfl⟩ | ⟨q1, q2, q3, q4⟩
  · obtain ⟨UU, E, hF1, hF2⟩ := cls v1
    have HU := hid hF2
    have HU1 := hid hF1
    have HX : Hid (∀ u, Ab w (E u)) := fun u => Ab.trans A1.out (hF1 u)
    have s0 : ∀ u, (E u).cell? ⟨gs, 0, none⟩ = some (.slice pb lb cb) := fun u => cell_of_row _ _ 0 _ _ _ ((hF1 u).heap R1.out)
    have s1 : ∀ u, (E u).cell? ⟨gs, 1, none⟩ = some (.slice pw lw cw) := fun u => cell_of_row _ _ 1 _ _ _ ((hF1 u).heap R1.out)
    have s2 : ∀ u, (E u).cell? ⟨gs, 2, none⟩ = some (.slice pt lt ct) := fun u => cell_of_row _ _ 2 _ _ _ ((hF1 u).heap R1.out)
    have s3 : ∀ u, (E u).cell? ⟨gs, 3, none⟩ = some (.slice ps ls cs) := fun u => cell_of_row _ _ 3 _ _ _ ((hF1 u).heap R1.out)
    have DD0 := HU.out _ (Ab.refl v1).drew
    clear hF1 hF2
    refine region_cls E (by kernel_rfl) (by kernel_rfl) DD0 ?_
    repeat (go_big_quiet_step (first
      | (with_reducible rfl)
      | (go_at_call 32; exact calls_cls HU HU1 (CE.out _ (HX.out _)))))
    refine wpQuiet_nil ?_
    intro z hwz
    obtain ⟨u0, hu⟩ := hwz
    have AZ : Hid (Ab w z) := by rw [hu]; exact HX.out u0
    clear hu u0
    clear HU HU1 HX DD0 s0 s1 s2 s3
    clear E UU
    go_wp2
    go_ret
    exact ⟨rfl, AZ.out⟩
  · obtain ⟨UU, E, hF1, hF2⟩ := cls v1
    have HU := hid hF2
    have HU1 := hid hF1
    have HX : Hid (∀ u, Ab w (E u)) := fun u => Ab.trans A1.out (hF1 u)
    have s0 : ∀ u, (E u).cell? ⟨gs, 0, none⟩ = some (.slice pb lb cb) := fun u => cell_of_row _ _ 0 _ _ _ ((hF1 u).heap R1.out)
    have s1 : ∀ u, (E u).cell? ⟨gs, 1, none⟩ = some (.slice pw lw cw) := fun u => cell_of_row _ _ 1 _ _ _ ((hF1 u).heap R1.out)
    have s2 : ∀ u, (E u).cell? ⟨gs, 2, none⟩ = some (.slice pt lt ct) := fun u => cell_of_row _ _ 2 _ _ _ ((hF1 u).heap R1.out)
    have s3 : ∀ u, (E u).cell? ⟨gs, 3, none⟩ = some (.slice ps ls cs) := fun u => cell_of_row _ _ 3 _ _ _ ((hF1 u).heap R1.out)
    have DD0 := HU.out _ (Ab.refl v1).drew
    clear hF1 hF2
    refine region_cls E (by kernel_rfl) (by kernel_rfl) DD0 ?_
    repeat (go_big_quiet_step (first
      | (with_reducible rfl)
      | (go_at_call 32; exact calls_cls HU HU1 (CE.out _ (HX.out _)))))
    refine wpQuiet_nil ?_
    intro z hwz
    obtain ⟨u0, hu⟩ := hwz
    have AZ : Hid (Ab w z) := by rw [hu]; exact HX.out u0
    clear hu u0
    clear HU HU1 HX DD0 s0 s1 s2 s3
    clear E UU
    go_wp2
    go_ret
    exact ⟨rfl, AZ.out⟩
  · obtain ⟨UU, E, hF1, hF2⟩ := cls v1
    have HU := hid hF2
    have HU1 := hid hF1
    have HX : Hid (∀ u, Ab w (E u)) := fun u => Ab.trans A1.out (hF1 u)
    have s0 : ∀ u, (E u).cell? ⟨gs, 0, none⟩ = some (.slice pb lb cb) := fun u => cell_of_row _ _ 0 _ _ _ ((hF1 u).heap R1.out)
    have s1 : ∀ u, (E u).cell? ⟨gs, 1, none⟩ = some (.slice pw lw cw) := fun u => cell_of_row _ _ 1 _ _ _ ((hF1 u).heap R1.out)
    have s2 : ∀ u, (E u).cell? ⟨gs, 2, none⟩ = some (.slice pt lt ct) := fun u => cell_of_row _ _ 2 _ _ _ ((hF1 u).heap R1.out)
    have s3 : ∀ u, (E u).cell? ⟨gs, 3, none⟩ = some (.slice ps ls cs) := fun u => cell_of_row _ _ 3 _ _ _ ((hF1 u).heap R1.out)
    have DD0 := HU.out _ (Ab.refl v1).drew
    clear hF1 hF2
    refine region_cls E (by kernel_rfl) (by kernel_rfl) DD0 ?_
    repeat (go_big_quiet_step (first
      | (with_reducible rfl)
      | (go_at_call 32; exact calls_cls HU HU1 (CE.out _ (HX.out _)))))
    refine wpQuiet_nil ?_
    intro z hwz
    obtain ⟨u0, hu⟩ := hwz
    have AZ : Hid (Ab w z) := by rw [hu]; exact HX.out u0
    clear hu u0
    clear HU HU1 HX DD0 s0 s1 s2 s3
    clear E UU
    go_wp2
    go_ret
    exact ⟨rfl, AZ.out⟩
  · obtain ⟨UU, E, hF1, hF2⟩ := cls v1
    have HU := hid hF2
    have HU1 := hid hF1
    have HX : Hid (∀ u, Ab w (E u)) := fun u => Ab.trans A1.out (hF1 u)
    have s0 : ∀ u, (E u).cell? ⟨gs, 0, none⟩ = some (.slice pb lb cb) := fun u => cell_of_row _ _ 0 _ _ _ ((hF1 u).heap R1.out)
    have s1 : ∀ u, (E u).cell? ⟨gs, 1, none⟩ = some (.slice pw lw cw) := fun u => cell_of_row _ _ 1 _ _ _ ((hF1 u).heap R1.out)
    have s2 : ∀ u, (E u).cell? ⟨gs, 2, none⟩ = some (.slice pt lt ct) := fun u => cell_of_row _ _ 2 _ _ _ ((hF1 u).heap R1.out)
    have s3 : ∀ u, (E u).cell? ⟨gs, 3, none⟩ = some (.slice ps ls cs) := fun u => cell_of_row _ _ 3 _ _ _ ((hF1 u).heap R1.out)
    have DD0 := HU.out _ (Ab.refl v1).drew
    clear hF1 hF2
    refine region_cls E (by kernel_rfl) (by kernel_rfl) DD0 ?_
    repeat (go_big_quiet_step (first
      | (with_reducible rfl)
      | (go_at_call 32; exact calls_cls HU HU1 (CE.out _ (HX.out _)))))
    refine wpQuiet_nil ?_
    intro z hwz
    obtain ⟨u0, hu⟩ := hwz
    have AZ : Hid (Ab w z) := by rw [hu]; exact HX.out u0
    clear hu u0
    clear HU HU1 HX DD0 s0 s1 s2 s3
    clear E UU
    go_wp2
    go_ret
    exact ⟨rfl, AZ.out⟩
set_option maxRecDepth 100000 in
set_option maxHeartbeats 8000000 in
theorem rall13_no (gb : Nat) (sd : Int) (dt gr dr : Nat) (lim : Int) (rv : Bool) (pr : Option Addr) (lr cr : Nat) (pb pw pt ps : Option Addr) (lb cb lw cw lt ct ls cs : Nat) (sky st : Int) (w : World)
    (CF : Hid (∀ v, Ab w v → Calls Tryz.prog 31 #[(.pointer (some ⟨gb, 0, none⟩)), .agg #[.slice pb lb cb, .slice pw lw cw, .slice pt lt ct, .slice ps ls cs, .int .i64 sky, .int .i64 st]] v fun e w' => e = .returned (.bool false) ∧ Below v.heap.size v w')) :
    Calls Tryz.prog 11 #[(.pointer (some ⟨gb, 0, none⟩)), .agg #[.int .i64 sd, .float .f64 dt, .float .f64 gr, .float .f64 dr, .int .i64 lim, .bool rv, .slice pr lr cr], .agg #[.slice pb lb cb, .slice pw lw cw, .slice pt lt ct, .slice ps ls cs, .int .i64 sky, .int .i64 st]] w fun e w' => e = .returned (.tuple #[.slice none 0 0, .int .i64 1]) ∧ Below w.heap.size w w' := by
  have A0 : Hid (Ab w ((w.alloc (.cells #[.int .i64 sd, .float .f64 dt, .float .f64 gr, .float .f64 dr, .int .i64 lim, .bool rv, .slice pr lr cr] 31)).alloc (.cells #[.slice pb lb cb, .slice pw lw cw, .slice pt lt ct, .slice ps ls cs, .int .i64 sky, .int .i64 st] 35))) := bl2 _ _ _
  have RP : Hid (((w.alloc (.cells #[.int .i64 sd, .float .f64 dt, .float .f64 gr, .float .f64 dr, .int .i64 lim, .bool rv, .slice pr lr cr] 31)).alloc (.cells #[.slice pb lb cb, .slice pw lw cw, .slice pt lt ct, .slice ps ls cs, .int .i64 sky, .int .i64 st] 35)).heap[w.heap.size]? = some (.cells #[.int .i64 sd, .float .f64 dt, .float .f64 gr, .float .f64 dr, .int .i64 lim, .bool rv, .slice pr lr cr] 31)) := heap_alloc2_old _ _ _
  have RO : Hid (((w.alloc (.cells #[.int .i64 sd, .float .f64 dt, .float .f64 gr, .float .f64 dr, .int .i64 lim, .bool rv, .slice pr lr cr] 31)).alloc (.cells #[.slice pb lb cb, .slice pw lw cw, .slice pt lt ct, .slice ps ls cs, .int .i64 sky, .int .i64 st] 35)).heap[w.heap.size + 1]? = some (.cells #[.slice pb lb cb, .slice pw lw cw, .slice pt lt ct, .slice ps ls cs, .int .i64 sky, .int .i64 st] 35)) := heap_alloc2_new _ _ _
  go_enter Tryz.func11, Tryz.ntmps11
  go_upto_region 3 with fail
  generalize hW : World.alloc (World.alloc w _) _ = W at *
  obtain ⟨gp, hgp⟩ : ∃ g, w.heap.size = g := ⟨_, rfl⟩
  obtain ⟨gs, hgs⟩ : ∃ g, w.heap.size + 1 = g := ⟨_, rfl⟩
  rw [hgp] at RP
  rw [hgs] at RO
  rw [hgs, hgp]
  clear hgs hgp hW
  have s0 := cell_of_row _ _ 0 _ _ _ RO.out
  have s1 := cell_of_row _ _ 1 _ _ _ RO.out
  have s2 := cell_of_row _ _ 2 _ _ _ RO.out
  have s3 := cell_of_row _ _ 3 _ _ _ RO.out
  have s4 := cell_of_row _ _ 4 _ _ _ RO.out
  have s5 := cell_of_row _ _ 5 _ _ _ RO.out
  go_wp2_with fail
  refine (CF.out _ A0.out).mono ?_
  rintro e9 z ⟨rfl, bz⟩
  have AZ : Hid (Ab W z) := bz
  clear bz s0 s1 s2 s3 s4 s5
  go_wp2
  go_ret2
  exact ⟨rfl, A0.out.trans AZ.out⟩
set_option maxRecDepth 100000 in
set_option maxHeartbeats 8000000 in
theorem rall13_go (gb : Nat) (sd : Int) (dt gr dr : Nat) (lim : Int) (rv : Bool) (pr : Option Addr) (lr cr : Nat) (pb pw pt : Option Addr) (M cb cw ct sb so cs : Nat) (sky st : Int) (N : Nat) (Sp Dp Ln : Nat → Nat) (D : Nat → Int) (w : World) (hN : N ≤ 1048576) (LD : Hid (∀ i, i < N → -9223372036854775808 ≤ D i ∧ D i ≤ 9223372036854775807))
    (CE : Hid (∀ v, Ab w v → Calls Tryz.prog 32 #[(.pointer (some ⟨gb, 0, none⟩))] v fun e w' => e = .returned (.int .i64 (N : Nat)) ∧ Below v.heap.size v w'))
    (CF : Hid (∀ v, Ab w v → Calls Tryz.prog 31 #[(.pointer (some ⟨gb, 0, none⟩)), .agg #[.slice pb M cb, .slice pw M cw, .slice pt M ct, .slice (some ⟨sb, so, none⟩) N cs, .int .i64 sky, .int .i64 st]] v fun e w' => e = .returned (.bool true) ∧ Below v.heap.size v w'))
    (FSp : Hid (∀ c, c < N → ∀ v, Ab w v → v.cell? ⟨sb, so + c, none⟩ = some (.float .f64 (Sp c))))
    (CD : Hid (∀ c, c < N → ∀ v, Ab w v → Calls Tryz.prog 33 #[(.pointer (some ⟨gb, 0, none⟩)), .int .i64 lim, .agg #[.slice pb M cb, .slice pw M cw, .slice pt M ct, .slice (some ⟨sb, so, none⟩) N cs, .int .i64 sky, .int .i64 st], .int .i64 (c : Nat), .float .f64 (Sp c)] v fun e w' => e = .returned (.float .f64 (Dp c)) ∧ Below v.heap.size v w'))
    (CL : Hid (∀ c, c < N → ∀ v, Ab w v → Calls Tryz.prog 34 #[(.pointer (some ⟨gb, 0, none⟩)), .int .i64 (c : Nat)] v fun e w' => e = .returned (.float .f64 (Ln c)) ∧ Below v.heap.size v w'))
    (CQ : Hid (∀ c, c < N → ∀ v : World, Calls Tryz.prog 7 #[.float .f64 (Sp c), .float .f64 (Dp c), .float .f64 (Ln c), .float .f64 dt] v fun e w' => e = .returned (.int .i64 (D c)) ∧ Below v.heap.size v w')) :
    Calls Tryz.prog 11 #[(.pointer (some ⟨gb, 0, none⟩)), .agg #[.int .i64 sd, .float .f64 dt, .float .f64 gr, .float .f64 dr, .int .i64 lim, .bool rv, .slice pr lr cr], .agg #[.slice pb M cb, .slice pw M cw, .slice pt M ct, .slice (some ⟨sb, so, none⟩) N cs, .int .i64 sky, .int .i64 st]] w fun e w' => ∃ a0 cap, e = .returned (.tuple #[.slice a0 N cap, .int .i64 0]) ∧ Below w.heap.size w w' ∧ IsIn w' a0 N D := by
  obtain ⟨i0, hi, hz0, hz1, hz2⟩ := info_i
  have IP := hid (And.intro hi (And.intro hz0 (And.intro hz1 hz2)))
  clear hi hz0 hz1 hz2
  have HN := hid hN
  clear hN
  have A0 : Hid (Ab w ((w.alloc (.cells #[.int .i64 sd, .float .f64 dt, .float .f64 gr, .float .f64 dr, .int .i64 lim, .bool rv, .slice pr lr cr] 31)).alloc (.cells #[.slice pb M cb, .slice pw M cw, .slice pt M ct, .slice (some ⟨sb, so, none⟩) N cs, .int .i64 sky, .int .i64 st] 35))) := bl2 _ _ _
  have RP : Hid (((w.alloc (.cells #[.int .i64 sd, .float .f64 dt, .float .f64 gr, .float .f64 dr, .int .i64 lim, .bool rv, .slice pr lr cr] 31)).alloc (.cells #[.slice pb M cb, .slice pw M cw, .slice pt M ct, .slice (some ⟨sb, so, none⟩) N cs, .int .i64 sky, .int .i64 st] 35)).heap[w.heap.size]? = some (.cells #[.int .i64 sd, .float .f64 dt, .float .f64 gr, .float .f64 dr, .int .i64 lim, .bool rv, .slice pr lr cr] 31)) := heap_alloc2_old _ _ _
  have RO : Hid (((w.alloc (.cells #[.int .i64 sd, .float .f64 dt, .float .f64 gr, .float .f64 dr, .int .i64 lim, .bool rv, .slice pr lr cr] 31)).alloc (.cells #[.slice pb M cb, .slice pw M cw, .slice pt M ct, .slice (some ⟨sb, so, none⟩) N cs, .int .i64 sky, .int .i64 st] 35)).heap[w.heap.size + 1]? = some (.cells #[.slice pb M cb, .slice pw M cw, .slice pt M ct, .slice (some ⟨sb, so, none⟩) N cs, .int .i64 sky, .int .i64 st] 35)) := heap_alloc2_new _ _ _
  go_enter Tryz.func11, Tryz.ntmps11
  go_upto_region 3 with fail
  generalize hW : World.alloc (World.alloc w _) _ = W at *
  obtain ⟨gp, hgp⟩ : ∃ g, w.heap.size = g := ⟨_, rfl⟩
  obtain ⟨gs, hgs⟩ : ∃ g, w.heap.size + 1 = g := ⟨_, rfl⟩
  rw [hgp] at RP
  rw [hgs] at RO
  rw [hgs, hgp]
  clear hgs hgp hW
  have s0 := cell_of_row _ _ 0 _ _ _ RO.out
  have s1 := cell_of_row _ _ 1 _ _ _ RO.out
  have s2 := cell_of_row _ _ 2 _ _ _ RO.out
  have s3 := cell_of_row _ _ 3 _ _ _ RO.out
  have s4 := cell_of_row _ _ 4 _ _ _ RO.out
  have s5 := cell_of_row _ _ 5 _ _ _ RO.out
  go_wp2_with fail
  refine (CF.out _ A0.out).mono ?_
  rintro e9 z ⟨rfl, bz⟩
  have AZ : Hid (Ab W z) := bz
  clear bz s0 s1 s2 s3 s4 s5
  have OI : Hid (OwnI W.heap.size (.slice none 0 0) [] z) := OwnI.new z _
  go_wp2
  go_loopw [8, 9] (fun lv iv wr => ∃ c : Nat, c ≤ N ∧ iv = .int .i64 (c : Nat) ∧ OwnI W.heap.size lv ((List.range c).map D) wr ∧ Ab W wr) (fun _ iv _ => N - (intOf iv).toNat)
  case atStart => exact ⟨0, by omega, rfl, OI.out, AZ.out⟩
  case round =>
    obtain ⟨c, hc, rfl, ow, ar⟩ := hrel
    clear OI AZ
    have OW := hid ow
    have AR := hid ar
    clear ow ar
    by_cases hcN : c < N
    · have HC := hid hcN
      have hcI : (c : Int) < N := by omega
      have hcB : (c : Int) ≤ 1048576 := by have := HN.out; omega
      obtain ⟨x, hx⟩ : ∃ x, Sp c = x := ⟨_, rfl⟩
      obtain ⟨d, hd⟩ : ∃ d, Dp c = d := ⟨_, rfl⟩
      obtain ⟨l, hl⟩ : ∃ l, Ln c = l := ⟨_, rfl⟩
      obtain ⟨y, hy⟩ : ∃ y, D c = y := ⟨_, rfl⟩
      have CDc := hid (CD.out c hcN)
      have CLc := hid (CL.out c hcN)
      have CQc := hid (CQ.out c hcN)
      rw [hx, hd] at CDc
      rw [hl] at CLc
      rw [hx, hd, hl, hy] at CQc
      have HX2 := hid hx
      have HY := hid hy
      clear hx hd hl hy hcN
      go_wp2_with fail
      refine (CE.out _ (A0.out.trans AR.out)).mono ?_
      rintro e9 v1 ⟨rfl, b1⟩
      have A1 : Hid (Ab W v1) := AR.out.call b1
      have O1 := hid (OW.out.to b1)
      clear b1 OW AR
      go_upto_region 9 with fail
      obtain ⟨UU, E, hF1, hF2⟩ := cls v1
      have HU := hid hF2
      have HU1 := hid hF1
      have HX : Hid (∀ u, Ab W (E u)) := fun u => Ab.trans A1.out (hF1 u)
      have s0 : ∀ u, (E u).cell? ⟨gs, 0, none⟩ = some (.slice pb M cb) := fun u => cell_of_row _ _ 0 _ _ _ ((A1.out.trans (hF1 u)).heap RO.out)
      have s1 : ∀ u, (E u).cell? ⟨gs, 1, none⟩ = some (.slice pw M cw) := fun u => cell_of_row _ _ 1 _ _ _ ((A1.out.trans (hF1 u)).heap RO.out)
      have s2 : ∀ u, (E u).cell? ⟨gs, 2, none⟩ = some (.slice pt M ct) := fun u => cell_of_row _ _ 2 _ _ _ ((A1.out.trans (hF1 u)).heap RO.out)
      have s3 : ∀ u, (E u).cell? ⟨gs, 3, none⟩ = some (.slice (some ⟨sb, so, none⟩) N cs) := fun u => cell_of_row _ _ 3 _ _ _ ((A1.out.trans (hF1 u)).heap RO.out)
      have s4 : ∀ u, (E u).cell? ⟨gs, 4, none⟩ = some (.int .i64 sky) := fun u => cell_of_row _ _ 4 _ _ _ ((A1.out.trans (hF1 u)).heap RO.out)
      have s5 : ∀ u, (E u).cell? ⟨gs, 5, none⟩ = some (.int .i64 st) := fun u => cell_of_row _ _ 5 _ _ _ ((A1.out.trans (hF1 u)).heap RO.out)
      have pl : ∀ u, (E u).cell? ⟨gp, 4, none⟩ = some (.int .i64 lim) := fun u => cell_of_row _ _ 4 _ _ _ ((A1.out.trans (hF1 u)).heap RP.out)
      have xs : ∀ u, (E u).cell? ⟨sb, so + c, none⟩ = some (.float .f64 x) := fun u => (FSp.out c HC.out _ (A0.out.trans (A1.out.trans (hF1 u)))).trans (by rw [HX2.out])
      have DD0 := HU.out _ (Ab.refl v1).drew
      clear hF1 hF2
      refine region_cls E (by kernel_rfl) (by kernel_rfl) DD0 ?_
      repeat (go_big_quiet_step (first
        | (with_reducible rfl)
        | (go_at_call 33; exact calls_cls HU HU1 (CDc.out _ (A0.out.trans (HX.out _))))))
      refine wpQuiet_nil ?_
      intro z2 hwz
      obtain ⟨u0, hu⟩ := hwz
      have AZ : Hid (Ab W z2) := by rw [hu]; exact HX.out u0
      have O2 := hid (O1.out.to (HU1.out u0))
      rw [← hu] at O2
      clear hu u0
      clear HU HU1 HX DD0 s0 s1 s2 s3 s4 s5 pl xs
      clear E UU
      clear O1 A1
      go_upto_region 10 with fail
      have hlen : ((List.range c).map D).length = c := by simp
      have HLEN := hid hlen
      obtain ⟨la, hla⟩ : ∃ la, (List.range c).map D = la := ⟨_, rfl⟩
      rw [hla] at O2 HLEN
      have HLA := hid hla
      clear hlen hla
      have KS : Hid (∀ w', Ab W w' → Ab W w' ∧ w'.cell? ⟨gs, 0, none⟩ = some (.slice pb M cb) ∧ w'.cell? ⟨gs, 1, none⟩ = some (.slice pw M cw) ∧ w'.cell? ⟨gs, 2, none⟩ = some (.slice pt M ct) ∧ w'.cell? ⟨gs, 3, none⟩ = some (.slice (some ⟨sb, so, none⟩) N cs) ∧ w'.cell? ⟨gs, 4, none⟩ = some (.int .i64 sky) ∧ w'.cell? ⟨gs, 5, none⟩ = some (.int .i64 st) ∧ w'.cell? ⟨gp, 1, none⟩ = some (.float .f64 dt) ∧ w'.cell? ⟨sb, so + c, none⟩ = some (.float .f64 x)) := fun w' h => ⟨h, cell_of_row _ _ 0 _ _ _ (h.heap RO.out), cell_of_row _ _ 1 _ _ _ (h.heap RO.out), cell_of_row _ _ 2 _ _ _ (h.heap RO.out), cell_of_row _ _ 3 _ _ _ (h.heap RO.out), cell_of_row _ _ 4 _ _ _ (h.heap RO.out), cell_of_row _ _ 5 _ _ _ (h.heap RO.out), cell_of_row _ _ 1 _ _ _ (h.heap RP.out), (FSp.out c HC.out _ (A0.out.trans h)).trans (by rw [HX2.out])⟩
      have A2 := AZ.out
      have AD := AZ.out.drew
      go_region_held3 (fun w' => Ab W w' ∧ w'.cell? ⟨gs, 0, none⟩ = some (.slice pb M cb) ∧ w'.cell? ⟨gs, 1, none⟩ = some (.slice pw M cw) ∧ w'.cell? ⟨gs, 2, none⟩ = some (.slice pt M ct) ∧ w'.cell? ⟨gs, 3, none⟩ = some (.slice (some ⟨sb, so, none⟩) N cs) ∧ w'.cell? ⟨gs, 4, none⟩ = some (.int .i64 sky) ∧ w'.cell? ⟨gs, 5, none⟩ = some (.int .i64 st) ∧ w'.cell? ⟨gp, 1, none⟩ = some (.float .f64 dt) ∧ w'.cell? ⟨sb, so + c, none⟩ = some (.float .f64 x)) ((refine KS.out _ ?_; (with_reducible (repeat (first | assumption | apply Ab.drew | apply Ab.drewN | apply Ab.alloc | (refine Ab.call ?_ (by assumption))))); done)) (first
        | (go_at_call 34; refine (CLc.out _ (A0.out.trans AD)).mono ?_; rintro e9 w3 ⟨rfl, b3⟩; have A3 := Ab.call AD b3)
        | (go_at_call 7; refine (CQc.out _).mono ?_; rintro e9 w5 ⟨rfl, b5⟩; have A5 := Ab.call A3 b5)
        | (refine step_append_lies _ (by rfl) _ _ 33 (by rfl) W.heap.size 2 i0 (.int .i64 0) 1 8 Tryz.underlying33 IP.out.1 IP.out.2.1 IP.out.2.2.1 IP.out.2.2.2 rfl (by decide) _ la.length (la.map (Value.int .i64)) (by rfl) (World.ownsRow.alloc (O2.out.to (Ab.call (Ab.call (Ab.drew (Ab.refl _)) b3) b5)) _) ⟨w5.heap.size, 0, none⟩ 1 1 [.int .i64 y] (by rfl) (by rfl) (World.news_of_block (cs := #[.int .i64 y]) (t := 2) (fr := (0, 0)) (heap_alloc_new w5 _)) (one_cellsI y) (by decide) (by have := HLEN.out; have := HN.out; have := HC.out; unfold maxLen; omega) (by have := HLEN.out; have := HN.out; have := HC.out; omega) (by have := A5.size; simp; omega) _ rfl ?_; intro g1 c1 w4 o4 g4 e4 l4; have R4 := hid (OwnI.pushed (w0 := W) (O2.out.to (Ab.call (Ab.call (Ab.drew (Ab.refl _)) b3) b5)) A5 o4 g4); have AB4 := R4.out.2; clear o4 g4 e4 l4))
      clear A2 AD b3 b5 A3 A5 KS
      go_wp2
      refine ⟨⟨c + 1, by have := HC.out; omega, by simp, ?_, AB4⟩, by simp [intOf]; have := HC.out; omega⟩
      have e7 : (List.range (c + 1)).map D = la ++ [y] := by rw [List.range_succ, List.map_append, HLA.out]; simp [HY.out]
      rw [e7]
      exact R4.out.1
    · have e6 : N = c := by omega
      subst e6
      obtain ⟨a0, cap, hv, hfl⟩ := OW.out.in (fun x hx => by
        obtain ⟨i, hi, rfl⟩ := List.mem_map.1 hx
        exact LD.out i (List.mem_range.1 hi))
      rw [List.length_map, List.length_range] at hv hfl
      subst hv
      have HF : Hid (IsIn wr a0 N D) := fun j hj => by
        obtain ⟨h1, b1, o1, h2, h3, h4⟩ := hfl j hj
        have e : ((List.range N).map D).getD j 0 = D j := by simp [List.getD, hj]
        dsimp only at h1 h4
        rw [e] at h1 h4
        exact ⟨h1, b1, o1, h2, h3, h4⟩
      clear hfl OW
      go_wp2_with fail
      refine (CE.out _ (A0.out.trans AR.out)).mono ?_
      rintro e9 v1 ⟨rfl, b1⟩
      have A1 : Hid (Ab w v1) := (A0.out.trans AR.out).call b1
      have F1 := hid (IsIn.below HF.out b1)
      clear b1 AR HF
      go_wp2
      go_ret2
      exact ⟨a0, cap, rfl, A1.out, F1.out⟩
end Go.Proofs.YtomenbbhdnfciaaGreatDoor

namespace Go.Proofs.YtomenbbhdnfciaaGreatDoor
open Go.RowKit Tf Cu Go.Deep
set_option maxRecDepth 100000 in
set_option maxHeartbeats 4000000 in
theorem ints13_at (pa pb : Option Addr) (len ca cb : Nat) (xs : Nat → Int) (w : World) (hl : len ≤ 281474976710656) (hA : IsIn w pa len xs) (hB : IsIn w pb len xs) :
    Calls Tryz.prog 12 #[.slice pa len ca, .slice pb len cb] w fun e w' => e = .returned (.bool true) ∧ Below w.heap.size w w' := by
  have HA := hid hA
  have HB := hid hB
  have HL := hid hl
  clear hA hB hl
  go_enter Tryz.func12, Tryz.ntmps12
  go_wp2
  go_loopw [5] (fun iv wr => ∃ c : Nat, c ≤ len ∧ iv = .int .i64 (c : Nat) ∧ Ab w wr) (fun iv _ => len - (intOf iv).toNat)
  case atStart => exact ⟨0, by omega, rfl, Ab.refl w⟩
  case round =>
    obtain ⟨c, hc, rfl, ar⟩ := hrel
    have AR := hid ar
    clear ar
    by_cases h : c < len
    · have HC := hid h
      obtain ⟨x, hx⟩ : ∃ x, xs c = x := ⟨_, rfl⟩
      obtain ⟨-, b1, o1, e1, l1, c1⟩ := HA.out c h
      obtain ⟨-, b2, o2, e2, l2, c2⟩ := HB.out c h
      rw [hx] at c1 c2
      have C1 := hid c1
      have C2 := hid c2
      have L1 := hid l1
      have L2 := hid l2
      have hcI : (c : Int) < len := by omega
      have hcB : (c : Int) ≤ 281474976710656 := by have := HL.out; omega
      clear c1 c2 l1 l2 hx h
      subst e1 e2
      go_upto_region 6 with fail
      obtain ⟨UU, E, hF1, hF2⟩ := cls wr
      have HU := hid hF2
      have HU1 := hid hF1
      have x1 : ∀ u, (E u).cell? ⟨b1, o1 + c, none⟩ = some (.int .i64 x) := fun u => (Below.cell (AR.out.trans (hF1 u)) L1.out).trans C1.out
      have x2 : ∀ u, (E u).cell? ⟨b2, o2 + c, none⟩ = some (.int .i64 x) := fun u => (Below.cell (AR.out.trans (hF1 u)) L2.out).trans C2.out
      have DD0 := HU.out _ (Ab.refl wr).drew
      clear hF1 hF2
      refine region_cls E (by kernel_rfl) (by kernel_rfl) DD0 ?_
      repeat (go_big_quiet_step (with_reducible rfl))
      refine wpQuiet_nil ?_
      intro z hwz
      obtain ⟨u0, hu⟩ := hwz
      have AZ : Hid (Ab w z) := by rw [hu]; exact AR.out.trans (HU1.out u0)
      clear hu u0
      clear HU HU1 DD0 x1 x2
      clear E UU
      go_wp2
      go_roundw
      case rel => exact ⟨c + 1, by have := HC.out; omega, by simp, AZ.out⟩
      case measure => simp [intOf]; have := HC.out; omega
    · have e : len = c := by omega
      subst e
      go_wp2
      go_ret
      exact ⟨rfl, AR.out⟩
end Go.Proofs.YtomenbbhdnfciaaGreatDoor

namespace Go.Proofs.YtomenbbhdnfciaaGreatDoor
open Go.RowKit Tf
theorem mlB_qq (a b : Nat) : mlB (qB a) (qB b) = mlB a b := by unfold mlB; rw [mul_ql, mul_qr]
theorem mlB_qr (a b : Nat) : mlB a (qB b) = mlB a b := by unfold mlB; rw [mul_qr]
theorem clampB_q {r q : Nat} (h : IsQ r q) (most : Int) : clampB r most = clampB q most := by
  have e := h.2
  unfold qB at e
  split at e
  · rename_i n
    have nq : isN q = true := by rw [← e]; decide
    unfold clampB
    rw [if_pos n, if_pos nq]
  · rw [e]
end Go.Proofs.YtomenbbhdnfciaaGreatDoor

namespace Go.Proofs.YtomenbbhdnfciaaGreatDoor
open Go.RowKit Tf Cu Go.Deep
attribute [local go_sem] run_bits run_from raw_feq raw_fne raw_flt raw_fgt run_neg run_store_float
set_option maxHeartbeats 2000000 in
theorem rquanta13_at (u d l t : Nat) (w : World) (hu : u < 18446744073709551616) (hd : d < 18446744073709551616) (hl : l < 18446744073709551616) (ht : t < 18446744073709551616) :
    Calls Tryz.prog 7 #[.float .f64 u, .float .f64 d, .float .f64 l, .float .f64 t] w fun e w' => e = .returned (.int .i64 (qnB u d l t)) ∧ Below w.heap.size w w' := by
  obtain ⟨r1, n1, h1, q1⟩ := mul_any (P := Tryz.prog) w u (qB u) d (qB d) (IsQ.self hu) (IsQ.self hd)
  obtain ⟨r2, n2, h2, q2⟩ := mul_any (P := Tryz.prog) (w.drewN n1) r1 _ l (qB l) q1 (IsQ.self hl)
  obtain ⟨r3, n3, h3, q3⟩ := mul_any (P := Tryz.prog) (w.drewN (n1 + n2)) r2 _ t (qB t) q2 (IsQ.self ht)
  obtain ⟨r4, n4, h4, q4⟩ := mul_any (P := Tryz.prog) (w.drewN (n1 + n2 + n3)) r3 _ 4742290407621132288 (qB 4742290407621132288) q3 (IsQ.self (by decide))
  have e : clampB r4 4503599627370496 = qnB u d l t := by
    rw [clampB_q q4, mlB_qq, mlB_qr, mlB_qr, mlB_qr]
    rfl
  have CL := hid (fun v => Ref2.refClamp_at r4 4503599627370496 (qnB u d l t) v q4.1 (by decide) e)
  generalize qnB u d l t = z at *
  have AB : Hid (∀ k, Ab w (w.drewN k)) := fun k => (Ab.refl w).drewN k
  clear q1 q2 q3 q4 e hu hd hl ht
  go_enter Tryz.func7, Tryz.ntmps7
  go_wp2_with fail
  refine (CL.out _).mono ?_
  rintro e v ⟨rfl, rfl⟩
  go_wp2
  go_ret
  exact ⟨rfl, AB.out _⟩
end Go.Proofs.YtomenbbhdnfciaaGreatDoor

namespace Go.Proofs.YtomenbbhdnfciaaGreatDoor
open Go.RowKit Tf
attribute [local go_sem] run_bits run_from raw_feq raw_fne raw_flt raw_fgt run_neg
set_option maxHeartbeats 1000000 in
set_option maxRecDepth 100000 in
theorem refMax_any (a b : Nat) (w : World) (ha : a < 18446744073709551616) (hb : b < 18446744073709551616) :
    Calls Tryz.prog 67 #[.float .f64 a, .float .f64 b] w fun e w' => e = .returned (.float .f64 (maxB a b)) ∧ w' = w := by
  obtain ⟨r, hr⟩ : ∃ r, maxB a b = r := ⟨_, rfl⟩
  obtain ⟨o, ho⟩ : ∃ o, orderB a b = o := ⟨_, rfl⟩
  have h1 := orderB_lt a b
  rw [ho] at h1
  have HO : Hid (orderB a b = o) := ho
  have HR : Hid (r = if isN a || isN b then quiet else if o < 0 then b else a) := by
    show r = _
    rw [← hr]; unfold maxB; simp only [h1]
  rw [hr]
  clear hr ho h1
  cases nA : isN a
  · cases nB : isN b
    · have h := HR.out
      rw [nA, nB] at h
      simp only [Bool.or_self, Bool.false_eq_true, if_false] at h
      by_cases c : o < 0
      · have e1 : decide (0 ≤ o) = false := by simp; omega
        rw [if_pos c] at h
        rw [h]
        clear c HR h
        go_enter Tryz.func67, Tryz.ntmps67
        go_wp2_with fail
        refine (refNone_any a _).mono ?_
        rintro e w' ⟨rfl, rfl⟩
        go_wp2_with fail
        refine (refNone_any b _).mono ?_
        rintro e w' ⟨rfl, rfl⟩
        go_wp2_with fail
        refine (refOrd_at a b o _ ha hb HO).mono ?_
        rintro e w' ⟨rfl, rfl⟩
        go_wp2
        go_ret
        exact ⟨rfl, rfl⟩
      · have e1 : decide (0 ≤ o) = true := by simp; omega
        rw [if_neg c] at h
        rw [h]
        clear c HR h
        go_enter Tryz.func67, Tryz.ntmps67
        go_wp2_with fail
        refine (refNone_any a _).mono ?_
        rintro e w' ⟨rfl, rfl⟩
        go_wp2_with fail
        refine (refNone_any b _).mono ?_
        rintro e w' ⟨rfl, rfl⟩
        go_wp2_with fail
        refine (refOrd_at a b o _ ha hb HO).mono ?_
        rintro e w' ⟨rfl, rfl⟩
        go_wp2
        go_ret
        exact ⟨rfl, rfl⟩
    · have h := HR.out
      rw [nA, nB] at h
      simp only [Bool.or_true, if_true] at h
      rw [h]
      clear HR h
      go_enter Tryz.func67, Tryz.ntmps67
      go_wp2_with fail
      refine (refNone_any a _).mono ?_
      rintro e w' ⟨rfl, rfl⟩
      go_wp2_with fail
      refine (refNone_any b _).mono ?_
      rintro e w' ⟨rfl, rfl⟩
      go_wp2_with fail
      refine (refQuiet_any _).mono ?_
      rintro e w' ⟨rfl, rfl⟩
      go_wp2
      go_ret
      exact ⟨rfl, rfl⟩
  · have h := HR.out
    rw [nA] at h
    simp only [Bool.true_or, if_true] at h
    rw [h]
    clear HR h
    go_enter Tryz.func67, Tryz.ntmps67
    go_wp2_with fail
    refine (refNone_any a _).mono ?_
    rintro e w' ⟨rfl, rfl⟩
    go_wp2_with fail
    refine (refQuiet_any _).mono ?_
    rintro e w' ⟨rfl, rfl⟩
    go_wp2
    go_ret
    exact ⟨rfl, rfl⟩

set_option maxHeartbeats 1000000 in
set_option maxRecDepth 100000 in
theorem refMin_any (a b : Nat) (w : World) (ha : a < 18446744073709551616) (hb : b < 18446744073709551616) :
    Calls Tryz.prog 68 #[.float .f64 a, .float .f64 b] w fun e w' => e = .returned (.float .f64 (minB a b)) ∧ w' = w := by
  obtain ⟨r, hr⟩ : ∃ r, minB a b = r := ⟨_, rfl⟩
  obtain ⟨o, ho⟩ : ∃ o, orderB a b = o := ⟨_, rfl⟩
  have h1 := orderB_gt a b
  rw [ho] at h1
  have HO : Hid (orderB a b = o) := ho
  have HR : Hid (r = if isN a || isN b then quiet else if 0 < o then b else a) := by
    show r = _
    rw [← hr]; unfold minB; simp only [h1]
  rw [hr]
  clear hr ho h1
  cases nA : isN a
  · cases nB : isN b
    · have h := HR.out
      rw [nA, nB] at h
      simp only [Bool.or_self, Bool.false_eq_true, if_false] at h
      by_cases c : 0 < o
      · have e1 : decide (o ≤ 0) = false := by simp; omega
        rw [if_pos c] at h
        rw [h]
        clear c HR h
        go_enter Tryz.func68, Tryz.ntmps68
        go_wp2_with fail
        refine (refNone_any a _).mono ?_
        rintro e w' ⟨rfl, rfl⟩
        go_wp2_with fail
        refine (refNone_any b _).mono ?_
        rintro e w' ⟨rfl, rfl⟩
        go_wp2_with fail
        refine (refOrd_at a b o _ ha hb HO).mono ?_
        rintro e w' ⟨rfl, rfl⟩
        go_wp2
        go_ret
        exact ⟨rfl, rfl⟩
      · have e1 : decide (o ≤ 0) = true := by simp; omega
        rw [if_neg c] at h
        rw [h]
        clear c HR h
        go_enter Tryz.func68, Tryz.ntmps68
        go_wp2_with fail
        refine (refNone_any a _).mono ?_
        rintro e w' ⟨rfl, rfl⟩
        go_wp2_with fail
        refine (refNone_any b _).mono ?_
        rintro e w' ⟨rfl, rfl⟩
        go_wp2_with fail
        refine (refOrd_at a b o _ ha hb HO).mono ?_
        rintro e w' ⟨rfl, rfl⟩
        go_wp2
        go_ret
        exact ⟨rfl, rfl⟩
    · have h := HR.out
      rw [nA, nB] at h
      simp only [Bool.or_true, if_true] at h
      rw [h]
      clear HR h
      go_enter Tryz.func68, Tryz.ntmps68
      go_wp2_with fail
      refine (refNone_any a _).mono ?_
      rintro e w' ⟨rfl, rfl⟩
      go_wp2_with fail
      refine (refNone_any b _).mono ?_
      rintro e w' ⟨rfl, rfl⟩
      go_wp2_with fail
      refine (refQuiet_any _).mono ?_
      rintro e w' ⟨rfl, rfl⟩
      go_wp2
      go_ret
      exact ⟨rfl, rfl⟩
  · have h := HR.out
    rw [nA] at h
    simp only [Bool.true_or, if_true] at h
    rw [h]
    clear HR h
    go_enter Tryz.func68, Tryz.ntmps68
    go_wp2_with fail
    refine (refNone_any a _).mono ?_
    rintro e w' ⟨rfl, rfl⟩
    go_wp2_with fail
    refine (refQuiet_any _).mono ?_
    rintro e w' ⟨rfl, rfl⟩
    go_wp2
    go_ret
    exact ⟨rfl, rfl⟩

end Go.Proofs.YtomenbbhdnfciaaGreatDoor

namespace Go.Proofs.YtomenbbhdnfciaaGreatDoor
open Go.RowKit Tf
attribute [local go_sem] run_bits run_from raw_feq raw_fne raw_flt raw_fgt run_neg
theorem isC_eq {r c : Nat} (h : IsC r c) (c0 : 0 < c) (c1 : c ≤ 9218868437227405312) : r = c := by
  have e := h.2
  unfold canonB at e
  split at e
  · unfold quiet at e; omega
  · split at e
    · omega
    · exact e
theorem add_can {P : Program} (w : World) (s x : Nat) (hs : s < 18446744073709551616) (hx : x < 18446744073709551616) :
    ∃ r n, (∀ t, (binOp .add t (.float .f64 s) (.float .f64 x)).run P w = .ok (.float .f64 r) (w.drewN n)) ∧ IsC r (addB s x) := by
  cases e : Ieee.double.add s x with
  | none => exact ⟨nanOf w s x, 1, fun t => run_nan_add w t s x e, nanOf_lt _ _ _, by rw [addB_none e]; unfold canonB; rw [if_pos (isN_nanOf _ _ _)]⟩
  | some r => exact ⟨r, 0, fun t => run_float_arith w .add t .f64 s x r e, by
      have q := IsQ.add (IsQ.self hs) (IsQ.self hx) e
      exact q.1, by rw [addB_some e]⟩
theorem depth_no (n a : Int) (w : World) (h : n < 1 ∨ a < 1) :
    Calls Tryz.prog 115 #[.int .i64 n, .int .i64 a] w fun e w' => e = .returned (.float .f64 0) ∧ w' = w := by
  by_cases c : n < 1
  · go_enter Tryz.func115, Tryz.ntmps115
    go_wp2
    go_ret
    exact ⟨rfl, rfl⟩
  · have d : a < 1 := by omega
    clear h
    go_enter Tryz.func115, Tryz.ntmps115
    go_wp2
    go_ret
    exact ⟨rfl, rfl⟩
theorem depth_yes (n a : Int) (w : World) (h1 : 1 ≤ n) (h2 : 1 ≤ a) (n2 : n ≤ 9223372036854775807) (a2 : a ≤ 9223372036854775807) :
    Calls Tryz.prog 115 #[.int .i64 n, .int .i64 a] w fun e w' => e = .returned (.float .f64 (dpB n a)) ∧ ∃ k, w' = w.drewN k := by
  obtain ⟨r, k, hr, hc⟩ := div_any (P := Tryz.prog) w (fw n) (fw a)
  have e := isC_eq hc (by rw [← dp_of h1 h2]; have := dp_in h1 h2 n2 a2; omega) (by rw [← dp_of h1 h2]; have := dp_in h1 h2 n2 a2; omega)
  rw [dp_of h1 h2, ← e]
  clear e hc
  have F1 := hid (fromInt_any n w)
  have F2 := hid (fromInt_any a w)
  rw [show rn false (n * one) = fw n from rfl] at F1
  rw [show rn false (a * one) = fw a from rfl] at F2
  generalize fw n = x at *
  generalize fw a = y at *
  go_enter Tryz.func115, Tryz.ntmps115
  go_wp2_with fail
  refine F1.out.mono ?_
  rintro e w' ⟨rfl, rfl⟩
  go_wp2_with fail
  refine F2.out.mono ?_
  rintro e w' ⟨rfl, rfl⟩
  go_wp2
  go_ret
  exact ⟨rfl, k, rfl⟩
theorem depth_at (n a : Int) (w : World) (n2 : n ≤ 9223372036854775807) (a2 : a ≤ 9223372036854775807) :
    Calls Tryz.prog 115 #[.int .i64 n, .int .i64 a] w fun e w' => e = .returned (.float .f64 (dpB n a)) ∧ ∃ k, w' = w.drewN k := by
  by_cases c : n < 1 ∨ a < 1
  · rw [dp_zero c]
    exact (depth_no n a w c).mono fun _ _ h => ⟨h.1, 0, h.2⟩
  · exact depth_yes n a w (by omega) (by omega) n2 a2
theorem level_at (b : Nat) (n a : Int) (w : World) (hb : b < 18446744073709551616) (n2 : n ≤ 9223372036854775807) (a2 : a ≤ 9223372036854775807) :
    Calls Tryz.prog 82 #[.float .f64 b, .int .i64 n, .int .i64 a] w fun e w' => e = .returned (.float .f64 (lvl b n a)) ∧ ∃ k, w' = w.drewN k := by
  have D := hid (depth_at n a w n2 a2)
  have e0 : lvl b n a = addB b (dpB n a) := rfl
  rw [e0]
  have hd : dpB n a < 18446744073709551616 := by have := dp_le n2 a2; omega
  clear e0
  generalize dpB n a = d at *
  have AD : Hid (∀ k : Nat, ∃ r m, (∀ t, (binOp .add t (.float .f64 b) (.float .f64 d)).run Tryz.prog (w.drewN k) = .ok (.float .f64 r) ((w.drewN k).drewN m)) ∧ IsC r (addB b d)) := fun k => add_can _ b d hb hd
  generalize addB b d = y at *
  go_enter Tryz.func82, Tryz.ntmps82
  go_wp2_with fail
  refine D.out.mono ?_
  rintro e w' ⟨rfl, k, rfl⟩
  obtain ⟨r, m, hr, hc⟩ := AD.out k
  have C := hid (canon_any r (w.drewN (k + m)) hc.1)
  rw [hc.2] at C
  go_wp2_with fail
  refine C.out.mono ?_
  rintro e w' ⟨rfl, rfl⟩
  go_wp2
  go_ret
  exact ⟨rfl, k + m, rfl⟩
end Go.Proofs.YtomenbbhdnfciaaGreatDoor

namespace Go.Proofs.YtomenbbhdnfciaaGreatDoor
open Go.RowKit Tf
attribute [local go_sem] run_bits run_from raw_feq raw_fne raw_flt raw_fgt run_neg
theorem rdepth_no11 (n a : Int) (w : World) (h : n < 1 ∨ a < 1) :
    Calls Tryz.prog 63 #[.int .i64 n, .int .i64 a] w fun e w' => e = .returned (.float .f64 0) ∧ w' = w := by
  by_cases c : n < 1
  · go_enter Tryz.func63, Tryz.ntmps63
    go_wp2
    go_ret
    exact ⟨rfl, rfl⟩
  · have d : a < 1 := by omega
    clear h
    go_enter Tryz.func63, Tryz.ntmps63
    go_wp2
    go_ret
    exact ⟨rfl, rfl⟩
theorem rdepth_yes11 (n a : Int) (w : World) (h1 : 1 ≤ n) (h2 : 1 ≤ a) (n2 : n ≤ 9223372036854775807) (a2 : a ≤ 9223372036854775807) :
    Calls Tryz.prog 63 #[.int .i64 n, .int .i64 a] w fun e w' => e = .returned (.float .f64 (dpB n a)) ∧ ∃ k, w' = w.drewN k := by
  obtain ⟨r, k, hr, hc⟩ := div_any (P := Tryz.prog) w (fw n) (fw a)
  have e := isC_eq hc (by rw [← dp_of h1 h2]; have := dp_in h1 h2 n2 a2; omega) (by rw [← dp_of h1 h2]; have := dp_in h1 h2 n2 a2; omega)
  rw [dp_of h1 h2, ← e]
  clear e hc
  have F1 := hid (Ref2.refFromInt_at n _ w (by omega) n2 rfl)
  have F2 := hid (Ref2.refFromInt_at a _ w (by omega) a2 rfl)
  rw [show rn false (n * one) = fw n from rfl] at F1
  rw [show rn false (a * one) = fw a from rfl] at F2
  generalize fw n = x at *
  generalize fw a = y at *
  go_enter Tryz.func63, Tryz.ntmps63
  go_wp2_with fail
  refine F1.out.mono ?_
  rintro e w' ⟨rfl, rfl⟩
  go_wp2_with fail
  refine F2.out.mono ?_
  rintro e w' ⟨rfl, rfl⟩
  go_wp2
  go_ret
  exact ⟨rfl, k, rfl⟩
theorem rdepth_at11 (n a : Int) (w : World) (n2 : n ≤ 9223372036854775807) (a2 : a ≤ 9223372036854775807) :
    Calls Tryz.prog 63 #[.int .i64 n, .int .i64 a] w fun e w' => e = .returned (.float .f64 (dpB n a)) ∧ ∃ k, w' = w.drewN k := by
  by_cases c : n < 1 ∨ a < 1
  · rw [dp_zero c]
    exact (rdepth_no11 n a w c).mono fun _ _ h => ⟨h.1, 0, h.2⟩
  · exact rdepth_yes11 n a w (by omega) (by omega) n2 a2
theorem rlevel_at11 (b : Nat) (n a : Int) (w : World) (hb : b < 18446744073709551616) (n2 : n ≤ 9223372036854775807) (a2 : a ≤ 9223372036854775807) :
    Calls Tryz.prog 66 #[.float .f64 b, .int .i64 n, .int .i64 a] w fun e w' => e = .returned (.float .f64 (lvl b n a)) ∧ ∃ k, w' = w.drewN k := by
  have D := hid (rdepth_at11 n a w n2 a2)
  have e0 : lvl b n a = addB b (dpB n a) := rfl
  rw [e0]
  have hd : dpB n a < 18446744073709551616 := by have := dp_le n2 a2; omega
  clear e0
  generalize dpB n a = d at *
  have AD : Hid (∀ k : Nat, ∃ r m, (∀ t, (binOp .add t (.float .f64 b) (.float .f64 d)).run Tryz.prog (w.drewN k) = .ok (.float .f64 r) ((w.drewN k).drewN m)) ∧ IsC r (addB b d)) := fun k => add_can _ b d hb hd
  generalize addB b d = y at *
  go_enter Tryz.func66, Tryz.ntmps66
  go_wp2_with fail
  refine D.out.mono ?_
  rintro e w' ⟨rfl, k, rfl⟩
  obtain ⟨r, m, hr, hc⟩ := AD.out k
  have C := hid (refCanon_any r (w.drewN (k + m)))
  rw [hc.2] at C
  go_wp2_with fail
  refine C.out.mono ?_
  rintro e w' ⟨rfl, rfl⟩
  go_wp2
  go_ret
  exact ⟨rfl, k + m, rfl⟩
end Go.Proofs.YtomenbbhdnfciaaGreatDoor

namespace Go.Proofs.YtomenbbhdnfciaaGreatDoor
open Go.RowKit Tf
attribute [local go_sem] run_bits run_from raw_feq raw_fne raw_flt raw_fgt run_neg
theorem run_min_f {P : Program} (w : World) (ts : Array TypeId) (t : TypeId) {a b : Nat} (ha : a ≤ 9218868437227405312) (hb : b ≤ 9218868437227405312) :
    (Builtin.min_ ts t #[.float .f64 a, .float .f64 b]).run P w = .ok (.float .f64 (min a b)) w := by
  have h : FloatKind.f64.format.order a b = _ := order_pp ha hb
  by_cases c : a < b
  · rw [if_pos c] at h
    simp [Builtin.min_, Builtin.min2, h]
    omega
  · rw [if_neg c] at h
    by_cases d : b < a
    · rw [if_pos d] at h
      simp [Builtin.min_, Builtin.min2, h]
      omega
    · rw [if_neg d] at h
      have e : a = b := by omega
      subst e
      simp [Builtin.min_, Builtin.min2, h]
theorem run_max_f {P : Program} (w : World) (ts : Array TypeId) (t : TypeId) {a b : Nat} (ha : a ≤ 9218868437227405312) (hb : b ≤ 9218868437227405312) :
    (Builtin.max_ ts t #[.float .f64 a, .float .f64 b]).run P w = .ok (.float .f64 (max a b)) w := by
  have h : FloatKind.f64.format.order a b = _ := order_pp ha hb
  by_cases c : a < b
  · rw [if_pos c] at h
    simp [Builtin.max_, Builtin.max2, h]
    omega
  · rw [if_neg c] at h
    by_cases d : b < a
    · rw [if_pos d] at h
      simp [Builtin.max_, Builtin.max2, h]
      omega
    · rw [if_neg d] at h
      have e : a = b := by omega
      subst e
      simp [Builtin.max_, Builtin.max2, h]
theorem plain_at (a b : Nat) (w : World) : Calls Tryz.prog 144 #[.float .f64 a, .float .f64 b] w fun e w' => e = .returned (.float .f64 0) ∧ w' = w := by
  go_enter Tryz.func144, Tryz.ntmps144
  go_wp2
  go_ret
  exact ⟨rfl, rfl⟩
theorem minmod_at (a b : Nat) (w : World) (ha : a ≤ 9218868437227405312) (hb : b ≤ 9218868437227405312) : Calls Tryz.prog 145 #[.float .f64 a, .float .f64 b] w fun e w' => e = .returned (.float .f64 (min a b)) ∧ w' = w := by
  have h : ∀ ts t, (Builtin.min_ ts t #[.float .f64 a, .float .f64 b]).run Tryz.prog w = .ok (.float .f64 (min a b)) w := fun ts t => run_min_f w ts t ha hb
  generalize e : min a b = m at h ⊢
  clear e ha hb
  go_enter Tryz.func145, Tryz.ntmps145
  go_wp2
  go_ret
  exact ⟨rfl, rfl⟩
set_option maxHeartbeats 1000000 in
theorem superbee_at (a b : Nat) (w : World) (ha : ps a = true) (hb : ps b = true) : Calls Tryz.prog 146 #[.float .f64 a, .float .f64 b] w fun e w' => e = .returned (.float .f64 (sbee a b)) ∧ w' = w := by
  obtain ⟨a0, a1⟩ := ps_iff.1 ha
  obtain ⟨b0, b1⟩ := ps_iff.1 hb
  have fa := (d2_facts a1).1
  have fb := (d2_facts b1).1
  have h1 : ∀ t, (binOp .mul t (.float .f64 4611686018427387904) (.float .f64 a)).run Tryz.prog w = .ok (.float .f64 (mlB 4611686018427387904 a)) w := fun t => run_float_arith w .mul t .f64 _ _ _ (mul_pp (by decide) a1 (by decide) a0)
  have h2 : ∀ t, (binOp .mul t (.float .f64 4611686018427387904) (.float .f64 b)).run Tryz.prog w = .ok (.float .f64 (mlB 4611686018427387904 b)) w := fun t => run_float_arith w .mul t .f64 _ _ _ (mul_pp (by decide) b1 (by decide) b0)
  have h3 : ∀ ts t, (Builtin.min_ ts t #[.float .f64 (mlB 4611686018427387904 a), .float .f64 b]).run Tryz.prog w = .ok (.float .f64 (min (mlB 4611686018427387904 a) b)) w := fun ts t => run_min_f w ts t fa b1
  have h4 : ∀ ts t, (Builtin.min_ ts t #[.float .f64 a, .float .f64 (mlB 4611686018427387904 b)]).run Tryz.prog w = .ok (.float .f64 (min a (mlB 4611686018427387904 b))) w := fun ts t => run_min_f w ts t a1 fb
  have h5 : ∀ ts t, (Builtin.max_ ts t #[.float .f64 (min (mlB 4611686018427387904 a) b), .float .f64 (min a (mlB 4611686018427387904 b))]).run Tryz.prog w = .ok (.float .f64 (sbee a b)) w := fun ts t => run_max_f w ts t (by omega) (by omega)
  generalize mlB 4611686018427387904 a = p at *
  generalize mlB 4611686018427387904 b = q at *
  generalize min p b = u at *
  generalize min a q = v at *
  generalize sbee a b = s at *
  clear a0 a1 b0 b1 fa fb ha hb
  go_enter Tryz.func146, Tryz.ntmps146
  go_wp2
  go_ret
  exact ⟨rfl, rfl⟩
set_option maxHeartbeats 1000000 in
theorem leer_at (a b : Nat) (w : World) (ha : ps a = true) (hb : ps b = true) : Calls Tryz.prog 147 #[.float .f64 a, .float .f64 b] w fun e w' => ∃ r, e = .returned (.float .f64 r) ∧ (∃ n, w' = w.drewN n) ∧ IsC r (lr a b) := by
  obtain ⟨a0, a1⟩ := ps_iff.1 ha
  obtain ⟨b0, b1⟩ := ps_iff.1 hb
  have fa := d2_facts a1
  have L := leer_nn a1 b1 a0 b0
  have h1 : ∀ t, (binOp .mul t (.float .f64 4611686018427387904) (.float .f64 a)).run Tryz.prog w = .ok (.float .f64 (mlB 4611686018427387904 a)) w := fun t => run_float_arith w .mul t .f64 _ _ _ (mul_pp (by decide) a1 (by decide) a0)
  have h2 : ∀ t, (binOp .mul t (.float .f64 (mlB 4611686018427387904 a)) (.float .f64 b)).run Tryz.prog w = .ok (.float .f64 (mlB (mlB 4611686018427387904 a) b)) w := fun t => run_float_arith w .mul t .f64 _ _ _ (mul_pp fa.1 b1 (by omega) b0)
  have h3 : ∀ t, (binOp .add t (.float .f64 a) (.float .f64 b)).run Tryz.prog w = .ok (.float .f64 (plB a b)) w := fun t => run_float_arith w .add t .f64 _ _ _ (add_pp a1 b1)
  obtain ⟨r, n, h4, hc⟩ := div_any (P := Tryz.prog) w (mlB (mlB 4611686018427387904 a) b) (plB a b)
  have hc : IsC r (leer a b) := hc
  obtain ⟨k1, k2⟩ := lr_le_of hc L
  have HL := lr_le a b
  by_cases c : leer a b < 9218868437227405312
  · have e : lr a b = leer a b := by unfold lr; rw [if_pos c]
    rw [decide_eq_true c] at k1
    have HC : Hid (IsC r (lr a b)) := by rw [e]; exact hc
    generalize mlB (mlB 4611686018427387904 a) b = q at *
    generalize mlB 4611686018427387904 a = p at *
    generalize plB a b = s at *
    clear e k2 c L fa a0 a1 b0 b1 ha hb HL
    clear hc
    go_enter Tryz.func147, Tryz.ntmps147
    go_wp2
    go_ret
    exact ⟨r, rfl, ⟨n, rfl⟩, HC.out⟩
  · have e : lr a b = 0 := by unfold lr; rw [if_neg c]
    rw [decide_eq_false c] at k1
    have HC : Hid (IsC 0 (lr a b)) := by rw [e]; exact ⟨by decide, by decide⟩
    generalize mlB (mlB 4611686018427387904 a) b = q at *
    generalize mlB 4611686018427387904 a = p at *
    generalize plB a b = s at *
    clear e k2 c L fa a0 a1 b0 b1 ha hb HL
    clear hc
    go_enter Tryz.func147, Tryz.ntmps147
    go_wp2
    go_ret
    exact ⟨0, rfl, ⟨n, rfl⟩, HC.out⟩
theorem run_store_func {P : Program} {w : World} {a : Addr} {m : Mode} (f : Fn) (x y : Array Value) : (store a (.func f x y) m).run P w = stored P w a (.func f x y) m := run_store P w a _ m rfl
attribute [local go_sem] run_store_func
set_option maxHeartbeats 1000000 in
theorem limiters_at (w : World) : Calls Tryz.prog 117 #[] w fun e w' => e = .returned (.agg #[.func (.func 144) #[] #[], .func (.func 145) #[] #[], .func (.func 146) #[] #[], .func (.func 147) #[] #[]]) ∧ Below w.heap.size w w' := by
  go_enter Tryz.func117, Tryz.ntmps117
  go_wp2
  refine bodyPost_ret ?_ rfl ⟨rfl, ?_⟩
  · exact results_cell_row Tryz.results117 _ _ w.heap.size _ _ (0, 0) _ rfl (heap_alloc_new w _) Tryz.underlying154 rfl (by kernel_rfl)
  · exact bl1 w _
set_option maxHeartbeats 1000000 in
theorem valid_at (k : Int) (w : World) : Calls Tryz.prog 116 #[.int .i64 k] w fun e w' => e = .returned (.bool (decide (0 ≤ k ∧ k ≤ 3))) ∧ Below w.heap.size w w' := by
  have L := hid (limiters_at w)
  by_cases c : 0 ≤ k
  · have e : decide (0 ≤ k ∧ k ≤ 3) = decide (k < 4) := by by_cases d : k < 4 <;> simp [d] <;> omega
    rw [e]
    clear e
    go_enter Tryz.func116, Tryz.ntmps116
    go_wp2_with fail
    refine L.out.mono ?_
    rintro e w1 ⟨rfl, b1⟩
    go_wp2
    go_ret
    exact ⟨rfl, b1⟩
  · have e : decide (0 ≤ k ∧ k ≤ 3) = false := decide_eq_false (by omega)
    rw [e]
    clear e
    go_enter Tryz.func116, Tryz.ntmps116
    go_wp2
    go_ret
    exact ⟨rfl, Below.refl _ _⟩
end Go.Proofs.YtomenbbhdnfciaaGreatDoor
