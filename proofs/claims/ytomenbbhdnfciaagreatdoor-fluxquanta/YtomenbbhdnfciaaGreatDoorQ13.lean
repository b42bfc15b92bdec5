/-
  Some of the texts of this proof, one behind the other.
-/
import Derived.Deep.QuietTactic
import Derived.Test.YtomenbbhdnfciaaGreatDoorQ12
namespace Go.Proofs.YtomenbbhdnfciaaGreatDoor
open Go.RowKit Tf Cu Go.Deep
attribute [local go_sem] run_bits run_from raw_feq raw_fne raw_flt raw_fgt run_neg run_store_float
/-- four floats from there on -/
def FourAt (w : World) (b o : Nat) : Prop := ∃ (p0 p1 p2 p3 : Nat), (w.cell? ⟨b, o, none⟩ = some (.float .f64 p0) ∧ w.cell? ⟨b, o + 1, none⟩ = some (.float .f64 p1) ∧ w.cell? ⟨b, o + 2, none⟩ = some (.float .f64 p2) ∧ w.cell? ⟨b, o + 3, none⟩ = some (.float .f64 p3)) ∧ p0 < 18446744073709551616 ∧ p1 < 18446744073709551616 ∧ p2 < 18446744073709551616 ∧ p3 < 18446744073709551616
set_option maxRecDepth 100000 in
set_option maxHeartbeats 16000000 in
theorem fq13_go (QC : QuantaC) (AC : AllC) (b off len cap : Nat) (w : World) (hcap : len ≤ cap) (hl : (cap : Int) ≤ 9223372036854775807) (hb : b < w.heap.size) (hc : ∀ k, k < len → FourAt w b (off + k * 4)) (hF : Fr w) :
    Calls Tryz.prog 3 #[.slice (some ⟨b, off, none⟩) len cap] w fun e w' => e = .returned (.bool true) ∧ Below w.heap.size w w' := by
  have LV := hid (lives13_at QC AC w hF)
  have HC := hid hc
  have HB := hid hb
  have HQ := hid QC
  clear hc hb QC AC hF
  go_enter Tryz.func3, Tryz.ntmps3
  go_wp2_with fail
  refine LV.out.mono ?_
  rintro e w1 ⟨rfl, b1⟩
  have A1 : Hid (Ab w w1) := b1
  clear b1
  go_wp2
  go_loopw [3] (fun iv wr => ∃ k : Nat, k ≤ len ∧ iv = .int .i64 (k : Nat) ∧ Ab w wr) (fun iv _ => len - (intOf iv).toNat)
  case atStart => exact ⟨0, by omega, rfl, A1.out⟩
  case round =>
    obtain ⟨k, hk, rfl, A⟩ := hrel
    by_cases hkl : k < len
    · have hk' : (k : Int) < len := by omega
      obtain ⟨p0, p1, p2, p3, ⟨c0, c1, c2, c3⟩, h0, h1, h2, h3⟩ := HC.out k hkl
      have d0 : wr.cell? ⟨b, off + k * 4, none⟩ = some (.float .f64 p0) := (Below.cell A (by exact HB.out)).trans c0
      have d1 : wr.cell? ⟨b, off + k * 4 + 1, none⟩ = some (.float .f64 p1) := (Below.cell A (by exact HB.out)).trans c1
      have d2 : wr.cell? ⟨b, off + k * 4 + 2, none⟩ = some (.float .f64 p2) := (Below.cell A (by exact HB.out)).trans c2
      have d3 : wr.cell? ⟨b, off + k * 4 + 3, none⟩ = some (.float .f64 p3) := (Below.cell A (by exact HB.out)).trans c3
      have D1 : Hid (∀ v : World, Calls Tryz.prog 6 #[.float .f64 p0, .float .f64 p1, .float .f64 p2, .float .f64 p3] v fun e w' => e = .returned (.int .i64 (qnB p0 p1 p2 p3)) ∧ Below v.heap.size v w') := fun v => HQ.out p0 p1 p2 p3 v h0 h1 h2 h3
      have D2 : Hid (∀ v : World, Calls Tryz.prog 7 #[.float .f64 p0, .float .f64 p1, .float .f64 p2, .float .f64 p3] v fun e w' => e = .returned (.int .i64 (qnB p0 p1 p2 p3)) ∧ Below v.heap.size v w') := fun v => rquanta13_at p0 p1 p2 p3 v h0 h1 h2 h3
      generalize qnB p0 p1 p2 p3 = x at *
      have AA := hid A
      have HK := hid hkl
      have kl : (k : Int) + 1 ≤ 9223372036854775807 := by omega
      clear c0 c1 c2 c3 A hkl h0 h1 h2 h3
      go_upto_region 7 with fail
      generalize hW : World.alloc wr _ = W
      obtain ⟨ga, hga⟩ : ∃ g, wr.heap.size = g := ⟨_, rfl⟩
      have RO0 : Hid (W.heap[ga]? = some (.cells #[.float .f64 p0, .float .f64 p1, .float .f64 p2, .float .f64 p3] 26)) := by rw [← hW, ← hga]; exact heap_alloc_new _ _
      have AW0 : Hid (Ab w W) := by rw [← hW]; exact AA.out.alloc _
      rw [hga]
      clear hW hga d0 d1 d2 d3 AA
      obtain ⟨UU, E, hF1, hF2⟩ := cls W
      have HU := hid hF2
      have HU1 := hid hF1
      have x0 : ∀ u, (E u).cell? ⟨ga, 0, none⟩ = some (.float .f64 p0) := fun u => cell_of_row _ _ 0 _ _ _ ((hF1 u).heap RO0.out)
      have x1 : ∀ u, (E u).cell? ⟨ga, 1, none⟩ = some (.float .f64 p1) := fun u => cell_of_row _ _ 1 _ _ _ ((hF1 u).heap RO0.out)
      have x2 : ∀ u, (E u).cell? ⟨ga, 2, none⟩ = some (.float .f64 p2) := fun u => cell_of_row _ _ 2 _ _ _ ((hF1 u).heap RO0.out)
      have x3 : ∀ u, (E u).cell? ⟨ga, 3, none⟩ = some (.float .f64 p3) := fun u => cell_of_row _ _ 3 _ _ _ ((hF1 u).heap RO0.out)
      have D := HU.out _ (Ab.refl W).drew
      clear hF1 hF2
      refine region_cls E (by kernel_rfl) (by kernel_rfl) D ?_
      repeat (go_big_quiet_step (first
        | (with_reducible rfl)
        | (go_at_call 6; exact calls_cls HU HU1 (D1.out _))
        | (go_at_call 7; exact calls_cls HU HU1 (D2.out _))))
      refine wpQuiet_nil ?_
      intro wz hwz
      obtain ⟨u, hu⟩ := hwz
      have bz : Ab W wz := by rw [hu]; exact HU1.out u
      have AZ : Hid (Ab w wz) := AW0.out.trans bz
      have HK2 := HK.out
      clear hu u bz
      clear HU HU1 D x0 x1 x2 x3
      clear E UU
      go_wp2
      go_roundw
      case rel => exact ⟨k + 1, by omega, by simp, AZ.out⟩
      case measure => simp [intOf]; omega
    · have e : k = len := by omega
      subst e
      have AA := hid A
      clear A
      go_wp2
      go_ret
      exact ⟨rfl, AA.out⟩
set_option maxHeartbeats 4000000 in
theorem fq13_none (QC : QuantaC) (AC : AllC) (a0 : Option Addr) (cap : Nat) (w : World) (hF : Fr w) :
    Calls Tryz.prog 3 #[.slice a0 0 cap] w fun e w' => e = .returned (.bool true) ∧ Below w.heap.size w w' := by
  have LV := hid (lives13_at QC AC w hF)
  clear QC AC hF
  go_enter Tryz.func3, Tryz.ntmps3
  go_wp2_with fail
  refine LV.out.mono ?_
  rintro e w1 ⟨rfl, b1⟩
  have A1 : Hid (Ab w w1) := b1
  clear b1
  go_wp2
  go_loopw [3] (fun iv wr => iv = .int .i64 0 ∧ wr = w1) (fun _ _ => 0)
  case atStart => exact ⟨rfl, rfl⟩
  case round =>
    obtain ⟨rfl, hw⟩ := hrel
    have hw2 := hw.symm
    subst hw2
    go_wp2
    go_ret
    exact ⟨rfl, A1.out⟩
end Go.Proofs.YtomenbbhdnfciaaGreatDoor

namespace Go.Proofs.YtomenbbhdnfciaaGreatDoor
open Go.RowKit Tf Cu
attribute [local go_sem] run_bits run_from raw_feq raw_fne raw_flt raw_fgt run_neg run_store_float
set_option maxRecDepth 100000 in
set_option maxHeartbeats 8000000 in
theorem fits13_at (gb : Nat) (pb pw pt ps : Option Addr) (lb cb lw cw lt ct ls cs : Nat) (sky st : Int) (M N : Nat) (q : Bool) (w : World)
    (hq : (((lb : Int) == (M : Int)) = false ∧ q = false) ∨ (((lb : Int) == (M : Int)) = true ∧ ((lw : Int) == (M : Int)) = false ∧ q = false) ∨ (((lb : Int) == (M : Int)) = true ∧ ((lw : Int) == (M : Int)) = true ∧ ((lt : Int) == (M : Int)) = false ∧ q = false) ∨ (((lb : Int) == (M : Int)) = true ∧ ((lw : Int) == (M : Int)) = true ∧ ((lt : Int) == (M : Int)) = true ∧ ((ls : Int) == (N : Int)) = q))
    (CC : Hid (∀ v, Ab w v → Calls Tryz.prog 35 #[(.pointer (some ⟨gb, 0, none⟩))] v fun e w' => e = .returned (.int .i64 (M : Nat)) ∧ Below v.heap.size v w'))
    (CE : Hid (∀ v, Ab w v → Calls Tryz.prog 17 #[(.pointer (some ⟨gb, 0, none⟩))] v fun e w' => e = .returned (.int .i64 (N : Nat)) ∧ Below v.heap.size v w')) :
    Calls Tryz.prog 16 #[(.pointer (some ⟨gb, 0, none⟩)), .agg #[.slice pb lb cb, .slice pw lw cw, .slice pt lt ct, .slice ps ls cs, .int .i64 sky, .int .i64 st]] w fun e w' => e = .returned (.bool q) ∧ Below w.heap.size w w' := by
  have A0 : Hid (Ab w (w.alloc (.cells #[.slice pb lb cb, .slice pw lw cw, .slice pt lt ct, .slice ps ls cs, .int .i64 sky, .int .i64 st] 35))) := bl1 _ _
  have RO : Hid ((w.alloc (.cells #[.slice pb lb cb, .slice pw lw cw, .slice pt lt ct, .slice ps ls cs, .int .i64 sky, .int .i64 st] 35)).heap[w.heap.size]? = some (.cells #[.slice pb lb cb, .slice pw lw cw, .slice pt lt ct, .slice ps ls cs, .int .i64 sky, .int .i64 st] 35)) := heap_alloc_new _ _
  go_enter Tryz.func16, Tryz.ntmps16
  go_wp2_with fail
  refine (CC.out _ A0.out).mono ?_
  rintro e9 v1 ⟨rfl, b1⟩
  have A1 : Hid (Ab w v1) := A0.out.call b1
  have R1 : Hid (v1.heap[w.heap.size]? = some (.cells #[.slice pb lb cb, .slice pw lw cw, .slice pt lt ct, .slice ps ls cs, .int .i64 sky, .int .i64 st] 35)) := Ab.heap b1 RO.out
  clear b1 A0 RO
  go_upto_region 2 with fail
  obtain ⟨gs, hgs⟩ : ∃ g, w.heap.size = g := ⟨_, rfl⟩
  rw [hgs] at R1 ⊢
  clear hgs
  rcases hq with ⟨q1, rfl⟩ | ⟨q1, q2, rfl⟩ | ⟨q1, q2, q3, rfl⟩ | ⟨q1, q2, q3, q4⟩
  · obtain ⟨UU, E, hF1, hF2⟩ := cls v1
    have HU := hid hF2
    have HU1 := hid hF1
    have HX : Hid (∀ u, Ab w (E u)) := fun u => Ab.trans A1.out (hF1 u)
    have s0 : ∀ u, (E u).cell? ⟨gs, 0, none⟩ = some (.slice pb lb cb) := fun u => cell_of_row _ _ 0 _ _ _ ((hF1 u).heap R1.out)
    have s1 : ∀ u, (E u).cell? ⟨gs, 1, none⟩ = some (.slice pw lw cw) := fun u => cell_of_row _ _ 1 _ _ _ ((hF1 u).heap R1.out)
    have s2 : ∀ u, (E u).cell? ⟨gs, 2, none⟩ = some (.slice pt lt ct) := fun u => cell_of_row _ _ 2 _ _ _ ((hF1 u).heap R1.out)
    have s3 : ∀ u, (E u).cell? ⟨gs, 3, none⟩ = some (.slice ps ls cs) := fun u => cell_of_row _ _ 3 _ _ _ ((hF1 u).heap R1.out)
    have DD0 := HU.out _ (Ab.refl v1).drew
    clear hF1 hF2
    refine region_cls E (by kernel_rfl) (by kernel_rfl) DD0 ?_
    repeat (go_big_quiet_step (first
      | (with_reducible rfl)
      | (go_at_call 17; exact calls_cls HU HU1 (CE.out _ (HX.out _)))))
    refine wpQuiet_nil ?_
    intro z hwz
    obtain ⟨u0, hu⟩ := hwz
    have AZ : Hid (Ab w z) := by rw [hu]; exact HX.out u0
    clear hu u0
    clear HU HU1 HX DD0 s0 s1 s2 s3
    clear E UU
    go_wp2
    go_ret
    exact ⟨rfl, AZ.out⟩
  · obtain ⟨UU, E, hF1, hF2⟩ := cls v1
    have HU := hid hF2
    have HU1 := hid hF1
    have HX : Hid (∀ u, Ab w (E u)) := fun u => Ab.trans A1.out (hF1 u)
    have s0 : ∀ u, (E u).cell? ⟨gs, 0, none⟩ = some (.slice pb lb cb) := fun u => cell_of_row _ _ 0 _ _ _ ((hF1 u).heap R1.out)
    have s1 : ∀ u, (E u).cell? ⟨gs, 1, none⟩ = some (.slice pw lw cw) := fun u => cell_of_row _ _ 1 _ _ _ ((hF1 u).heap R1.out)
    have s2 : ∀ u, (E u).cell? ⟨gs, 2, none⟩ = some (.slice pt lt ct) := fun u => cell_of_row _ _ 2 _ _ _ ((hF1 u).heap R1.out)
    have s3 : ∀ u, (E u).cell? ⟨gs, 3, none⟩ = some (.slice ps ls cs) := fun u => cell_of_row _ _ 3 _ _ _ ((hF1 u).heap R1.out)
    have DD0 := HU.out _ (Ab.refl v1).drew
    clear hF1 hF2
    refine region_cls E (by kernel_rfl) (by kernel_rfl) DD0 ?_
    repeat (go_big_quiet_step (first
      | (with_reducible rfl)
      | (go_at_call 17; exact calls_cls HU HU1 (CE.out _ (HX.out _)))))
    refine wpQuiet_nil ?_
    intro z hwz
    obtain ⟨u0, hu⟩ := hwz
    have AZ : Hid (Ab w z) := by rw [hu]; exact HX.out u0
    clear hu u0
    clear HU HU1 HX DD0 s0 s1 s2 s3
    clear E UU
    go_wp2
    go_ret
    exact ⟨rfl, AZ.out⟩
  · obtain ⟨UU, E, hF1, hF2⟩ := cls v1
    have HU := hid hF2
    have HU1 := hid hF1
    have HX : Hid (∀ u, Ab w (E u)) := fun u => Ab.trans A1.out (hF1 u)
    have s0 : ∀ u, (E u).cell? ⟨gs, 0, none⟩ = some (.slice pb lb cb) := fun u => cell_of_row _ _ 0 _ _ _ ((hF1 u).heap R1.out)
    have s1 : ∀ u, (E u).cell? ⟨gs, 1, none⟩ = some (.slice pw lw cw) := fun u => cell_of_row _ _ 1 _ _ _ ((hF1 u).heap R1.out)
    have s2 : ∀ u, (E u).cell? ⟨gs, 2, none⟩ = some (.slice pt lt ct) := fun u => cell_of_row _ _ 2 _ _ _ ((hF1 u).heap R1.out)
    have s3 : ∀ u, (E u).cell? ⟨gs, 3, none⟩ = some (.slice ps ls cs) := fun u => cell_of_row _ _ 3 _ _ _ ((hF1 u).heap R1.out)
    have DD0 := HU.out _ (Ab.refl v1).drew
    clear hF1 hF2
    refine region_cls E (by kernel_rfl) (by kernel_rfl) DD0 ?_
    repeat (go_big_quiet_step (first
      | (with_reducible rfl)
      | (go_at_call 17; exact calls_cls HU HU1 (CE.out _ (HX.out _)))))
    refine wpQuiet_nil ?_
    intro z hwz
    obtain ⟨u0, hu⟩ := hwz
    have AZ : Hid (Ab w z) := by rw [hu]; exact HX.out u0
    clear hu u0
    clear HU HU1 HX DD0 s0 s1 s2 s3
    clear E UU
    go_wp2
    go_ret
    exact ⟨rfl, AZ.out⟩
  · obtain ⟨UU, E, hF1, hF2⟩ := cls v1
    have HU := hid hF2
    have HU1 := hid hF1
    have HX : Hid (∀ u, Ab w (E u)) := fun u => Ab.trans A1.out (hF1 u)
    have s0 : ∀ u, (E u).cell? ⟨gs, 0, none⟩ = some (.slice pb lb cb) := fun u => cell_of_row _ _ 0 _ _ _ ((hF1 u).heap R1.out)
    have s1 : ∀ u, (E u).cell? ⟨gs, 1, none⟩ = some (.slice pw lw cw) := fun u => cell_of_row _ _ 1 _ _ _ ((hF1 u).heap R1.out)
    have s2 : ∀ u, (E u).cell? ⟨gs, 2, none⟩ = some (.slice pt lt ct) := fun u => cell_of_row _ _ 2 _ _ _ ((hF1 u).heap R1.out)
    have s3 : ∀ u, (E u).cell? ⟨gs, 3, none⟩ = some (.slice ps ls cs) := fun u => cell_of_row _ _ 3 _ _ _ ((hF1 u).heap R1.out)
    have DD0 := HU.out _ (Ab.refl v1).drew
    clear hF1 hF2
    refine region_cls E (by kernel_rfl) (by kernel_rfl) DD0 ?_
    repeat (go_big_quiet_step (first
      | (with_reducible rfl)
      | (go_at_call 17; exact calls_cls HU HU1 (CE.out _ (HX.out _)))))
    refine wpQuiet_nil ?_
    intro z hwz
    obtain ⟨u0, hu⟩ := hwz
    have AZ : Hid (Ab w z) := by rw [hu]; exact HX.out u0
    clear hu u0
    clear HU HU1 HX DD0 s0 s1 s2 s3
    clear E UU
    go_wp2
    go_ret
    exact ⟨rfl, AZ.out⟩
set_option maxRecDepth 100000 in
set_option maxHeartbeats 8000000 in
theorem all13_no (gb : Nat) (sd : Int) (dt gr dr : Nat) (lim : Int) (rv : Bool) (pr : Option Addr) (lr cr : Nat) (pb pw pt ps : Option Addr) (lb cb lw cw lt ct ls cs : Nat) (sky st : Int) (w : World)
    (CF : Hid (∀ v, Ab w v → Calls Tryz.prog 16 #[(.pointer (some ⟨gb, 0, none⟩)), .agg #[.slice pb lb cb, .slice pw lw cw, .slice pt lt ct, .slice ps ls cs, .int .i64 sky, .int .i64 st]] v fun e w' => e = .returned (.bool false) ∧ Below v.heap.size v w')) :
    Calls Tryz.prog 8 #[(.pointer (some ⟨gb, 0, none⟩)), .agg #[.int .i64 sd, .float .f64 dt, .float .f64 gr, .float .f64 dr, .int .i64 lim, .bool rv, .slice pr lr cr], .agg #[.slice pb lb cb, .slice pw lw cw, .slice pt lt ct, .slice ps ls cs, .int .i64 sky, .int .i64 st]] w fun e w' => e = .returned (.tuple #[.slice none 0 0, .int .i64 1]) ∧ Below w.heap.size w w' := by
  have A0 : Hid (Ab w ((w.alloc (.cells #[.int .i64 sd, .float .f64 dt, .float .f64 gr, .float .f64 dr, .int .i64 lim, .bool rv, .slice pr lr cr] 31)).alloc (.cells #[.slice pb lb cb, .slice pw lw cw, .slice pt lt ct, .slice ps ls cs, .int .i64 sky, .int .i64 st] 35))) := bl2 _ _ _
  have RP : Hid (((w.alloc (.cells #[.int .i64 sd, .float .f64 dt, .float .f64 gr, .float .f64 dr, .int .i64 lim, .bool rv, .slice pr lr cr] 31)).alloc (.cells #[.slice pb lb cb, .slice pw lw cw, .slice pt lt ct, .slice ps ls cs, .int .i64 sky, .int .i64 st] 35)).heap[w.heap.size]? = some (.cells #[.int .i64 sd, .float .f64 dt, .float .f64 gr, .float .f64 dr, .int .i64 lim, .bool rv, .slice pr lr cr] 31)) := heap_alloc2_old _ _ _
  have RO : Hid (((w.alloc (.cells #[.int .i64 sd, .float .f64 dt, .float .f64 gr, .float .f64 dr, .int .i64 lim, .bool rv, .slice pr lr cr] 31)).alloc (.cells #[.slice pb lb cb, .slice pw lw cw, .slice pt lt ct, .slice ps ls cs, .int .i64 sky, .int .i64 st] 35)).heap[w.heap.size + 1]? = some (.cells #[.slice pb lb cb, .slice pw lw cw, .slice pt lt ct, .slice ps ls cs, .int .i64 sky, .int .i64 st] 35)) := heap_alloc2_new _ _ _
  go_enter Tryz.func8, Tryz.ntmps8
  go_upto_region 3 with fail
  generalize hW : World.alloc (World.alloc w _) _ = W at *
  obtain ⟨gp, hgp⟩ : ∃ g, w.heap.size = g := ⟨_, rfl⟩
  obtain ⟨gs, hgs⟩ : ∃ g, w.heap.size + 1 = g := ⟨_, rfl⟩
  rw [hgp] at RP
  rw [hgs] at RO
  rw [hgs, hgp]
  clear hgs hgp hW
  have s0 := cell_of_row _ _ 0 _ _ _ RO.out
  have s1 := cell_of_row _ _ 1 _ _ _ RO.out
  have s2 := cell_of_row _ _ 2 _ _ _ RO.out
  have s3 := cell_of_row _ _ 3 _ _ _ RO.out
  have s4 := cell_of_row _ _ 4 _ _ _ RO.out
  have s5 := cell_of_row _ _ 5 _ _ _ RO.out
  go_wp2_with fail
  refine (CF.out _ A0.out).mono ?_
  rintro e9 z ⟨rfl, bz⟩
  have AB : Hid (Ab W z) := bz
  clear bz s0 s1 s2 s3 s4 s5
  go_wp2
  go_ret2
  exact ⟨rfl, A0.out.trans AB.out⟩
set_option maxRecDepth 100000 in
set_option maxHeartbeats 8000000 in
theorem all13_go (gb : Nat) (sd : Int) (dt gr dr : Nat) (lim : Int) (rv : Bool) (pr : Option Addr) (lr cr : Nat) (pb pw pt : Option Addr) (M cb cw ct sb so cs : Nat) (sky st : Int) (N : Nat) (Sp Dp Ln : Nat → Nat) (D : Nat → Int) (w : World) (hN : N ≤ 1048576)
    (CF : Hid (∀ v, Ab w v → Calls Tryz.prog 16 #[(.pointer (some ⟨gb, 0, none⟩)), .agg #[.slice pb M cb, .slice pw M cw, .slice pt M ct, .slice (some ⟨sb, so, none⟩) N cs, .int .i64 sky, .int .i64 st]] v fun e w' => e = .returned (.bool true) ∧ Below v.heap.size v w'))
    (CE : Hid (∀ v, Ab w v → Calls Tryz.prog 17 #[(.pointer (some ⟨gb, 0, none⟩))] v fun e w' => e = .returned (.int .i64 (N : Nat)) ∧ w' = v))
    (FSp : Hid (∀ c, c < N → ∀ v, Ab w v → v.cell? ⟨sb, so + c, none⟩ = some (.float .f64 (Sp c))))
    (CD : Hid (∀ c, c < N → ∀ v, Ab w v → Calls Tryz.prog 18 #[(.pointer (some ⟨gb, 0, none⟩)), .int .i64 lim, .agg #[.slice pb M cb, .slice pw M cw, .slice pt M ct, .slice (some ⟨sb, so, none⟩) N cs, .int .i64 sky, .int .i64 st], .int .i64 (c : Nat), .float .f64 (Sp c)] v fun e w' => e = .returned (.float .f64 (Dp c)) ∧ Below v.heap.size v w'))
    (CL : Hid (∀ c, c < N → ∀ v, Ab w v → Calls Tryz.prog 19 #[(.pointer (some ⟨gb, 0, none⟩)), .int .i64 (c : Nat)] v fun e w' => e = .returned (.float .f64 (Ln c)) ∧ Below v.heap.size v w'))
    (CQ : Hid (∀ c, c < N → ∀ v : World, Calls Tryz.prog 6 #[.float .f64 (Sp c), .float .f64 (Dp c), .float .f64 (Ln c), .float .f64 dt] v fun e w' => e = .returned (.int .i64 (D c)) ∧ Below v.heap.size v w')) :
    Calls Tryz.prog 8 #[(.pointer (some ⟨gb, 0, none⟩)), .agg #[.int .i64 sd, .float .f64 dt, .float .f64 gr, .float .f64 dr, .int .i64 lim, .bool rv, .slice pr lr cr], .agg #[.slice pb M cb, .slice pw M cw, .slice pt M ct, .slice (some ⟨sb, so, none⟩) N cs, .int .i64 sky, .int .i64 st]] w fun e w' => ∃ b, e = .returned (.tuple #[.slice (some ⟨b, 0, none⟩) N N, .int .i64 0]) ∧ Below w.heap.size w w' ∧ w'.rowIs b 2 N (fun i => .int .i64 (D i)) ∧ w.heap.size ≤ b := by
  have M1 : ∀ v : World, (Instr.makeSlice 33 (.int .i64 (N : Nat)) (.int .i64 (N : Nat))).run Tryz.prog v = .ok (.slice (some ⟨v.heap.size, 0, none⟩) N N) (v.alloc (Obj.cells (madeCells #[.int .i64 0] N) 2)) := fun v =>
    run_make_row' (P := Tryz.prog) 33 2 (.int .i64 0) 8 Tryz.underlying33 info64 rfl .i64 .i64 N (by omega) (by omega) v
  have HN := hid hN
  clear hN
  have A0 : Hid (Ab w ((w.alloc (.cells #[.int .i64 sd, .float .f64 dt, .float .f64 gr, .float .f64 dr, .int .i64 lim, .bool rv, .slice pr lr cr] 31)).alloc (.cells #[.slice pb M cb, .slice pw M cw, .slice pt M ct, .slice (some ⟨sb, so, none⟩) N cs, .int .i64 sky, .int .i64 st] 35))) := bl2 _ _ _
  have RP : Hid (((w.alloc (.cells #[.int .i64 sd, .float .f64 dt, .float .f64 gr, .float .f64 dr, .int .i64 lim, .bool rv, .slice pr lr cr] 31)).alloc (.cells #[.slice pb M cb, .slice pw M cw, .slice pt M ct, .slice (some ⟨sb, so, none⟩) N cs, .int .i64 sky, .int .i64 st] 35)).heap[w.heap.size]? = some (.cells #[.int .i64 sd, .float .f64 dt, .float .f64 gr, .float .f64 dr, .int .i64 lim, .bool rv, .slice pr lr cr] 31)) := heap_alloc2_old _ _ _
  have RO : Hid (((w.alloc (.cells #[.int .i64 sd, .float .f64 dt, .float .f64 gr, .float .f64 dr, .int .i64 lim, .bool rv, .slice pr lr cr] 31)).alloc (.cells #[.slice pb M cb, .slice pw M cw, .slice pt M ct, .slice (some ⟨sb, so, none⟩) N cs, .int .i64 sky, .int .i64 st] 35)).heap[w.heap.size + 1]? = some (.cells #[.slice pb M cb, .slice pw M cw, .slice pt M ct, .slice (some ⟨sb, so, none⟩) N cs, .int .i64 sky, .int .i64 st] 35)) := heap_alloc2_new _ _ _
  go_enter Tryz.func8, Tryz.ntmps8
  go_upto_region 3 with fail
  generalize hW : World.alloc (World.alloc w _) _ = W at *
  obtain ⟨gp, hgp⟩ : ∃ g, w.heap.size = g := ⟨_, rfl⟩
  obtain ⟨gs, hgs⟩ : ∃ g, w.heap.size + 1 = g := ⟨_, rfl⟩
  rw [hgp] at RP
  rw [hgs] at RO
  rw [hgs, hgp]
  clear hgs hgp hW
  have s0 := cell_of_row _ _ 0 _ _ _ RO.out
  have s1 := cell_of_row _ _ 1 _ _ _ RO.out
  have s2 := cell_of_row _ _ 2 _ _ _ RO.out
  have s3 := cell_of_row _ _ 3 _ _ _ RO.out
  have s4 := cell_of_row _ _ 4 _ _ _ RO.out
  have s5 := cell_of_row _ _ 5 _ _ _ RO.out
  go_wp2_with fail
  refine (CF.out _ A0.out).mono ?_
  rintro e9 z ⟨rfl, bz⟩
  have AB : Hid (Ab W z) := bz
  clear bz s0 s1 s2 s3 s4 s5
  have AZ : Hid (Ab w z) := A0.out.trans AB.out
  have RZ : Hid (z.heap[gs]? = some (.cells #[.slice pb M cb, .slice pw M cw, .slice pt M ct, .slice (some ⟨sb, so, none⟩) N cs, .int .i64 sky, .int .i64 st] 35)) := AB.out.heap RO.out
  have RQ : Hid (z.heap[gp]? = some (.cells #[.int .i64 sd, .float .f64 dt, .float .f64 gr, .float .f64 dr, .int .i64 lim, .bool rv, .slice pr lr cr] 31)) := AB.out.heap RP.out
  clear A0 RO RP AB
  go_wp2_with fail
  refine (CE.out _ AZ.out).mono ?_
  rintro e9 vq ⟨rfl, hvq⟩
  have hvq2 := hvq.symm
  subst hvq2
  have LZ : Hid (w.heap.size ≤ z.heap.size ∧ gs ≠ z.heap.size ∧ gp ≠ z.heap.size) := ⟨AZ.out.size, by have := lt_of_block RZ.out; omega, by have := lt_of_block RQ.out; omega⟩
  have IN0 : Hid (Ab w (z.alloc (Obj.cells (madeCells #[.int .i64 0] N) 2)) ∧ (z.alloc (Obj.cells (madeCells #[.int .i64 0] N) 2)).heap[gs]? = some (.cells #[.slice pb M cb, .slice pw M cw, .slice pt M ct, .slice (some ⟨sb, so, none⟩) N cs, .int .i64 sky, .int .i64 st] 35) ∧ (z.alloc (Obj.cells (madeCells #[.int .i64 0] N) 2)).heap[gp]? = some (.cells #[.int .i64 sd, .float .f64 dt, .float .f64 gr, .float .f64 dr, .int .i64 lim, .bool rv, .slice pr lr cr] 31) ∧ (z.alloc (Obj.cells (madeCells #[.int .i64 0] N) 2)).rowIs z.heap.size 2 N (fun _ => .int .i64 0)) := ⟨AZ.out.alloc _, Ab.heap (bl1 _ _) RZ.out, Ab.heap (bl1 _ _) RQ.out, World.rowIs_made _ _ _ _⟩
  go_upto_region 6 with fail
  generalize hV : World.alloc z _ = V at *
  obtain ⟨b, hb⟩ : ∃ b, z.heap.size = b := ⟨_, rfl⟩
  rw [hb] at IN0 LZ ⊢
  clear hV hb AZ RZ RQ M1
  have IN : Hid (Ab w V ∧ V.heap[gs]? = some (.cells #[.slice pb M cb, .slice pw M cw, .slice pt M ct, .slice (some ⟨sb, so, none⟩) N cs, .int .i64 sky, .int .i64 st] 35) ∧ V.heap[gp]? = some (.cells #[.int .i64 sd, .float .f64 dt, .float .f64 gr, .float .f64 dr, .int .i64 lim, .bool rv, .slice pr lr cr] 31) ∧ V.rowIs b 2 N (fun i => .int .i64 (if i < 0 then D i else 0))) := ⟨IN0.out.1, IN0.out.2.1, IN0.out.2.2.1, IN0.out.2.2.2.congr (fun i _ => by simp)⟩
  clear IN0
  have s3 := cell_of_row _ _ 3 _ _ _ IN.out.2.1
  go_wp2
  clear s3
  go_loopw [24] (fun iv wr => ∃ c : Nat, c ≤ N ∧ iv = .int .i64 (c : Nat) ∧ Ab w wr ∧ wr.heap[gs]? = some (.cells #[.slice pb M cb, .slice pw M cw, .slice pt M ct, .slice (some ⟨sb, so, none⟩) N cs, .int .i64 sky, .int .i64 st] 35) ∧ wr.heap[gp]? = some (.cells #[.int .i64 sd, .float .f64 dt, .float .f64 gr, .float .f64 dr, .int .i64 lim, .bool rv, .slice pr lr cr] 31) ∧ wr.rowIs b 2 N (fun i => .int .i64 (if i < c then D i else 0))) (fun iv _ => N - (intOf iv).toNat)
  case atStart => exact ⟨0, by omega, rfl, IN.out⟩
  case round =>
    obtain ⟨c, hc, rfl, a1, r1, r2, o1⟩ := hrel
    clear IN
    have AR := hid a1
    have RR := hid r1
    have RP := hid r2
    have OO := hid o1
    clear a1 r1 r2 o1
    by_cases hcN : c < N
    · have HC := hid hcN
      have hcI : (c : Int) < N := by omega
      have hcB : (c : Int) ≤ 1048576 := by have := HN.out; omega
      obtain ⟨x, hx⟩ : ∃ x, Sp c = x := ⟨_, rfl⟩
      obtain ⟨y, hy⟩ : ∃ y, D c = y := ⟨_, rfl⟩
      obtain ⟨dp, hdp⟩ : ∃ y, Dp c = y := ⟨_, rfl⟩
      obtain ⟨ln, hln⟩ : ∃ y, Ln c = y := ⟨_, rfl⟩
      have CDc := hid (CD.out c hcN)
      have CLc := hid (CL.out c hcN)
      have CQc := hid (CQ.out c hcN)
      rw [hx, hdp] at CDc
      rw [hln] at CLc
      rw [hx, hdp, hln, hy] at CQc
      have HX2 := hid hx
      have HY := hid hy
      clear hx hy hdp hln hcN
      have s0 := cell_of_row _ _ 0 _ _ _ RR.out
      have s1 := cell_of_row _ _ 1 _ _ _ RR.out
      have s2 := cell_of_row _ _ 2 _ _ _ RR.out
      have s3 := cell_of_row _ _ 3 _ _ _ RR.out
      have s4 := cell_of_row _ _ 4 _ _ _ RR.out
      have s5 := cell_of_row _ _ 5 _ _ _ RR.out
      have p4 := cell_of_row _ _ 4 _ _ _ RP.out
      have sx : wr.cell? ⟨sb, so + c, none⟩ = some (.float .f64 x) := (FSp.out c HC.out _ AR.out).trans (by rw [HX2.out])
      go_wp2_with fail
      refine (CDc.out _ AR.out).mono ?_
      rintro e9 v1 ⟨rfl, b1⟩
      have A1 : Hid (Ab wr v1) := b1
      clear b1 s0 s1 s2 s3 s4 s5 p4 sx
      go_upto_region 10 with fail
      obtain ⟨UU, E, hF1, hF2⟩ := cls v1
      have HU := hid hF2
      have HU1 := hid hF1
      have HX : Hid (∀ u, Ab wr (E u)) := fun u => Ab.trans A1.out (hF1 u)
      have p1 : ∀ u, (E u).cell? ⟨gp, 1, none⟩ = some (.float .f64 dt) := fun u => cell_of_row _ _ 1 _ _ _ ((A1.out.trans (hF1 u)).heap RP.out)
      have DD0 := HU.out _ (Ab.refl v1).drew
      clear hF1 hF2
      refine region_tail 11 E (by kernel_rfl) (by kernel_rfl) (by kernel_rfl) DD0 ?_
      simp only [List.take_succ_cons, List.take_zero, List.drop_succ_cons, List.drop_zero]
      repeat (go_big_quiet_step (first
        | (with_reducible rfl)
        | (go_at_call 19; exact calls_cls HU HU1 (CLc.out _ (AR.out.trans (HX.out _))))
        | (go_at_call 6; exact calls_cls HU HU1 (CQc.out _))))
      refine wpQuiet_nil ?_
      intro vz hwz
      obtain ⟨u0, hu⟩ := hwz
      have AZ : Hid (Ab wr vz) := by rw [hu]; exact HX.out u0
      clear hu u0
      clear HU HU1 HX DD0 p1
      clear E UU
      have OZ := hid (rowIs.ab OO.out AZ.out)
      have xc := OZ.out.cell HC.out
      have xf := OZ.out.frozen c
      go_wp2
      refine ⟨⟨c + 1, by have := HC.out; omega, by simp, (AR.out.trans AZ.out).setk LZ.out.1 _, ?_, ?_, (OZ.out.set c _).congr (fun i _ => ?_)⟩, by simp [intOf]; have := HC.out; omega⟩
      · rw [heap_set_ne LZ.out.2.1]; exact AZ.out.heap RR.out
      · rw [heap_set_ne LZ.out.2.2]; exact AZ.out.heap RP.out
      · by_cases e : i = c
        · simp [e, HY.out]
        · by_cases l : i < c
          · simp [e, l, show i < c + 1 by omega]
          · simp [e, l, show ¬ i < c + 1 by omega]
    · have e6 : N = c := by omega
      subst e6
      go_wp2
      go_ret2
      exact ⟨b, rfl, AR.out, OO.out.congr (fun i hi => by simp [hi]), LZ.out.1⟩
end Go.Proofs.YtomenbbhdnfciaaGreatDoor

namespace Go.Proofs.YtomenbbhdnfciaaGreatDoor
open Go.RowKit Tf Cu Go.Deep
attribute [local go_sem] run_bits run_from raw_feq raw_fne raw_flt raw_fgt run_neg run_store_float
set_option maxHeartbeats 2000000 in
theorem quantaC : QuantaC := by
  intro u d l t w hu hd hl ht
  obtain ⟨r1, n1, h1, q1⟩ := mul_any (P := Tryz.prog) w u (qB u) d (qB d) (IsQ.self hu) (IsQ.self hd)
  obtain ⟨r2, n2, h2, q2⟩ := mul_any (P := Tryz.prog) (w.drewN n1) r1 _ l (qB l) q1 (IsQ.self hl)
  obtain ⟨r3, n3, h3, q3⟩ := mul_any (P := Tryz.prog) (w.drewN (n1 + n2)) r2 _ t (qB t) q2 (IsQ.self ht)
  obtain ⟨r4, n4, h4, q4⟩ := mul_any (P := Tryz.prog) (w.drewN (n1 + n2 + n3)) r3 _ 4742290407621132288 (qB 4742290407621132288) q3 (IsQ.self (by decide))
  have e : clampB r4 4503599627370496 = qnB u d l t := by
    rw [clampB_q q4, mlB_qq, mlB_qr, mlB_qr, mlB_qr]
    rfl
  have CL := hid (fun v => clamp_at r4 4503599627370496 (qnB u d l t) v q4.1 (by decide) e)
  generalize qnB u d l t = z at *
  have AB : Hid (∀ k, Ab w (w.drewN k)) := fun k => (Ab.refl w).drewN k
  clear q1 q2 q3 q4 e hu hd hl ht
  go_enter Tryz.func6, Tryz.ntmps6
  go_wp2_with fail
  refine (CL.out _).mono ?_
  rintro e v ⟨rfl, n5, rfl⟩
  go_wp2
  go_ret
  exact ⟨rfl, AB.out _⟩
end Go.Proofs.YtomenbbhdnfciaaGreatDoor

namespace Go.Proofs.YtomenbbhdnfciaaGreatDoor
open Go.RowKit Tf Cu
attribute [local go_sem] run_bits run_from raw_feq raw_fne raw_flt raw_fgt run_neg run_store_float
set_option maxRecDepth 100000 in
set_option maxHeartbeats 8000000 in
theorem fit12_at (gp : Value) (pb pw pt ps : Option Addr) (lb cb lw cw lt ct ls cs : Nat) (sky st : Int) (M : Nat) (q : Bool) (w : World)
    (hq : (((lb : Int) == (M : Int)) = false ∧ q = false) ∨ (((lb : Int) == (M : Int)) = true ∧ ((lw : Int) == (M : Int)) = q))
    (CC : Hid (∀ v, Ab w v → Calls Tryz.prog 35 #[gp] v fun e w' => e = .returned (.int .i64 (M : Nat)) ∧ Below v.heap.size v w')) :
    Calls Tryz.prog 42 #[gp, .agg #[.slice pb lb cb, .slice pw lw cw, .slice pt lt ct, .slice ps ls cs, .int .i64 sky, .int .i64 st]] w fun e w' => e = .returned (.bool q) ∧ Below w.heap.size w w' := by
  have A0 : Hid (Ab w (w.alloc (.cells #[.slice pb lb cb, .slice pw lw cw, .slice pt lt ct, .slice ps ls cs, .int .i64 sky, .int .i64 st] 35))) := bl1 _ _
  have RO : Hid ((w.alloc (.cells #[.slice pb lb cb, .slice pw lw cw, .slice pt lt ct, .slice ps ls cs, .int .i64 sky, .int .i64 st] 35)).heap[w.heap.size]? = some (.cells #[.slice pb lb cb, .slice pw lw cw, .slice pt lt ct, .slice ps ls cs, .int .i64 sky, .int .i64 st] 35)) := heap_alloc_new _ _
  go_enter Tryz.func42, Tryz.ntmps42
  go_upto_region 1 with fail
  generalize hW : World.alloc w _ = W at *
  obtain ⟨gs, hgs⟩ : ∃ g, w.heap.size = g := ⟨_, rfl⟩
  rw [hgs] at RO ⊢
  clear hgs hW
  rcases hq with ⟨q1, rfl⟩ | ⟨q1, q2⟩
  · obtain ⟨UU, E, hF1, hF2⟩ := cls W
    have HU := hid hF2
    have HU1 := hid hF1
    have HX : Hid (∀ u, Ab w (E u)) := fun u => Ab.trans A0.out (hF1 u)
    have x0 : ∀ u, (E u).cell? ⟨gs, 0, none⟩ = some (.slice pb lb cb) := fun u => cell_of_row _ _ 0 _ _ _ ((hF1 u).heap RO.out)
    have x1 : ∀ u, (E u).cell? ⟨gs, 1, none⟩ = some (.slice pw lw cw) := fun u => cell_of_row _ _ 1 _ _ _ ((hF1 u).heap RO.out)
    have DD0 := HU.out _ (Ab.refl W).drew
    clear hF1 hF2
    refine region_cls E (by kernel_rfl) (by kernel_rfl) DD0 ?_
    repeat (go_big_quiet_step (first
      | (with_reducible rfl)
      | (go_at_call 35; exact calls_cls HU HU1 (CC.out _ (HX.out _)))))
    refine wpQuiet_nil ?_
    intro z hwz
    obtain ⟨u0, hu⟩ := hwz
    have AZ : Hid (Ab w z) := by rw [hu]; exact HX.out u0
    clear hu u0
    clear HU HU1 HX DD0 x0 x1
    clear E UU
    go_wp2
    go_ret
    exact ⟨rfl, AZ.out⟩
  · obtain ⟨UU, E, hF1, hF2⟩ := cls W
    have HU := hid hF2
    have HU1 := hid hF1
    have HX : Hid (∀ u, Ab w (E u)) := fun u => Ab.trans A0.out (hF1 u)
    have x0 : ∀ u, (E u).cell? ⟨gs, 0, none⟩ = some (.slice pb lb cb) := fun u => cell_of_row _ _ 0 _ _ _ ((hF1 u).heap RO.out)
    have x1 : ∀ u, (E u).cell? ⟨gs, 1, none⟩ = some (.slice pw lw cw) := fun u => cell_of_row _ _ 1 _ _ _ ((hF1 u).heap RO.out)
    have DD0 := HU.out _ (Ab.refl W).drew
    clear hF1 hF2
    refine region_cls E (by kernel_rfl) (by kernel_rfl) DD0 ?_
    repeat (go_big_quiet_step (first
      | (with_reducible rfl)
      | (go_at_call 35; exact calls_cls HU HU1 (CC.out _ (HX.out _)))))
    refine wpQuiet_nil ?_
    intro z hwz
    obtain ⟨u0, hu⟩ := hwz
    have AZ : Hid (Ab w z) := by rw [hu]; exact HX.out u0
    clear hu u0
    clear HU HU1 HX DD0 x0 x1
    clear E UU
    go_wp2
    go_ret
    exact ⟨rfl, AZ.out⟩
set_option maxRecDepth 100000 in
set_option maxHeartbeats 8000000 in
theorem dof12_at (gp : Value) (bb bo wb wo M cb cw : Nat) (pt ps : Option Addr) (lt ct ls cs : Nat) (sky st : Int) (c : Nat) (wC aC : Int) (h : Nat) (w : World) (hc : ((c : Nat) : Int) < M)
    (FW : Hid (∀ v, Ab w v → v.cell? ⟨wb, wo + c, none⟩ = some (.int .i64 wC)))
    (AC : Hid (∀ v, Ab w v → Calls Tryz.prog 36 #[gp, .int .i64 (c : Nat)] v fun e w' => e = .returned (.int .i64 aC) ∧ Below v.heap.size v w'))
    (DC : Hid (∀ v : World, Calls Tryz.prog 115 #[.int .i64 wC, .int .i64 aC] v fun e w' => e = .returned (.float .f64 h) ∧ Below v.heap.size v w')) :
    Calls Tryz.prog 80 #[gp, .agg #[.slice (some ⟨bb, bo, none⟩) M cb, .slice (some ⟨wb, wo, none⟩) M cw, .slice pt lt ct, .slice ps ls cs, .int .i64 sky, .int .i64 st], .int .i64 (c : Nat)] w fun e w' => e = .returned (.float .f64 h) ∧ Below w.heap.size w w' := by
  have A0 : Hid (Ab w (w.alloc (.cells #[.slice (some ⟨bb, bo, none⟩) M cb, .slice (some ⟨wb, wo, none⟩) M cw, .slice pt lt ct, .slice ps ls cs, .int .i64 sky, .int .i64 st] 35))) := bl1 _ _
  have RO : Hid ((w.alloc (.cells #[.slice (some ⟨bb, bo, none⟩) M cb, .slice (some ⟨wb, wo, none⟩) M cw, .slice pt lt ct, .slice ps ls cs, .int .i64 sky, .int .i64 st] 35)).heap[w.heap.size]? = some (.cells #[.slice (some ⟨bb, bo, none⟩) M cb, .slice (some ⟨wb, wo, none⟩) M cw, .slice pt lt ct, .slice ps ls cs, .int .i64 sky, .int .i64 st] 35)) := heap_alloc_new _ _
  go_enter Tryz.func80, Tryz.ntmps80
  go_upto_region 1 with fail
  generalize hW : World.alloc w _ = W at *
  obtain ⟨gs, hgs⟩ : ∃ g, w.heap.size = g := ⟨_, rfl⟩
  rw [hgs] at RO ⊢
  clear hgs hW
  obtain ⟨UU, E, hF1, hF2⟩ := cls W
  have HU := hid hF2
  have HU1 := hid hF1
  have HX : Hid (∀ u, Ab w (E u)) := fun u => Ab.trans A0.out (hF1 u)
  have x1 : ∀ u, (E u).cell? ⟨gs, 1, none⟩ = some (.slice (some ⟨wb, wo, none⟩) M cw) := fun u => cell_of_row _ _ 1 _ _ _ ((hF1 u).heap RO.out)
  have xw : ∀ u, (E u).cell? ⟨wb, wo + c, none⟩ = some (.int .i64 wC) := fun u => FW.out _ (HX.out u)
  have DD0 := HU.out _ (Ab.refl W).drew
  clear hF1 hF2
  refine region_cls E (by kernel_rfl) (by kernel_rfl) DD0 ?_
  repeat (go_big_quiet_step (first
    | (with_reducible rfl)
    | (go_at_call 36; exact calls_cls HU HU1 (AC.out _ (HX.out _)))
    | (go_at_call 115; exact calls_cls HU HU1 (DC.out _))))
  refine wpQuiet_nil ?_
  intro z hwz
  obtain ⟨u0, hu⟩ := hwz
  have AZ : Hid (Ab w z) := by rw [hu]; exact HX.out u0
  clear hu u0
  clear HU HU1 HX DD0 x1 xw
  clear E UU
  go_wp2
  go_ret
  exact ⟨rfl, AZ.out⟩
set_option maxRecDepth 100000 in
set_option maxHeartbeats 8000000 in
theorem wo12_no (gp : Value) (e : Int) (u : Nat) (w : World)
    (CE : Hid (∀ v, Ab w v → Calls Tryz.prog 75 #[gp, .int .i64 e] v fun e w' => e = .returned (.tuple #[.agg #[.int .i64 0, .int .i64 0, .int .i64 0, .int .i64 0], .bool false]) ∧ Below v.heap.size v w')) :
    Calls Tryz.prog 43 #[gp, .int .i64 e, .float .f64 u] w fun e w' => e = .returned (.tuple #[.agg #[.int .i64 0, .int .i64 0, .int .i64 0], .bool false]) ∧ Below w.heap.size w w' := by
  have A0 : Hid (Ab w (w.alloc (.cells #[.int .i64 0, .int .i64 0, .int .i64 0] 86))) := bl1 _ _
  have R0 : Hid ((w.alloc (.cells #[.int .i64 0, .int .i64 0, .int .i64 0] 86)).heap[w.heap.size]? = some (.cells #[.int .i64 0, .int .i64 0, .int .i64 0] 86)) := heap_alloc_new _ _
  go_enter Tryz.func43, Tryz.ntmps43
  go_wp2_with fail
  refine (CE.out _ A0.out).mono ?_
  rintro e9 v1 ⟨rfl, b1⟩
  have A1 : Hid (Ab w (v1.alloc (.cells #[.int .i64 0, .int .i64 0, .int .i64 0, .int .i64 0] 73))) := (A0.out.call b1).alloc _
  have R1 : Hid ((v1.alloc (.cells #[.int .i64 0, .int .i64 0, .int .i64 0, .int .i64 0] 73)).heap[w.heap.size]? = some (.cells #[.int .i64 0, .int .i64 0, .int .i64 0] 86)) := Ab.heap (bl1 _ _) (Ab.heap b1 R0.out)
  have ER1 : Hid ((v1.alloc (.cells #[.int .i64 0, .int .i64 0, .int .i64 0, .int .i64 0] 73)).heap[v1.heap.size]? = some (.cells #[.int .i64 0, .int .i64 0, .int .i64 0, .int .i64 0] 73)) := heap_alloc_new _ _
  clear b1 A0 R0
  obtain ⟨⟨o0, o1, o2⟩, o3, o4, o5⟩ := rowfacts R1.out
  go_wp2
  refine bodyPost_ret ?_ rfl ⟨rfl, ?_⟩
  · exact res_two Tryz.results43 _ _ w.heap.size _ _ (0, 0) _ _ rfl rfl (row3 R1.out) Tryz.underlying86 rfl (by kernel_rfl)
  · exact ((A1.out.setk (Nat.le_refl _) _).setk (Nat.le_refl _) _).setk (Nat.le_refl _) _
set_option maxRecDepth 100000 in
set_option maxHeartbeats 8000000 in
theorem wo12_pos (gp : Value) (e : Int) (u : Nat) (L S R Q p q : Nat) (w : World) (hu1 : fgt u 0 = true)
    (CE : Hid (∀ v, Ab w v → Calls Tryz.prog 75 #[gp, .int .i64 e] v fun e w' => e = .returned (.tuple #[.agg #[.int .i64 (L : Nat), .int .i64 (S : Nat), .int .i64 (R : Nat), .int .i64 (Q : Nat)], .bool true]) ∧ Below v.heap.size v w'))
    (CB : Hid (∀ v, Ab w v → Calls Tryz.prog 76 #[gp, .int .i64 e] v fun e w' => e = .returned (.tuple #[.int .i64 (p : Nat), .int .i64 (q : Nat), .bool true]) ∧ Below v.heap.size v w')) :
    Calls Tryz.prog 43 #[gp, .int .i64 e, .float .f64 u] w fun e w' => e = .returned (.tuple #[.agg #[.int .i64 (L : Nat), .int .i64 (R : Nat), .int .i64 (p : Nat)], .bool true]) ∧ Below w.heap.size w w' := by
  have A0 : Hid (Ab w (w.alloc (.cells #[.int .i64 0, .int .i64 0, .int .i64 0] 86))) := bl1 _ _
  have R0 : Hid ((w.alloc (.cells #[.int .i64 0, .int .i64 0, .int .i64 0] 86)).heap[w.heap.size]? = some (.cells #[.int .i64 0, .int .i64 0, .int .i64 0] 86)) := heap_alloc_new _ _
  go_enter Tryz.func43, Tryz.ntmps43
  go_wp2_with fail
  refine (CE.out _ A0.out).mono ?_
  rintro e9 v1 ⟨rfl, b1⟩
  have A1 : Hid (Ab w (v1.alloc (.cells #[.int .i64 (L : Nat), .int .i64 (S : Nat), .int .i64 (R : Nat), .int .i64 (Q : Nat)] 73))) := (A0.out.call b1).alloc _
  have R1 : Hid ((v1.alloc (.cells #[.int .i64 (L : Nat), .int .i64 (S : Nat), .int .i64 (R : Nat), .int .i64 (Q : Nat)] 73)).heap[w.heap.size]? = some (.cells #[.int .i64 0, .int .i64 0, .int .i64 0] 86)) := Ab.heap (bl1 _ _) (Ab.heap b1 R0.out)
  have ER1 : Hid ((v1.alloc (.cells #[.int .i64 (L : Nat), .int .i64 (S : Nat), .int .i64 (R : Nat), .int .i64 (Q : Nat)] 73)).heap[v1.heap.size]? = some (.cells #[.int .i64 (L : Nat), .int .i64 (S : Nat), .int .i64 (R : Nat), .int .i64 (Q : Nat)] 73)) := heap_alloc_new _ _
  clear b1 A0 R0
  go_wp2_with fail
  refine (CB.out _ A1.out).mono ?_
  rintro e9 v2 ⟨rfl, b2⟩
  obtain ⟨ge, hge⟩ : ∃ g, v1.heap.size = g := ⟨_, rfl⟩
  have A2 : Hid (Ab w v2) := A1.out.call b2
  have R2 : Hid (v2.heap[w.heap.size]? = some (.cells #[.int .i64 0, .int .i64 0, .int .i64 0] 86)) := Ab.heap b2 R1.out
  have ER2 : Hid (v2.heap[ge]? = some (.cells #[.int .i64 (L : Nat), .int .i64 (S : Nat), .int .i64 (R : Nat), .int .i64 (Q : Nat)] 73)) := by rw [← hge]; exact Ab.heap b2 ER1.out
  clear b2 A1 R1 ER1
  rw [hge]
  clear hge
  obtain ⟨⟨o0, o1, o2⟩, o3, o4, o5⟩ := rowfacts R2.out
  have e0 := cell_of_row _ _ 0 _ _ _ ER2.out
  have e2 := cell_of_row _ _ 2 _ _ _ ER2.out
  go_wp2
  refine bodyPost_ret ?_ rfl ⟨rfl, ?_⟩
  · exact res_two Tryz.results43 _ _ w.heap.size _ _ (0, 0) _ _ rfl rfl (row3 R2.out) Tryz.underlying86 rfl (by kernel_rfl)
  · exact ((A2.out.setk (Nat.le_refl _) _).setk (Nat.le_refl _) _).setk (Nat.le_refl _) _
set_option maxRecDepth 100000 in
set_option maxHeartbeats 8000000 in
theorem wo12_neg (gp : Value) (e : Int) (u : Nat) (L S R Q p q : Nat) (w : World) (hu1 : fgt u 0 = false) (hu2 : flt u 0 = true)
    (CE : Hid (∀ v, Ab w v → Calls Tryz.prog 75 #[gp, .int .i64 e] v fun e w' => e = .returned (.tuple #[.agg #[.int .i64 (L : Nat), .int .i64 (S : Nat), .int .i64 (R : Nat), .int .i64 (Q : Nat)], .bool true]) ∧ Below v.heap.size v w'))
    (CB : Hid (∀ v, Ab w v → Calls Tryz.prog 76 #[gp, .int .i64 e] v fun e w' => e = .returned (.tuple #[.int .i64 (p : Nat), .int .i64 (q : Nat), .bool true]) ∧ Below v.heap.size v w')) :
    Calls Tryz.prog 43 #[gp, .int .i64 e, .float .f64 u] w fun e w' => e = .returned (.tuple #[.agg #[.int .i64 (R : Nat), .int .i64 (L : Nat), .int .i64 (q : Nat)], .bool true]) ∧ Below w.heap.size w w' := by
  have A0 : Hid (Ab w (w.alloc (.cells #[.int .i64 0, .int .i64 0, .int .i64 0] 86))) := bl1 _ _
  have R0 : Hid ((w.alloc (.cells #[.int .i64 0, .int .i64 0, .int .i64 0] 86)).heap[w.heap.size]? = some (.cells #[.int .i64 0, .int .i64 0, .int .i64 0] 86)) := heap_alloc_new _ _
  go_enter Tryz.func43, Tryz.ntmps43
  go_wp2_with fail
  refine (CE.out _ A0.out).mono ?_
  rintro e9 v1 ⟨rfl, b1⟩
  have A1 : Hid (Ab w (v1.alloc (.cells #[.int .i64 (L : Nat), .int .i64 (S : Nat), .int .i64 (R : Nat), .int .i64 (Q : Nat)] 73))) := (A0.out.call b1).alloc _
  have R1 : Hid ((v1.alloc (.cells #[.int .i64 (L : Nat), .int .i64 (S : Nat), .int .i64 (R : Nat), .int .i64 (Q : Nat)] 73)).heap[w.heap.size]? = some (.cells #[.int .i64 0, .int .i64 0, .int .i64 0] 86)) := Ab.heap (bl1 _ _) (Ab.heap b1 R0.out)
  have ER1 : Hid ((v1.alloc (.cells #[.int .i64 (L : Nat), .int .i64 (S : Nat), .int .i64 (R : Nat), .int .i64 (Q : Nat)] 73)).heap[v1.heap.size]? = some (.cells #[.int .i64 (L : Nat), .int .i64 (S : Nat), .int .i64 (R : Nat), .int .i64 (Q : Nat)] 73)) := heap_alloc_new _ _
  clear b1 A0 R0
  go_wp2_with fail
  refine (CB.out _ A1.out).mono ?_
  rintro e9 v2 ⟨rfl, b2⟩
  obtain ⟨ge, hge⟩ : ∃ g, v1.heap.size = g := ⟨_, rfl⟩
  have A2 : Hid (Ab w v2) := A1.out.call b2
  have R2 : Hid (v2.heap[w.heap.size]? = some (.cells #[.int .i64 0, .int .i64 0, .int .i64 0] 86)) := Ab.heap b2 R1.out
  have ER2 : Hid (v2.heap[ge]? = some (.cells #[.int .i64 (L : Nat), .int .i64 (S : Nat), .int .i64 (R : Nat), .int .i64 (Q : Nat)] 73)) := by rw [← hge]; exact Ab.heap b2 ER1.out
  clear b2 A1 R1 ER1
  rw [hge]
  clear hge
  obtain ⟨⟨o0, o1, o2⟩, o3, o4, o5⟩ := rowfacts R2.out
  have e0 := cell_of_row _ _ 0 _ _ _ ER2.out
  have e2 := cell_of_row _ _ 2 _ _ _ ER2.out
  go_wp2
  refine bodyPost_ret ?_ rfl ⟨rfl, ?_⟩
  · exact res_two Tryz.results43 _ _ w.heap.size _ _ (0, 0) _ _ rfl rfl (row3 R2.out) Tryz.underlying86 rfl (by kernel_rfl)
  · exact ((A2.out.setk (Nat.le_refl _) _).setk (Nat.le_refl _) _).setk (Nat.le_refl _) _
set_option maxRecDepth 100000 in
set_option maxHeartbeats 8000000 in
theorem wo12_still (gp : Value) (e : Int) (u : Nat) (L S R Q p q : Nat) (w : World) (hu1 : fgt u 0 = false) (hu2 : flt u 0 = false)
    (CE : Hid (∀ v, Ab w v → Calls Tryz.prog 75 #[gp, .int .i64 e] v fun e w' => e = .returned (.tuple #[.agg #[.int .i64 (L : Nat), .int .i64 (S : Nat), .int .i64 (R : Nat), .int .i64 (Q : Nat)], .bool true]) ∧ Below v.heap.size v w'))
    (CB : Hid (∀ v, Ab w v → Calls Tryz.prog 76 #[gp, .int .i64 e] v fun e w' => e = .returned (.tuple #[.int .i64 (p : Nat), .int .i64 (q : Nat), .bool true]) ∧ Below v.heap.size v w')) :
    Calls Tryz.prog 43 #[gp, .int .i64 e, .float .f64 u] w fun e w' => e = .returned (.tuple #[.agg #[.int .i64 0, .int .i64 0, .int .i64 0], .bool false]) ∧ Below w.heap.size w w' := by
  have A0 : Hid (Ab w (w.alloc (.cells #[.int .i64 0, .int .i64 0, .int .i64 0] 86))) := bl1 _ _
  have R0 : Hid ((w.alloc (.cells #[.int .i64 0, .int .i64 0, .int .i64 0] 86)).heap[w.heap.size]? = some (.cells #[.int .i64 0, .int .i64 0, .int .i64 0] 86)) := heap_alloc_new _ _
  go_enter Tryz.func43, Tryz.ntmps43
  go_wp2_with fail
  refine (CE.out _ A0.out).mono ?_
  rintro e9 v1 ⟨rfl, b1⟩
  have A1 : Hid (Ab w (v1.alloc (.cells #[.int .i64 (L : Nat), .int .i64 (S : Nat), .int .i64 (R : Nat), .int .i64 (Q : Nat)] 73))) := (A0.out.call b1).alloc _
  have R1 : Hid ((v1.alloc (.cells #[.int .i64 (L : Nat), .int .i64 (S : Nat), .int .i64 (R : Nat), .int .i64 (Q : Nat)] 73)).heap[w.heap.size]? = some (.cells #[.int .i64 0, .int .i64 0, .int .i64 0] 86)) := Ab.heap (bl1 _ _) (Ab.heap b1 R0.out)
  have ER1 : Hid ((v1.alloc (.cells #[.int .i64 (L : Nat), .int .i64 (S : Nat), .int .i64 (R : Nat), .int .i64 (Q : Nat)] 73)).heap[v1.heap.size]? = some (.cells #[.int .i64 (L : Nat), .int .i64 (S : Nat), .int .i64 (R : Nat), .int .i64 (Q : Nat)] 73)) := heap_alloc_new _ _
  clear b1 A0 R0
  go_wp2_with fail
  refine (CB.out _ A1.out).mono ?_
  rintro e9 v2 ⟨rfl, b2⟩
  obtain ⟨ge, hge⟩ : ∃ g, v1.heap.size = g := ⟨_, rfl⟩
  have A2 : Hid (Ab w v2) := A1.out.call b2
  have R2 : Hid (v2.heap[w.heap.size]? = some (.cells #[.int .i64 0, .int .i64 0, .int .i64 0] 86)) := Ab.heap b2 R1.out
  have ER2 : Hid (v2.heap[ge]? = some (.cells #[.int .i64 (L : Nat), .int .i64 (S : Nat), .int .i64 (R : Nat), .int .i64 (Q : Nat)] 73)) := by rw [← hge]; exact Ab.heap b2 ER1.out
  clear b2 A1 R1 ER1
  rw [hge]
  clear hge
  obtain ⟨⟨o0, o1, o2⟩, o3, o4, o5⟩ := rowfacts R2.out
  have e0 := cell_of_row _ _ 0 _ _ _ ER2.out
  have e2 := cell_of_row _ _ 2 _ _ _ ER2.out
  go_wp2
  refine bodyPost_ret ?_ rfl ⟨rfl, ?_⟩
  · exact res_two Tryz.results43 _ _ w.heap.size _ _ (0, 0) _ _ rfl rfl (row3 R2.out) Tryz.underlying86 rfl (by kernel_rfl)
  · exact ((A2.out.setk (Nat.le_refl _) _).setk (Nat.le_refl _) _).setk (Nat.le_refl _) _
set_option maxRecDepth 100000 in
set_option maxHeartbeats 8000000 in
theorem fwd12_at (gp : Value) (bb bo wb wo M cb cw : Nat) (pt ps : Option Addr) (lt ct ls cs : Nat) (sky st : Int) (k : Int) (U D K : Nat) (h hk hd x y s f vv : Nat) (w : World)
    (DU : Hid (∀ v, Ab w v → Calls Tryz.prog 80 #[gp, .agg #[.slice (some ⟨bb, bo, none⟩) M cb, .slice (some ⟨wb, wo, none⟩) M cw, .slice pt lt ct, .slice ps ls cs, .int .i64 sky, .int .i64 st], .int .i64 (U : Nat)] v fun e w' => e = .returned (.float .f64 h) ∧ Below v.heap.size v w'))
    (DK : Hid (∀ v, Ab w v → Calls Tryz.prog 80 #[gp, .agg #[.slice (some ⟨bb, bo, none⟩) M cb, .slice (some ⟨wb, wo, none⟩) M cw, .slice pt lt ct, .slice ps ls cs, .int .i64 sky, .int .i64 st], .int .i64 (K : Nat)] v fun e w' => e = .returned (.float .f64 hk) ∧ Below v.heap.size v w'))
    (DD : Hid (∀ v, Ab w v → Calls Tryz.prog 80 #[gp, .agg #[.slice (some ⟨bb, bo, none⟩) M cb, .slice (some ⟨wb, wo, none⟩) M cw, .slice pt lt ct, .slice ps ls cs, .int .i64 sky, .int .i64 st], .int .i64 (D : Nat)] v fun e w' => e = .returned (.float .f64 hd) ∧ Below v.heap.size v w'))
    (CS : Hid (∀ v : World, Calls Tryz.prog 81 #[.int .i64 k, .float .f64 x, .float .f64 y] v fun e w' => e = .returned (.float .f64 s) ∧ Below v.heap.size v w'))
    (hx : ∀ (t : TypeId) (w : World), (binOp .sub t (.float .f64 h) (.float .f64 hk)).run Tryz.prog w = .ok (.float .f64 x) w)
    (hy : ∀ (t : TypeId) (w : World), (binOp .sub t (.float .f64 hd) (.float .f64 h)).run Tryz.prog w = .ok (.float .f64 y) w)
    (hm : ∀ (t : TypeId) (w : World), (binOp .mul t (.float .f64 4602678819172646912) (.float .f64 s)).run Tryz.prog w = .ok (.float .f64 f) w)
    (hv : ∀ (t : TypeId) (w : World), (binOp .add t (.float .f64 h) (.float .f64 f)).run Tryz.prog w = .ok (.float .f64 vv) w) :
    Calls Tryz.prog 45 #[.agg #[.int .i64 (U : Nat), .int .i64 (D : Nat), .int .i64 (K : Nat)], gp, .int .i64 k, .agg #[.slice (some ⟨bb, bo, none⟩) M cb, .slice (some ⟨wb, wo, none⟩) M cw, .slice pt lt ct, .slice ps ls cs, .int .i64 sky, .int .i64 st]] w fun e w' => e = .returned (.float .f64 vv) ∧ Below w.heap.size w w' := by
  have A0 : Hid (Ab w ((w.alloc (.cells #[.int .i64 (U : Nat), .int .i64 (D : Nat), .int .i64 (K : Nat)] 86)).alloc (.cells #[.slice (some ⟨bb, bo, none⟩) M cb, .slice (some ⟨wb, wo, none⟩) M cw, .slice pt lt ct, .slice ps ls cs, .int .i64 sky, .int .i64 st] 35))) := bl2 _ _ _
  have RW0 : Hid (((w.alloc (.cells #[.int .i64 (U : Nat), .int .i64 (D : Nat), .int .i64 (K : Nat)] 86)).alloc (.cells #[.slice (some ⟨bb, bo, none⟩) M cb, .slice (some ⟨wb, wo, none⟩) M cw, .slice pt lt ct, .slice ps ls cs, .int .i64 sky, .int .i64 st] 35)).heap[w.heap.size]? = some (.cells #[.int .i64 (U : Nat), .int .i64 (D : Nat), .int .i64 (K : Nat)] 86)) := heap_alloc2_old _ _ _
  have RS0 : Hid (((w.alloc (.cells #[.int .i64 (U : Nat), .int .i64 (D : Nat), .int .i64 (K : Nat)] 86)).alloc (.cells #[.slice (some ⟨bb, bo, none⟩) M cb, .slice (some ⟨wb, wo, none⟩) M cw, .slice pt lt ct, .slice ps ls cs, .int .i64 sky, .int .i64 st] 35)).heap[w.heap.size + 1]? = some (.cells #[.slice (some ⟨bb, bo, none⟩) M cb, .slice (some ⟨wb, wo, none⟩) M cw, .slice pt lt ct, .slice ps ls cs, .int .i64 sky, .int .i64 st] 35)) := heap_alloc2_new _ _ _
  go_enter Tryz.func45, Tryz.ntmps45
  have AV : Hid (Ab ((w.alloc (.cells #[.int .i64 (U : Nat), .int .i64 (D : Nat), .int .i64 (K : Nat)] 86)).alloc (.cells #[.slice (some ⟨bb, bo, none⟩) M cb, .slice (some ⟨wb, wo, none⟩) M cw, .slice pt lt ct, .slice ps ls cs, .int .i64 sky, .int .i64 st] 35)) ((w.alloc (.cells #[.int .i64 (U : Nat), .int .i64 (D : Nat), .int .i64 (K : Nat)] 86)).alloc (.cells #[.slice (some ⟨bb, bo, none⟩) M cb, .slice (some ⟨wb, wo, none⟩) M cw, .slice pt lt ct, .slice ps ls cs, .int .i64 sky, .int .i64 st] 35))) := Ab.refl _
  have s0 := cell_of_row _ _ 0 _ _ _ (AV.out.heap RS0.out)
  have s1 := cell_of_row _ _ 1 _ _ _ (AV.out.heap RS0.out)
  have s2 := cell_of_row _ _ 2 _ _ _ (AV.out.heap RS0.out)
  have s3 := cell_of_row _ _ 3 _ _ _ (AV.out.heap RS0.out)
  have s4 := cell_of_row _ _ 4 _ _ _ (AV.out.heap RS0.out)
  have s5 := cell_of_row _ _ 5 _ _ _ (AV.out.heap RS0.out)
  have y0 := cell_of_row _ _ 0 _ _ _ (AV.out.heap RW0.out)
  have y1 := cell_of_row _ _ 1 _ _ _ (AV.out.heap RW0.out)
  have y2 := cell_of_row _ _ 2 _ _ _ (AV.out.heap RW0.out)
  go_wp2_with fail
  generalize hW : World.alloc (World.alloc w _) _ = W at *
  obtain ⟨g0, hg0⟩ : ∃ g, w.heap.size = g := ⟨_, rfl⟩
  obtain ⟨g1, hg1⟩ : ∃ g, w.heap.size + 1 = g := ⟨_, rfl⟩
  rw [hg0] at RW0
  rw [hg1] at RS0
  clear s0 s1 s2 s3 s4 s5 y0 y1 y2
  clear hW
  refine (DU.out _ (A0.out.trans AV.out)).mono ?_
  rintro e9 v1 ⟨rfl, b1⟩
  have AV2 : Hid (Ab W v1) := AV.out.call b1
  clear b1 AV
  have AV := AV2
  clear AV2
  rw [hg1, hg0]
  clear hg0 hg1
  have s0 := cell_of_row _ _ 0 _ _ _ (AV.out.heap RS0.out)
  have s1 := cell_of_row _ _ 1 _ _ _ (AV.out.heap RS0.out)
  have s2 := cell_of_row _ _ 2 _ _ _ (AV.out.heap RS0.out)
  have s3 := cell_of_row _ _ 3 _ _ _ (AV.out.heap RS0.out)
  have s4 := cell_of_row _ _ 4 _ _ _ (AV.out.heap RS0.out)
  have s5 := cell_of_row _ _ 5 _ _ _ (AV.out.heap RS0.out)
  have y0 := cell_of_row _ _ 0 _ _ _ (AV.out.heap RW0.out)
  have y1 := cell_of_row _ _ 1 _ _ _ (AV.out.heap RW0.out)
  have y2 := cell_of_row _ _ 2 _ _ _ (AV.out.heap RW0.out)
  go_wp2_with fail
  clear s0 s1 s2 s3 s4 s5 y0 y1 y2
  refine (DK.out _ (A0.out.trans AV.out)).mono ?_
  rintro e9 v2 ⟨rfl, b1⟩
  have AV2 : Hid (Ab W v2) := AV.out.call b1
  clear b1 AV
  have AV := AV2
  clear AV2
  have s0 := cell_of_row _ _ 0 _ _ _ (AV.out.heap RS0.out)
  have s1 := cell_of_row _ _ 1 _ _ _ (AV.out.heap RS0.out)
  have s2 := cell_of_row _ _ 2 _ _ _ (AV.out.heap RS0.out)
  have s3 := cell_of_row _ _ 3 _ _ _ (AV.out.heap RS0.out)
  have s4 := cell_of_row _ _ 4 _ _ _ (AV.out.heap RS0.out)
  have s5 := cell_of_row _ _ 5 _ _ _ (AV.out.heap RS0.out)
  have y0 := cell_of_row _ _ 0 _ _ _ (AV.out.heap RW0.out)
  have y1 := cell_of_row _ _ 1 _ _ _ (AV.out.heap RW0.out)
  have y2 := cell_of_row _ _ 2 _ _ _ (AV.out.heap RW0.out)
  go_wp2_with fail
  clear s0 s1 s2 s3 s4 s5 y0 y1 y2
  refine (DD.out _ (A0.out.trans AV.out)).mono ?_
  rintro e9 v3 ⟨rfl, b1⟩
  have AV2 : Hid (Ab W v3) := AV.out.call b1
  clear b1 AV
  have AV := AV2
  clear AV2
  go_wp2_with fail
  refine (CS.out _).mono ?_
  rintro e9 v4 ⟨rfl, b1⟩
  have AV2 : Hid (Ab W v4) := AV.out.call b1
  clear b1
  go_wp2
  go_ret
  exact ⟨rfl, A0.out.trans AV2.out⟩
end Go.Proofs.YtomenbbhdnfciaaGreatDoor
