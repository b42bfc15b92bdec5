/-
  A row of rains in two parts: the walk (layer 18).
-/
import Derived.Test.YthcgbjkbnbeobaaRnC
namespace Go.Proofs.Ythcgbjkbnbeobaa
open Go.RowKit Go.Deep
namespace Rn
open Sh
set_option maxRecDepth 100000 in
set_option maxHeartbeats 16000000 in
theorem rows_bad {pw : Option Addr} {lw cw : Nat} {s : Int} {pr : Option Addr} {lr cr : Nat} {st : Int} (cut : Int) (w : World)
    (LV : Hid (∀ v, Ab w v → Calls Try.prog 9 #[] v fun e w' => e = .returned (.bool true) ∧ Below v.heap.size v w'))
    (FL : Hid (∀ v, Ab w v → Calls Try.prog 12 #[.slice pw lw cw, .int .i64 s, .slice pr lr cr, .int .i64 st] v fun e w' => e = .returned (.tuple #[.slice none 0 0, .int .i64 0, .int .i64 1]) ∧ Below v.heap.size v w')) :
    Calls Try.prog 6 #[.agg #[.slice pw lw cw, .int .i64 s, .slice pr lr cr, .int .i64 st], .int .i64 cut] w fun e w' => e = .returned (.bool true) ∧ Below w.heap.size w w' := by
  have A0 : Hid (Ab w (w.alloc (.cells #[.slice pw lw cw, .int .i64 s, .slice pr lr cr, .int .i64 st] 25))) := bl1 _ _
  have R0 : Hid ((w.alloc (.cells #[.slice pw lw cw, .int .i64 s, .slice pr lr cr, .int .i64 st] 25)).heap[w.heap.size]? = some (.cells #[.slice pw lw cw, .int .i64 s, .slice pr lr cr, .int .i64 st] 25)) := heap_alloc_new _ _
  go_enter Try.func6, Try.ntmps6
  go_upto_region 1 with fail
  generalize hW : World.alloc w _ = W0 at *
  obtain ⟨gw, hgw⟩ : ∃ g, w.heap.size = g := ⟨_, rfl⟩
  rw [hgw] at R0 ⊢
  clear hgw hW
  go_wp2_with fail
  refine (LV.out _ A0.out).mono ?_
  rintro e9 v1 ⟨rfl, b1⟩
  have A1 : Hid (Ab w v1) := A0.out.trans b1
  have R1 := hid (Ab.heap b1 R0.out)
  clear b1 A0 R0
  have x0 := cell_of_row _ _ 0 _ _ _ R1.out
  have x1 := cell_of_row _ _ 1 _ _ _ R1.out
  have x2 := cell_of_row _ _ 2 _ _ _ R1.out
  have x3 := cell_of_row _ _ 3 _ _ _ R1.out
  go_wp2_with fail
  refine (FL.out _ A1.out).mono ?_
  rintro e9 v2 ⟨rfl, b2⟩
  have A2 : Hid (Ab w v2) := A1.out.trans b2
  clear b2
  go_wp2
  go_ret
  exact ⟨rfl, A2.out⟩
set_option maxRecDepth 100000 in
set_option maxHeartbeats 16000000 in
theorem rows_out {pw : Option Addr} {lw cw : Nat} {s : Int} {pr : Option Addr} {lr cr : Nat} {st : Int} (cut : Int) (X : Nat → Int) (y : Int) (w : World) (hq : decide (cut < 0) = true ∨ (decide (cut < 0) = false ∧ decide (((lr : Nat) : Int) < cut) = true))
    (LV : Hid (∀ v, Ab w v → Calls Try.prog 9 #[] v fun e w' => e = .returned (.bool true) ∧ Below v.heap.size v w'))
    (FL : Hid (∀ v, Ab w v → Calls Try.prog 12 #[.slice pw lw cw, .int .i64 s, .slice pr lr cr, .int .i64 st] v fun e w' => ∃ a0 cap, e = .returned (.tuple #[.slice a0 lw cap, .int .i64 y, .int .i64 0]) ∧ Below v.heap.size v w' ∧ IsI w' a0 lw X)) :
    Calls Try.prog 6 #[.agg #[.slice pw lw cw, .int .i64 s, .slice pr lr cr, .int .i64 st], .int .i64 cut] w fun e w' => e = .returned (.bool true) ∧ Below w.heap.size w w' := by
  have A0 : Hid (Ab w (w.alloc (.cells #[.slice pw lw cw, .int .i64 s, .slice pr lr cr, .int .i64 st] 25))) := bl1 _ _
  have R0 : Hid ((w.alloc (.cells #[.slice pw lw cw, .int .i64 s, .slice pr lr cr, .int .i64 st] 25)).heap[w.heap.size]? = some (.cells #[.slice pw lw cw, .int .i64 s, .slice pr lr cr, .int .i64 st] 25)) := heap_alloc_new _ _
  go_enter Try.func6, Try.ntmps6
  go_upto_region 1 with fail
  generalize hW : World.alloc w _ = W0 at *
  obtain ⟨gw, hgw⟩ : ∃ g, w.heap.size = g := ⟨_, rfl⟩
  rw [hgw] at R0 ⊢
  clear hgw hW
  go_wp2_with fail
  refine (LV.out _ A0.out).mono ?_
  rintro e9 v1 ⟨rfl, b1⟩
  have A1 : Hid (Ab w v1) := A0.out.trans b1
  have R1 := hid (Ab.heap b1 R0.out)
  clear b1 A0 R0
  have x0 := cell_of_row _ _ 0 _ _ _ R1.out
  have x1 := cell_of_row _ _ 1 _ _ _ R1.out
  have x2 := cell_of_row _ _ 2 _ _ _ R1.out
  have x3 := cell_of_row _ _ 3 _ _ _ R1.out
  go_wp2_with fail
  refine (FL.out _ A1.out).mono ?_
  rintro e9 v2 ⟨a2, c2, rfl, b2, -⟩
  have A2 : Hid (Ab w v2) := A1.out.trans b2
  have R2 := hid (Ab.heap b2 R1.out)
  clear b2 x0 x1 x2 x3 A1 R1
  have x2 := cell_of_row _ _ 2 _ _ _ R2.out
  rcases hq with q1 | ⟨q1, q2⟩
  · go_wp2
    go_ret
    exact ⟨rfl, A2.out⟩
  · go_wp2
    go_ret
    exact ⟨rfl, A2.out⟩
set_option maxRecDepth 100000 in
set_option maxHeartbeats 16000000 in
theorem rows_go {pw : Option Addr} {lw cw : Nat} {s : Int} {rb ro lr cr : Nat} {st : Int} (c : Nat) (X Y : Nat → Int) (y x : Int) (w : World) (hc : c ≤ lr) (hlc : lr ≤ cr) (hcc : c < cr) (hlr : lr ≤ 1024) (hlw : lw ≤ 17592186044416)
    (LV : Hid (∀ v, Ab w v → Calls Try.prog 9 #[] v fun e w' => e = .returned (.bool true) ∧ Below v.heap.size v w'))
    (FL : Hid (∀ v, Ab w v → Calls Try.prog 12 #[.slice pw lw cw, .int .i64 s, .slice (some ⟨rb, ro, none⟩) lr cr, .int .i64 st] v fun e w' => ∃ a0 cap, e = .returned (.tuple #[.slice a0 lw cap, .int .i64 y, .int .i64 0]) ∧ Below v.heap.size v w' ∧ IsI w' a0 lw X))
    (F2 : Hid (∀ v, Ab w v → Calls Try.prog 12 #[.slice pw lw cw, .int .i64 s, .slice (some ⟨rb, ro, none⟩) c cr, .int .i64 st] v fun e w' => ∃ a0 cap, e = .returned (.tuple #[.slice a0 lw cap, .int .i64 x, .int .i64 0]) ∧ Below v.heap.size v w' ∧ IsI w' a0 lw Y))
    (F3 : Hid ((∀ i, i < lw → Y i ≤ 4503599627370496) → x ≤ 4503599627370496 → ∀ v p cp, Ab w v → IsI v p lw Y → Calls Try.prog 12 #[.slice p lw cp, .int .i64 x, .slice (some ⟨rb, ro + c * 4, none⟩) (lr - c) (cr - c), .int .i64 st] v fun e w' => ∃ a0 cap, e = .returned (.tuple #[.slice a0 lw cap, .int .i64 y, .int .i64 0]) ∧ Below v.heap.size v w' ∧ IsI w' a0 lw X)) :
    Calls Try.prog 6 #[.agg #[.slice pw lw cw, .int .i64 s, .slice (some ⟨rb, ro, none⟩) lr cr, .int .i64 st], .int .i64 (c : Nat)] w fun e w' => e = .returned (.bool true) ∧ Below w.heap.size w w' := by
  have HLW := hid hlw
  have HC := hid (And.intro hc hlr)
  have k1 : decide ((c : Int) < 0) = false := decide_eq_false (by omega)
  have k2 : decide ((lr : Int) < (c : Int)) = false := decide_eq_false (by omega)
  have k3 : (0 : Int) ≤ (c : Int) := by omega
  have k4 : (c : Int) ≤ (lr : Int) := by omega
  have k5 : (c : Int) ≤ (cr : Int) := by omega
  have k6 : (lr : Int) ≤ (cr : Int) := by omega
  have k7 : (lr : Int) ≤ 1024 := by omega
  have hne : ¬ cr = c := by omega
  have A0 : Hid (Ab w (w.alloc (.cells #[.slice pw lw cw, .int .i64 s, .slice (some ⟨rb, ro, none⟩) lr cr, .int .i64 st] 25))) := bl1 _ _
  have R0 : Hid ((w.alloc (.cells #[.slice pw lw cw, .int .i64 s, .slice (some ⟨rb, ro, none⟩) lr cr, .int .i64 st] 25)).heap[w.heap.size]? = some (.cells #[.slice pw lw cw, .int .i64 s, .slice (some ⟨rb, ro, none⟩) lr cr, .int .i64 st] 25)) := heap_alloc_new _ _
  go_enter Try.func6, Try.ntmps6
  go_upto_region 1 with fail
  generalize hW : World.alloc w _ = W0 at *
  obtain ⟨gw, hgw⟩ : ∃ g, w.heap.size = g := ⟨_, rfl⟩
  rw [hgw] at R0 ⊢
  clear hgw hW
  go_wp2_with fail
  refine (LV.out _ A0.out).mono ?_
  rintro e9 v1 ⟨rfl, b1⟩
  have A1 : Hid (Ab w v1) := A0.out.trans b1
  have R1 := hid (Ab.heap b1 R0.out)
  clear b1 A0 R0
  have x0 := cell_of_row _ _ 0 _ _ _ R1.out
  have x1 := cell_of_row _ _ 1 _ _ _ R1.out
  have x2 := cell_of_row _ _ 2 _ _ _ R1.out
  have x3 := cell_of_row _ _ 3 _ _ _ R1.out
  go_wp2_with fail
  refine (FL.out _ A1.out).mono ?_
  rintro e9 v2 ⟨a2, c2, rfl, b2, i2⟩
  have A2 : Hid (Ab w v2) := A1.out.trans b2
  have R2 := hid (Ab.heap b2 R1.out)
  have I2 := hid i2
  clear b2 i2 x0 x1 x2 x3 A1 R1
  have x2 := cell_of_row _ _ 2 _ _ _ R2.out
  go_upto_region 6 with fail
  clear x2
  have KS : Hid (∀ w', Ab v2 w' → Ab v2 w' ∧ w'.cell? ⟨gw, 0, none⟩ = some (.slice pw lw cw) ∧ w'.cell? ⟨gw, 1, none⟩ = some (.int .i64 s) ∧ w'.cell? ⟨gw, 2, none⟩ = some (.slice (some ⟨rb, ro, none⟩) lr cr) ∧ w'.cell? ⟨gw, 3, none⟩ = some (.int .i64 st)) := fun w' q => ⟨q, cell_of_row _ _ 0 _ _ _ (q.heap R2.out), cell_of_row _ _ 1 _ _ _ (q.heap R2.out), cell_of_row _ _ 2 _ _ _ (q.heap R2.out), cell_of_row _ _ 3 _ _ _ (q.heap R2.out)⟩
  have AD0 := Ab.refl v2
  have AD := (Ab.refl v2).drew
  go_region_held3 (fun w' => Ab v2 w' ∧ w'.cell? ⟨gw, 0, none⟩ = some (.slice pw lw cw) ∧ w'.cell? ⟨gw, 1, none⟩ = some (.int .i64 s) ∧ w'.cell? ⟨gw, 2, none⟩ = some (.slice (some ⟨rb, ro, none⟩) lr cr) ∧ w'.cell? ⟨gw, 3, none⟩ = some (.int .i64 st)) ((refine KS.out _ ?_; (with_reducible (repeat (first | assumption | apply Ab.drew | apply Ab.alloc))); done)) (first
    | (go_at_call 12; refine (F2.out _ (A2.out.trans AD)).mono ?_; rintro e9 v3 ⟨a3, c3, rfl, b3, i3⟩; have A3 := Ab.call AD b3; have I3 := hid i3; clear b3 i3))
  have A23 : Hid (Ab v2 v3) := A3
  have I23 := hid (I2.out.below A3)
  have R3 := hid (Ab.heap A3 R2.out)
  clear A3 AD AD0 KS I2 R2
  go_wp2
  go_loopw [10] (fun iv wr => ∃ k : Nat, k ≤ lw ∧ iv = .int .i64 (k : Nat) ∧ (∀ i, i < k → Y i ≤ 4503599627370496) ∧ Ab v3 wr) (fun iv _ => lw - (intOf iv).toNat)
  case atStart => exact ⟨0, by omega, rfl, fun i hi => absurd hi (Nat.not_lt_zero i), Ab.refl v3⟩
  case round =>
    obtain ⟨k, hk, rfl, g1, ar⟩ := hrel
    have AR := hid ar
    have G1 := hid g1
    clear ar g1
    by_cases hkn : k < lw
    · have HK := hid hkn
      have hkI : (k : Int) < lw := by omega
      have hkB : (k : Int) ≤ 17592186044416 := by have := HLW.out; omega
      obtain ⟨b0, o0, rfl⟩ := I3.out.some0 (show 0 < lw by omega)
      obtain ⟨z, hz⟩ : ∃ z, Y k = z := ⟨_, rfl⟩
      have zc : wr.cell? ⟨b0, o0 + k, none⟩ = some (.int .i64 z) := by rw [← hz]; exact (Below.cell AR.out (I3.out.at0 hkn).2.1).trans (I3.out.at0 hkn).2.2
      have ZE := hid hz
      clear hz hkn hk
      by_cases q : 4503599627370496 < z
      · have d1 : decide (4503599627370496 < z) = true := decide_eq_true q
        go_wp2
        go_ret
        exact ⟨rfl, A2.out.trans (A23.out.trans AR.out)⟩
      · have d1 : decide (4503599627370496 < z) = false := decide_eq_false q
        have ZL : Hid (z ≤ 4503599627370496) := by show _ ≤ _; omega
        clear q
        go_wp2
        refine ⟨⟨k + 1, by have := HK.out; omega, by simp, fun i hi => ?_, AR.out⟩, by have := HK.out; simp [intOf]; omega⟩
        by_cases l : i < k
        · exact G1.out i l
        · obtain rfl : i = k := by omega
          rw [ZE.out]; exact ZL.out
    · have e6 : lw = k := by omega
      subst e6
      by_cases q : 4503599627370496 < x
      · have d1 : decide (4503599627370496 < x) = true := decide_eq_true q
        go_wp2
        go_ret
        exact ⟨rfl, A2.out.trans (A23.out.trans AR.out)⟩
      · have d1 : decide (4503599627370496 < x) = false := decide_eq_false q
        have F4 := hid (F3.out G1.out (by omega))
        clear q
        go_upto_region 16 with fail
        have R4 := hid (Ab.heap AR.out R3.out)
        have KS : Hid (∀ w', Ab wr w' → Ab wr w' ∧ w'.cell? ⟨gw, 0, none⟩ = some (.slice pw lw cw) ∧ w'.cell? ⟨gw, 1, none⟩ = some (.int .i64 s) ∧ w'.cell? ⟨gw, 2, none⟩ = some (.slice (some ⟨rb, ro, none⟩) lr cr) ∧ w'.cell? ⟨gw, 3, none⟩ = some (.int .i64 st)) := fun w' q => ⟨q, cell_of_row _ _ 0 _ _ _ (q.heap R4.out), cell_of_row _ _ 1 _ _ _ (q.heap R4.out), cell_of_row _ _ 2 _ _ _ (q.heap R4.out), cell_of_row _ _ 3 _ _ _ (q.heap R4.out)⟩
        have AW : Hid (Ab w wr) := A2.out.trans (A23.out.trans AR.out)
        have AD0 := Ab.refl wr
        have AD := (Ab.refl wr).drew
        go_region_held3 (fun w' => Ab wr w' ∧ w'.cell? ⟨gw, 0, none⟩ = some (.slice pw lw cw) ∧ w'.cell? ⟨gw, 1, none⟩ = some (.int .i64 s) ∧ w'.cell? ⟨gw, 2, none⟩ = some (.slice (some ⟨rb, ro, none⟩) lr cr) ∧ w'.cell? ⟨gw, 3, none⟩ = some (.int .i64 st)) ((refine KS.out _ ?_; (with_reducible (repeat (first | assumption | apply Ab.drew | apply Ab.alloc))); done)) (first
          | (go_at_call 12; refine (F4.out _ _ _ (AW.out.trans AD) (I3.out.below (AR.out.trans AD))).mono ?_; rintro e9 v5 ⟨a5, c5, rfl, b5, i5⟩; have A5 := Ab.call AD b5; have I5 := hid i5; clear b5 i5))
        have A6 : Hid (Ab wr v5) := A5
        have I6 := hid (I23.out.below (AR.out.trans A5))
        clear A5 AD AD0 KS
        go_wp2_with fail
        refine (same18_at a5 a2 lw c5 c2 X v5 (by have := HLW.out; omega) I5.out I6.out).mono ?_
        rintro e9 v7 ⟨rfl, b7⟩
        have A7 : Hid (Ab w v7) := AW.out.trans (A6.out.trans b7)
        clear b7
        go_wp2
        go_ret
        exact ⟨rfl, A7.out⟩
set_option maxRecDepth 100000 in
set_option maxHeartbeats 16000000 in
theorem rows_go_end {pw : Option Addr} {lw cw : Nat} {s : Int} {ad : Addr} {st : Int} (c : Nat) (X Y : Nat → Int) (y x : Int) (w : World) (hlr : c ≤ 1024) (hlw : lw ≤ 17592186044416)
    (LV : Hid (∀ v, Ab w v → Calls Try.prog 9 #[] v fun e w' => e = .returned (.bool true) ∧ Below v.heap.size v w'))
    (FL : Hid (∀ v, Ab w v → Calls Try.prog 12 #[.slice pw lw cw, .int .i64 s, .slice (some ad) c c, .int .i64 st] v fun e w' => ∃ a0 cap, e = .returned (.tuple #[.slice a0 lw cap, .int .i64 y, .int .i64 0]) ∧ Below v.heap.size v w' ∧ IsI w' a0 lw X))
    (F2 : Hid (∀ v, Ab w v → Calls Try.prog 12 #[.slice pw lw cw, .int .i64 s, .slice (some ad) c c, .int .i64 st] v fun e w' => ∃ a0 cap, e = .returned (.tuple #[.slice a0 lw cap, .int .i64 x, .int .i64 0]) ∧ Below v.heap.size v w' ∧ IsI w' a0 lw Y))
    (F3 : Hid ((∀ i, i < lw → Y i ≤ 4503599627370496) → x ≤ 4503599627370496 → ∀ v p cp, Ab w v → IsI v p lw Y → Calls Try.prog 12 #[.slice p lw cp, .int .i64 x, .slice (some ad) 0 0, .int .i64 st] v fun e w' => ∃ a0 cap, e = .returned (.tuple #[.slice a0 lw cap, .int .i64 y, .int .i64 0]) ∧ Below v.heap.size v w' ∧ IsI w' a0 lw X)) :
    Calls Try.prog 6 #[.agg #[.slice pw lw cw, .int .i64 s, .slice (some ad) c c, .int .i64 st], .int .i64 (c : Nat)] w fun e w' => e = .returned (.bool true) ∧ Below w.heap.size w w' := by
  have HLW := hid hlw
  have k1 : decide ((c : Int) < 0) = false := decide_eq_false (by omega)
  have k2 : decide ((c : Int) < (c : Int)) = false := decide_eq_false (by omega)
  have k3 : (0 : Int) ≤ (c : Int) := by omega
  have k7 : (c : Int) ≤ 1024 := by omega
  have A0 : Hid (Ab w (w.alloc (.cells #[.slice pw lw cw, .int .i64 s, .slice (some ad) c c, .int .i64 st] 25))) := bl1 _ _
  have R0 : Hid ((w.alloc (.cells #[.slice pw lw cw, .int .i64 s, .slice (some ad) c c, .int .i64 st] 25)).heap[w.heap.size]? = some (.cells #[.slice pw lw cw, .int .i64 s, .slice (some ad) c c, .int .i64 st] 25)) := heap_alloc_new _ _
  go_enter Try.func6, Try.ntmps6
  go_upto_region 1 with fail
  generalize hW : World.alloc w _ = W0 at *
  obtain ⟨gw, hgw⟩ : ∃ g, w.heap.size = g := ⟨_, rfl⟩
  rw [hgw] at R0 ⊢
  clear hgw hW
  go_wp2_with fail
  refine (LV.out _ A0.out).mono ?_
  rintro e9 v1 ⟨rfl, b1⟩
  have A1 : Hid (Ab w v1) := A0.out.trans b1
  have R1 := hid (Ab.heap b1 R0.out)
  clear b1 A0 R0
  have x0 := cell_of_row _ _ 0 _ _ _ R1.out
  have x1 := cell_of_row _ _ 1 _ _ _ R1.out
  have x2 := cell_of_row _ _ 2 _ _ _ R1.out
  have x3 := cell_of_row _ _ 3 _ _ _ R1.out
  go_wp2_with fail
  refine (FL.out _ A1.out).mono ?_
  rintro e9 v2 ⟨a2, c2, rfl, b2, i2⟩
  have A2 : Hid (Ab w v2) := A1.out.trans b2
  have R2 := hid (Ab.heap b2 R1.out)
  have I2 := hid i2
  clear b2 i2 x0 x1 x2 x3 A1 R1
  have x2 := cell_of_row _ _ 2 _ _ _ R2.out
  go_upto_region 6 with fail
  clear x2
  have KS : Hid (∀ w', Ab v2 w' → Ab v2 w' ∧ w'.cell? ⟨gw, 0, none⟩ = some (.slice pw lw cw) ∧ w'.cell? ⟨gw, 1, none⟩ = some (.int .i64 s) ∧ w'.cell? ⟨gw, 2, none⟩ = some (.slice (some ad) c c) ∧ w'.cell? ⟨gw, 3, none⟩ = some (.int .i64 st)) := fun w' q => ⟨q, cell_of_row _ _ 0 _ _ _ (q.heap R2.out), cell_of_row _ _ 1 _ _ _ (q.heap R2.out), cell_of_row _ _ 2 _ _ _ (q.heap R2.out), cell_of_row _ _ 3 _ _ _ (q.heap R2.out)⟩
  have AD0 := Ab.refl v2
  have AD := (Ab.refl v2).drew
  go_region_held3 (fun w' => Ab v2 w' ∧ w'.cell? ⟨gw, 0, none⟩ = some (.slice pw lw cw) ∧ w'.cell? ⟨gw, 1, none⟩ = some (.int .i64 s) ∧ w'.cell? ⟨gw, 2, none⟩ = some (.slice (some ad) c c) ∧ w'.cell? ⟨gw, 3, none⟩ = some (.int .i64 st)) ((refine KS.out _ ?_; (with_reducible (repeat (first | assumption | apply Ab.drew | apply Ab.alloc))); done)) (first
    | (go_at_call 12; refine (F2.out _ (A2.out.trans AD)).mono ?_; rintro e9 v3 ⟨a3, c3, rfl, b3, i3⟩; have A3 := Ab.call AD b3; have I3 := hid i3; clear b3 i3))
  have A23 : Hid (Ab v2 v3) := A3
  have I23 := hid (I2.out.below A3)
  have R3 := hid (Ab.heap A3 R2.out)
  clear A3 AD AD0 KS I2 R2
  go_wp2
  go_loopw [10] (fun iv wr => ∃ k : Nat, k ≤ lw ∧ iv = .int .i64 (k : Nat) ∧ (∀ i, i < k → Y i ≤ 4503599627370496) ∧ Ab v3 wr) (fun iv _ => lw - (intOf iv).toNat)
  case atStart => exact ⟨0, by omega, rfl, fun i hi => absurd hi (Nat.not_lt_zero i), Ab.refl v3⟩
  case round =>
    obtain ⟨k, hk, rfl, g1, ar⟩ := hrel
    have AR := hid ar
    have G1 := hid g1
    clear ar g1
    by_cases hkn : k < lw
    · have HK := hid hkn
      have hkI : (k : Int) < lw := by omega
      have hkB : (k : Int) ≤ 17592186044416 := by have := HLW.out; omega
      obtain ⟨b0, o0, rfl⟩ := I3.out.some0 (show 0 < lw by omega)
      obtain ⟨z, hz⟩ : ∃ z, Y k = z := ⟨_, rfl⟩
      have zc : wr.cell? ⟨b0, o0 + k, none⟩ = some (.int .i64 z) := by rw [← hz]; exact (Below.cell AR.out (I3.out.at0 hkn).2.1).trans (I3.out.at0 hkn).2.2
      have ZE := hid hz
      clear hz hkn hk
      by_cases q : 4503599627370496 < z
      · have d1 : decide (4503599627370496 < z) = true := decide_eq_true q
        go_wp2
        go_ret
        exact ⟨rfl, A2.out.trans (A23.out.trans AR.out)⟩
      · have d1 : decide (4503599627370496 < z) = false := decide_eq_false q
        have ZL : Hid (z ≤ 4503599627370496) := by show _ ≤ _; omega
        clear q
        go_wp2
        refine ⟨⟨k + 1, by have := HK.out; omega, by simp, fun i hi => ?_, AR.out⟩, by have := HK.out; simp [intOf]; omega⟩
        by_cases l : i < k
        · exact G1.out i l
        · obtain rfl : i = k := by omega
          rw [ZE.out]; exact ZL.out
    · have e6 : lw = k := by omega
      subst e6
      by_cases q : 4503599627370496 < x
      · have d1 : decide (4503599627370496 < x) = true := decide_eq_true q
        go_wp2
        go_ret
        exact ⟨rfl, A2.out.trans (A23.out.trans AR.out)⟩
      · have d1 : decide (4503599627370496 < x) = false := decide_eq_false q
        have F4 := hid (F3.out G1.out (by omega))
        clear q
        go_upto_region 16 with fail
        have R4 := hid (Ab.heap AR.out R3.out)
        have KS : Hid (∀ w', Ab wr w' → Ab wr w' ∧ w'.cell? ⟨gw, 0, none⟩ = some (.slice pw lw cw) ∧ w'.cell? ⟨gw, 1, none⟩ = some (.int .i64 s) ∧ w'.cell? ⟨gw, 2, none⟩ = some (.slice (some ad) c c) ∧ w'.cell? ⟨gw, 3, none⟩ = some (.int .i64 st)) := fun w' q => ⟨q, cell_of_row _ _ 0 _ _ _ (q.heap R4.out), cell_of_row _ _ 1 _ _ _ (q.heap R4.out), cell_of_row _ _ 2 _ _ _ (q.heap R4.out), cell_of_row _ _ 3 _ _ _ (q.heap R4.out)⟩
        have AW : Hid (Ab w wr) := A2.out.trans (A23.out.trans AR.out)
        have AD0 := Ab.refl wr
        have AD := (Ab.refl wr).drew
        go_region_held3 (fun w' => Ab wr w' ∧ w'.cell? ⟨gw, 0, none⟩ = some (.slice pw lw cw) ∧ w'.cell? ⟨gw, 1, none⟩ = some (.int .i64 s) ∧ w'.cell? ⟨gw, 2, none⟩ = some (.slice (some ad) c c) ∧ w'.cell? ⟨gw, 3, none⟩ = some (.int .i64 st)) ((refine KS.out _ ?_; (with_reducible (repeat (first | assumption | apply Ab.drew | apply Ab.alloc))); done)) (first
          | (go_at_call 12; refine (F4.out _ _ _ (AW.out.trans AD) (I3.out.below (AR.out.trans AD))).mono ?_; rintro e9 v5 ⟨a5, c5, rfl, b5, i5⟩; have A5 := Ab.call AD b5; have I5 := hid i5; clear b5 i5))
        have A6 : Hid (Ab wr v5) := A5
        have I6 := hid (I23.out.below (AR.out.trans A5))
        clear A5 AD AD0 KS
        go_wp2_with fail
        refine (same18_at a5 a2 lw c5 c2 X v5 (by have := HLW.out; omega) I5.out I6.out).mono ?_
        rintro e9 v7 ⟨rfl, b7⟩
        have A7 : Hid (Ab w v7) := AW.out.trans (A6.out.trans b7)
        clear b7
        go_wp2
        go_ret
        exact ⟨rfl, A7.out⟩
set_option maxRecDepth 100000 in
set_option maxHeartbeats 16000000 in
theorem rows_go_nil {pw : Option Addr} {lw cw : Nat} {s : Int} {st : Int}  (X Y : Nat → Int) (y x : Int) (w : World)  (hlw : lw ≤ 17592186044416)
    (LV : Hid (∀ v, Ab w v → Calls Try.prog 9 #[] v fun e w' => e = .returned (.bool true) ∧ Below v.heap.size v w'))
    (FL : Hid (∀ v, Ab w v → Calls Try.prog 12 #[.slice pw lw cw, .int .i64 s, .slice none 0 0, .int .i64 st] v fun e w' => ∃ a0 cap, e = .returned (.tuple #[.slice a0 lw cap, .int .i64 y, .int .i64 0]) ∧ Below v.heap.size v w' ∧ IsI w' a0 lw X))
    (F2 : Hid (∀ v, Ab w v → Calls Try.prog 12 #[.slice pw lw cw, .int .i64 s, .slice none 0 0, .int .i64 st] v fun e w' => ∃ a0 cap, e = .returned (.tuple #[.slice a0 lw cap, .int .i64 x, .int .i64 0]) ∧ Below v.heap.size v w' ∧ IsI w' a0 lw Y))
    (F3 : Hid ((∀ i, i < lw → Y i ≤ 4503599627370496) → x ≤ 4503599627370496 → ∀ v p cp, Ab w v → IsI v p lw Y → Calls Try.prog 12 #[.slice p lw cp, .int .i64 x, .slice none 0 0, .int .i64 st] v fun e w' => ∃ a0 cap, e = .returned (.tuple #[.slice a0 lw cap, .int .i64 y, .int .i64 0]) ∧ Below v.heap.size v w' ∧ IsI w' a0 lw X)) :
    Calls Try.prog 6 #[.agg #[.slice pw lw cw, .int .i64 s, .slice none 0 0, .int .i64 st], .int .i64 0] w fun e w' => e = .returned (.bool true) ∧ Below w.heap.size w w' := by
  have HLW := hid hlw
  have A0 : Hid (Ab w (w.alloc (.cells #[.slice pw lw cw, .int .i64 s, .slice none 0 0, .int .i64 st] 25))) := bl1 _ _
  have R0 : Hid ((w.alloc (.cells #[.slice pw lw cw, .int .i64 s, .slice none 0 0, .int .i64 st] 25)).heap[w.heap.size]? = some (.cells #[.slice pw lw cw, .int .i64 s, .slice none 0 0, .int .i64 st] 25)) := heap_alloc_new _ _
  go_enter Try.func6, Try.ntmps6
  go_upto_region 1 with fail
  generalize hW : World.alloc w _ = W0 at *
  obtain ⟨gw, hgw⟩ : ∃ g, w.heap.size = g := ⟨_, rfl⟩
  rw [hgw] at R0 ⊢
  clear hgw hW
  go_wp2_with fail
  refine (LV.out _ A0.out).mono ?_
  rintro e9 v1 ⟨rfl, b1⟩
  have A1 : Hid (Ab w v1) := A0.out.trans b1
  have R1 := hid (Ab.heap b1 R0.out)
  clear b1 A0 R0
  have x0 := cell_of_row _ _ 0 _ _ _ R1.out
  have x1 := cell_of_row _ _ 1 _ _ _ R1.out
  have x2 := cell_of_row _ _ 2 _ _ _ R1.out
  have x3 := cell_of_row _ _ 3 _ _ _ R1.out
  go_wp2_with fail
  refine (FL.out _ A1.out).mono ?_
  rintro e9 v2 ⟨a2, c2, rfl, b2, i2⟩
  have A2 : Hid (Ab w v2) := A1.out.trans b2
  have R2 := hid (Ab.heap b2 R1.out)
  have I2 := hid i2
  clear b2 i2 x0 x1 x2 x3 A1 R1
  have x2 := cell_of_row _ _ 2 _ _ _ R2.out
  go_upto_region 6 with fail
  clear x2
  have KS : Hid (∀ w', Ab v2 w' → Ab v2 w' ∧ w'.cell? ⟨gw, 0, none⟩ = some (.slice pw lw cw) ∧ w'.cell? ⟨gw, 1, none⟩ = some (.int .i64 s) ∧ w'.cell? ⟨gw, 2, none⟩ = some (.slice none 0 0) ∧ w'.cell? ⟨gw, 3, none⟩ = some (.int .i64 st)) := fun w' q => ⟨q, cell_of_row _ _ 0 _ _ _ (q.heap R2.out), cell_of_row _ _ 1 _ _ _ (q.heap R2.out), cell_of_row _ _ 2 _ _ _ (q.heap R2.out), cell_of_row _ _ 3 _ _ _ (q.heap R2.out)⟩
  have AD0 := Ab.refl v2
  have AD := (Ab.refl v2).drew
  go_region_held3 (fun w' => Ab v2 w' ∧ w'.cell? ⟨gw, 0, none⟩ = some (.slice pw lw cw) ∧ w'.cell? ⟨gw, 1, none⟩ = some (.int .i64 s) ∧ w'.cell? ⟨gw, 2, none⟩ = some (.slice none 0 0) ∧ w'.cell? ⟨gw, 3, none⟩ = some (.int .i64 st)) ((refine KS.out _ ?_; (with_reducible (repeat (first | assumption | apply Ab.drew | apply Ab.alloc))); done)) (first
    | (go_at_call 12; refine (F2.out _ (A2.out.trans AD)).mono ?_; rintro e9 v3 ⟨a3, c3, rfl, b3, i3⟩; have A3 := Ab.call AD b3; have I3 := hid i3; clear b3 i3))
  have A23 : Hid (Ab v2 v3) := A3
  have I23 := hid (I2.out.below A3)
  have R3 := hid (Ab.heap A3 R2.out)
  clear A3 AD AD0 KS I2 R2
  go_wp2
  go_loopw [10] (fun iv wr => ∃ k : Nat, k ≤ lw ∧ iv = .int .i64 (k : Nat) ∧ (∀ i, i < k → Y i ≤ 4503599627370496) ∧ Ab v3 wr) (fun iv _ => lw - (intOf iv).toNat)
  case atStart => exact ⟨0, by omega, rfl, fun i hi => absurd hi (Nat.not_lt_zero i), Ab.refl v3⟩
  case round =>
    obtain ⟨k, hk, rfl, g1, ar⟩ := hrel
    have AR := hid ar
    have G1 := hid g1
    clear ar g1
    by_cases hkn : k < lw
    · have HK := hid hkn
      have hkI : (k : Int) < lw := by omega
      have hkB : (k : Int) ≤ 17592186044416 := by have := HLW.out; omega
      obtain ⟨b0, o0, rfl⟩ := I3.out.some0 (show 0 < lw by omega)
      obtain ⟨z, hz⟩ : ∃ z, Y k = z := ⟨_, rfl⟩
      have zc : wr.cell? ⟨b0, o0 + k, none⟩ = some (.int .i64 z) := by rw [← hz]; exact (Below.cell AR.out (I3.out.at0 hkn).2.1).trans (I3.out.at0 hkn).2.2
      have ZE := hid hz
      clear hz hkn hk
      by_cases q : 4503599627370496 < z
      · have d1 : decide (4503599627370496 < z) = true := decide_eq_true q
        go_wp2
        go_ret
        exact ⟨rfl, A2.out.trans (A23.out.trans AR.out)⟩
      · have d1 : decide (4503599627370496 < z) = false := decide_eq_false q
        have ZL : Hid (z ≤ 4503599627370496) := by show _ ≤ _; omega
        clear q
        go_wp2
        refine ⟨⟨k + 1, by have := HK.out; omega, by simp, fun i hi => ?_, AR.out⟩, by have := HK.out; simp [intOf]; omega⟩
        by_cases l : i < k
        · exact G1.out i l
        · obtain rfl : i = k := by omega
          rw [ZE.out]; exact ZL.out
    · have e6 : lw = k := by omega
      subst e6
      by_cases q : 4503599627370496 < x
      · have d1 : decide (4503599627370496 < x) = true := decide_eq_true q
        go_wp2
        go_ret
        exact ⟨rfl, A2.out.trans (A23.out.trans AR.out)⟩
      · have d1 : decide (4503599627370496 < x) = false := decide_eq_false q
        have F4 := hid (F3.out G1.out (by omega))
        clear q
        go_upto_region 16 with fail
        have R4 := hid (Ab.heap AR.out R3.out)
        have KS : Hid (∀ w', Ab wr w' → Ab wr w' ∧ w'.cell? ⟨gw, 0, none⟩ = some (.slice pw lw cw) ∧ w'.cell? ⟨gw, 1, none⟩ = some (.int .i64 s) ∧ w'.cell? ⟨gw, 2, none⟩ = some (.slice none 0 0) ∧ w'.cell? ⟨gw, 3, none⟩ = some (.int .i64 st)) := fun w' q => ⟨q, cell_of_row _ _ 0 _ _ _ (q.heap R4.out), cell_of_row _ _ 1 _ _ _ (q.heap R4.out), cell_of_row _ _ 2 _ _ _ (q.heap R4.out), cell_of_row _ _ 3 _ _ _ (q.heap R4.out)⟩
        have AW : Hid (Ab w wr) := A2.out.trans (A23.out.trans AR.out)
        have AD0 := Ab.refl wr
        have AD := (Ab.refl wr).drew
        go_region_held3 (fun w' => Ab wr w' ∧ w'.cell? ⟨gw, 0, none⟩ = some (.slice pw lw cw) ∧ w'.cell? ⟨gw, 1, none⟩ = some (.int .i64 s) ∧ w'.cell? ⟨gw, 2, none⟩ = some (.slice none 0 0) ∧ w'.cell? ⟨gw, 3, none⟩ = some (.int .i64 st)) ((refine KS.out _ ?_; (with_reducible (repeat (first | assumption | apply Ab.drew | apply Ab.alloc))); done)) (first
          | (go_at_call 12; refine (F4.out _ _ _ (AW.out.trans AD) (I3.out.below (AR.out.trans AD))).mono ?_; rintro e9 v5 ⟨a5, c5, rfl, b5, i5⟩; have A5 := Ab.call AD b5; have I5 := hid i5; clear b5 i5))
        have A6 : Hid (Ab wr v5) := A5
        have I6 := hid (I23.out.below (AR.out.trans A5))
        clear A5 AD AD0 KS
        go_wp2_with fail
        refine (same18_at a5 a2 lw c5 c2 X v5 (by have := HLW.out; omega) I5.out I6.out).mono ?_
        rintro e9 v7 ⟨rfl, b7⟩
        have A7 : Hid (Ab w v7) := AW.out.trans (A6.out.trans b7)
        clear b7
        go_wp2
        go_ret
        exact ⟨rfl, A7.out⟩
theorem IsRn.pre {w : World} {p : Option Addr} {n m : Nat} {R : Nat → Int × Int × Int × Int} (h : IsRn w p n R) (hm : m ≤ n) : IsRn w p m R := fun k hk => h k (by omega)
theorem IsRn.suf {w : World} {b o n c : Nat} {R : Nat → Int × Int × Int × Int} (h : IsRn w (some ⟨b, o, none⟩) n R) : IsRn w (some ⟨b, o + c * 4, none⟩) (n - c) (fun i => R (c + i)) := fun k hk => by
  obtain ⟨h1, h2, c0, c1, c2, c3⟩ := h.at0 (k := c + k) (by omega)
  have e : o + (c + k) * 4 = o + c * 4 + k * 4 := by omega
  rw [e] at c0 c1 c2 c3
  exact ⟨h1, b, o + c * 4, rfl, h2, c0, c1, c2, c3⟩
theorem good18_pre {lw lr c : Nat} {W : Nat → Int} {s st : Int} {R : Nat → Int × Int × Int × Int} (g : good18 lw W s lr R st) (hc : c ≤ lr) : good18 lw W s c R st := by
  obtain ⟨h1, h2, h3, h4, h5⟩ := g
  exact ⟨h1, h2, by omega, h4, fun k hk => h5 k (by omega)⟩
theorem good18_suf {lw lr c : Nat} {W : Nat → Int} {s st : Int} {R : Nat → Int × Int × Int × Int} (g : good18 lw W s lr R st) (hc : c ≤ lr) (hY : ∀ i, i < lw → (rnN st R (W, s) c).1 i ≤ 4503599627370496) (hx : (rnN st R (W, s) c).2 ≤ 4503599627370496) : good18 lw (rnN st R (W, s) c).1 (rnN st R (W, s) c).2 (lr - c) (fun i => R (c + i)) st := by
  have k := good18_ok (good18_pre g hc)
  obtain ⟨h1, h2, h3, h4, h5⟩ := g
  exact ⟨h1, ⟨k.2.1, hx⟩, by omega, fun i hi => ⟨(k.1 i hi).1, hY i hi⟩, fun j hj => h5 _ (by omega)⟩
theorem rn_two {lr c : Nat} {W : Nat → Int} {s st : Int} {R : Nat → Int × Int × Int × Int} (hc : c ≤ lr) : rnN st (fun i => R (c + i)) ((rnN st R (W, s) c).1, (rnN st R (W, s) c).2) (lr - c) = rnN st R (W, s) lr := by
  have e := rnN_add (st := st) (R := R) (X := (W, s)) c (lr - c)
  rw [show c + (lr - c) = lr by omega] at e
  exact e.symm
set_option maxRecDepth 100000 in
set_option maxHeartbeats 4000000 in
theorem rows_at (VC : ValidC) (FC : FallC) {pw : Option Addr} {lw cw : Nat} {s : Int} {pr : Option Addr} {lr cr : Nat} {st : Int} {W : Nat → Int} {R : Nat → Int × Int × Int × Int} (cut : Int) (w : World) (hs : Sh.W64 s) (ht : Sh.W64 st) (hlw : lw ≤ 17592186044416) (hlr : lr ≤ 17592186044416) (hcr : lr ≤ cr) (hnil : pr = none → lr = 0 ∧ cr = 0) (iw : IsI w pw lw W) (ir : IsRn w pr lr R) (hsp : 0 < cr → ∀ b o sp, pr = some ⟨b, o, sp⟩ → sp = none) :
    Calls Try.prog 6 #[.agg #[.slice pw lw cw, .int .i64 s, .slice pr lr cr, .int .i64 st], .int .i64 cut] w fun e w' => e = .returned (.bool true) ∧ Below w.heap.size w w' := by
  have LV : Hid (∀ v, Ab w v → Calls Try.prog 9 #[] v fun e w' => e = .returned (.bool true) ∧ Below v.heap.size v w') := fun v _ => awake18_at VC FC v
  have F := fun v (a : Ab w v) => FC pw lw cw W s pr lr cr R st v hs ht hlw hlr (iw.below a) (ir.below a)
  have FG : ∀ (g : good18 lw W s lr R st), ∀ v, Ab w v → Calls Try.prog 12 #[.slice pw lw cw, .int .i64 s, .slice pr lr cr, .int .i64 st] v fun e w' => ∃ a0 cap, e = .returned (.tuple #[.slice a0 lw cap, .int .i64 (rnN st R (W, s) lr).2, .int .i64 0]) ∧ Below v.heap.size v w' ∧ IsI w' a0 lw (rnN st R (W, s) lr).1 := fun g v a => ((F v a).1 g).mono fun e w' h => by
    obtain ⟨u, rfl, b, o⟩ := h
    obtain ⟨a0, cap, rfl, i⟩ := own_rn g o
    exact ⟨a0, cap, rfl, b, i⟩
  by_cases g : good18 lw W s lr R st
  · have FG2 := FG g
    by_cases q : 0 ≤ cut ∧ cut ≤ lr
    · obtain ⟨c, rfl⟩ : ∃ c : Nat, cut = (c : Nat) := ⟨cut.toNat, by omega⟩
      have hc : c ≤ lr := by omega
      have gp := good18_pre g hc
      have wx : Sh.W64 (rnN st R (W, s) c).2 := by
        have := (good18_ok gp).2
        unfold Sh.W64
        omega
      have F2 : ∀ v, Ab w v → Calls Try.prog 12 #[.slice pw lw cw, .int .i64 s, .slice pr c cr, .int .i64 st] v fun e w' => ∃ a0 cap, e = .returned (.tuple #[.slice a0 lw cap, .int .i64 (rnN st R (W, s) c).2, .int .i64 0]) ∧ Below v.heap.size v w' ∧ IsI w' a0 lw (rnN st R (W, s) c).1 := fun v a => ((FC pw lw cw W s _ c cr R st v hs ht hlw (by omega) (iw.below a) ((ir.below a).pre hc)).1 gp).mono fun e w' h => by
        obtain ⟨u, rfl, b, o⟩ := h
        obtain ⟨a0, cap, rfl, i⟩ := own_rn gp o
        exact ⟨a0, cap, rfl, b, i⟩
      have F3 : ∀ (p2 : Option Addr), (∀ v, Ab w v → IsRn v p2 (lr - c) (fun i => R (c + i))) → (∀ i, i < lw → (rnN st R (W, s) c).1 i ≤ 4503599627370496) → (rnN st R (W, s) c).2 ≤ 4503599627370496 → ∀ v p cp, Ab w v → IsI v p lw (rnN st R (W, s) c).1 → Calls Try.prog 12 #[.slice p lw cp, .int .i64 (rnN st R (W, s) c).2, .slice p2 (lr - c) (cr - c), .int .i64 st] v fun e w' => ∃ a0 cap, e = .returned (.tuple #[.slice a0 lw cap, .int .i64 (rnN st R (W, s) lr).2, .int .i64 0]) ∧ Below v.heap.size v w' ∧ IsI w' a0 lw (rnN st R (W, s) lr).1 := fun p2 i2 hY hx v p cp a i => by
        have g2 := good18_suf g hc hY hx
        have e2 := rn_two (W := W) (s := s) (st := st) (R := R) hc
        refine ((FC p lw cp _ _ p2 (lr - c) (cr - c) _ st v wx ht hlw (by omega) i (i2 v a)).1 g2).mono fun e w' h => ?_
        obtain ⟨u, rfl, b, o⟩ := h
        obtain ⟨a0, cap, rfl, i⟩ := own_rn g2 o
        rw [e2] at i
        rw [e2]
        exact ⟨a0, cap, rfl, b, i⟩
      generalize hX : (rnN st R (W, s) lr).1 = X at F3 FG2
      generalize hy : (rnN st R (W, s) lr).2 = y at F3 FG2
      generalize hY : (rnN st R (W, s) c).1 = Y at F2 F3
      generalize hx : (rnN st R (W, s) c).2 = x at F2 F3
      have ls := g.2.2.1
      clear FG g gp F wx hX hy hY hx iw FC VC
      by_cases cc : c < cr
      · rcases pr with _ | ⟨rb, ro, sp⟩
        · have := (hnil rfl).2
          omega
        · obtain rfl := hsp (by omega) rb ro sp rfl
          exact rows_go c X Y y x w hc hcr cc ls hlw LV FG2 F2 (F3 _ (fun v a => (ir.below a).suf))
      · have e1 : lr = c := by omega
        have e2 : cr = c := by omega
        subst e1 e2
        have F4 := F3 pr (fun v _ => by rw [Nat.sub_self]; exact IsRn.nil _ _ _)
        rw [Nat.sub_self] at F4
        rcases pr with _ | ad
        · have e3 := (hnil rfl).2
          subst e3
          exact rows_go_nil X Y y x w hlw LV FG2 F2 F4
        · exact rows_go_end _ X Y y x w ls hlw LV FG2 F2 F4
    · refine rows_out cut _ _ w ?_ LV FG2
      by_cases q2 : cut < 0
      · exact .inl (decide_eq_true q2)
      · exact .inr ⟨decide_eq_false q2, decide_eq_true (by omega)⟩
  · exact rows_bad cut w LV (fun v a => (F v a).2 g)
end Rn
end Go.Proofs.Ythcgbjkbnbeobaa
