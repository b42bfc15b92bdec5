/-
  One rain alone: the walk (layer 18).
-/
import Derived.Test.YthcgbjkbnbeobaaRnC
namespace Go.Proofs.Ythcgbjkbnbeobaa
open Go.RowKit Go.Deep
namespace Rn
open Sh
set_option maxRecDepth 100000 in
set_option maxHeartbeats 16000000 in
theorem one_bad {pw : Option Addr} {lw cw : Nat} {s : Int} {pr : Option Addr} {lr cr : Nat} {st : Int} {rc ra rf rt : Int} (w : World)
    (LV : Hid (∀ v, Ab w v → Calls Try.prog 9 #[] v fun e w' => e = .returned (.bool true) ∧ Below v.heap.size v w'))
    (FL : Hid (∀ v, Ab w v → Calls Try.prog 12 #[.slice pw lw cw, .int .i64 s, .slice (some ⟨v.heap.size, 0, none⟩) 1 1, .int .i64 st] (v.alloc (.cells #[.int .i64 rc, .int .i64 ra, .int .i64 rf, .int .i64 rt] 29)) fun e w' => e = .returned (.tuple #[.slice none 0 0, .int .i64 0, .int .i64 1]) ∧ Below (v.alloc (.cells #[.int .i64 rc, .int .i64 ra, .int .i64 rf, .int .i64 rt] 29)).heap.size (v.alloc (.cells #[.int .i64 rc, .int .i64 ra, .int .i64 rf, .int .i64 rt] 29)) w'))
    (F2 : Hid (∀ v, Ab w v → Calls Try.prog 12 #[.slice pw lw cw, .int .i64 s, .slice none 0 0, .int .i64 st] v fun e w' => e = .returned (.tuple #[.slice none 0 0, .int .i64 0, .int .i64 1]) ∧ Below v.heap.size v w')) :
    Calls Try.prog 5 #[.agg #[.slice pw lw cw, .int .i64 s, .slice pr lr cr, .int .i64 st], .agg #[.int .i64 rc, .int .i64 ra, .int .i64 rf, .int .i64 rt]] w fun e w' => e = .returned (.bool true) ∧ Below w.heap.size w w' := by
  have A0 : Hid (Ab w ((w.alloc (.cells #[.slice pw lw cw, .int .i64 s, .slice pr lr cr, .int .i64 st] 25)).alloc (.cells #[.int .i64 rc, .int .i64 ra, .int .i64 rf, .int .i64 rt] 29))) := bl2 _ _ _
  have R0 : Hid (((w.alloc (.cells #[.slice pw lw cw, .int .i64 s, .slice pr lr cr, .int .i64 st] 25)).alloc (.cells #[.int .i64 rc, .int .i64 ra, .int .i64 rf, .int .i64 rt] 29)).heap[w.heap.size]? = some (.cells #[.slice pw lw cw, .int .i64 s, .slice pr lr cr, .int .i64 st] 25)) := Ab.heap (bl1 _ _) (heap_alloc_new w (.cells #[.slice pw lw cw, .int .i64 s, .slice pr lr cr, .int .i64 st] 25))
  have Q0 : Hid (((w.alloc (.cells #[.slice pw lw cw, .int .i64 s, .slice pr lr cr, .int .i64 st] 25)).alloc (.cells #[.int .i64 rc, .int .i64 ra, .int .i64 rf, .int .i64 rt] 29)).heap[w.heap.size + 1]? = some (.cells #[.int .i64 rc, .int .i64 ra, .int .i64 rf, .int .i64 rt] 29)) := by
    have h := heap_alloc_new (w.alloc (.cells #[.slice pw lw cw, .int .i64 s, .slice pr lr cr, .int .i64 st] 25)) (.cells #[.int .i64 rc, .int .i64 ra, .int .i64 rf, .int .i64 rt] 29)
    rw [size1] at h
    exact h
  go_enter Try.func5, Try.ntmps5
  go_upto_region 1 with fail
  generalize hW : World.alloc (World.alloc w _) _ = W0 at *
  obtain ⟨gw, hgw⟩ : ∃ g, w.heap.size = g := ⟨_, rfl⟩
  obtain ⟨gr, hgr⟩ : ∃ g, w.heap.size + 1 = g := ⟨_, rfl⟩
  rw [hgr] at Q0
  rw [hgw] at R0
  rw [hgr, hgw]
  clear hgw hgr hW
  go_wp2_with fail
  refine (LV.out _ A0.out).mono ?_
  rintro e9 v1 ⟨rfl, b1⟩
  have A1 : Hid (Ab w v1) := A0.out.trans b1
  have R1 := hid (Ab.heap b1 R0.out)
  have Q1 := hid (Ab.heap b1 Q0.out)
  clear b1 A0 R0 Q0
  have x0 := cell_of_row _ _ 0 _ _ _ R1.out
  have x1 := cell_of_row _ _ 1 _ _ _ R1.out
  have x2 := cell_of_row _ _ 2 _ _ _ R1.out
  have x3 := cell_of_row _ _ 3 _ _ _ R1.out
  have y0 := cell_of_row _ _ 0 _ _ _ Q1.out
  have y1 := cell_of_row _ _ 1 _ _ _ Q1.out
  have y2 := cell_of_row _ _ 2 _ _ _ Q1.out
  have y3 := cell_of_row _ _ 3 _ _ _ Q1.out
  have AB : Hid (Ab v1 (v1.alloc (.cells #[.int .i64 rc, .int .i64 ra, .int .i64 rf, .int .i64 rt] 29))) := bl1 _ _
  have z3 := cell_of_row _ _ 3 _ _ _ (Ab.heap AB.out R1.out)
  have C1 := hid (FL.out _ A1.out)
  go_wp2_with fail
  refine C1.out.mono ?_
  rintro e9 v2 ⟨rfl, b2⟩
  have A12 : Hid (Ab v1 v2) := AB.out.trans b2
  have A2 : Hid (Ab w v2) := A1.out.trans A12.out
  have R2 := hid (Ab.heap A12.out R1.out)
  have Q2 := hid (Ab.heap A12.out Q1.out)
  clear b2 C1 AB A12 z3 x0 x1 x2 x3 y0 y1 y2 y3 A1 R1 Q1
  have x0 := cell_of_row _ _ 0 _ _ _ R2.out
  have x1 := cell_of_row _ _ 1 _ _ _ R2.out
  have x2 := cell_of_row _ _ 2 _ _ _ R2.out
  have x3 := cell_of_row _ _ 3 _ _ _ R2.out
  have y0 := cell_of_row _ _ 0 _ _ _ Q2.out
  have y1 := cell_of_row _ _ 1 _ _ _ Q2.out
  have y2 := cell_of_row _ _ 2 _ _ _ Q2.out
  have y3 := cell_of_row _ _ 3 _ _ _ Q2.out
  go_wp2_with fail
  refine (F2.out _ A2.out).mono ?_
  rintro e9 v3 ⟨rfl, b3⟩
  have A3 : Hid (Ab w v3) := A2.out.trans b3
  clear b3
  go_wp2
  go_ret
  exact ⟨rfl, A3.out⟩
set_option maxRecDepth 100000 in
set_option maxHeartbeats 16000000 in
theorem one_not {pw : Option Addr} {lw cw : Nat} {s : Int} {pr : Option Addr} {lr cr : Nat} {st : Int} {rc ra rf rt : Int} (w : World)
    (LV : Hid (∀ v, Ab w v → Calls Try.prog 9 #[] v fun e w' => e = .returned (.bool true) ∧ Below v.heap.size v w'))
    (FL : Hid (∀ v, Ab w v → Calls Try.prog 12 #[.slice pw lw cw, .int .i64 s, .slice (some ⟨v.heap.size, 0, none⟩) 1 1, .int .i64 st] (v.alloc (.cells #[.int .i64 rc, .int .i64 ra, .int .i64 rf, .int .i64 rt] 29)) fun e w' => e = .returned (.tuple #[.slice none 0 0, .int .i64 0, .int .i64 1]) ∧ Below (v.alloc (.cells #[.int .i64 rc, .int .i64 ra, .int .i64 rf, .int .i64 rt] 29)).heap.size (v.alloc (.cells #[.int .i64 rc, .int .i64 ra, .int .i64 rf, .int .i64 rt] 29)) w'))
    (F2 : Hid (∀ v, Ab w v → Calls Try.prog 12 #[.slice pw lw cw, .int .i64 s, .slice none 0 0, .int .i64 st] v fun e w' => ∃ a0 cap y, e = .returned (.tuple #[.slice a0 lw cap, .int .i64 y, .int .i64 0]) ∧ Below v.heap.size v w'))
    (VL : Hid (∀ v, Calls Try.prog 10 #[.int .i64 (lw : Nat), .agg #[.int .i64 rc, .int .i64 ra, .int .i64 rf, .int .i64 rt]] v fun e w' => e = .returned (.bool false) ∧ Below v.heap.size v w')) :
    Calls Try.prog 5 #[.agg #[.slice pw lw cw, .int .i64 s, .slice pr lr cr, .int .i64 st], .agg #[.int .i64 rc, .int .i64 ra, .int .i64 rf, .int .i64 rt]] w fun e w' => e = .returned (.bool true) ∧ Below w.heap.size w w' := by
  have A0 : Hid (Ab w ((w.alloc (.cells #[.slice pw lw cw, .int .i64 s, .slice pr lr cr, .int .i64 st] 25)).alloc (.cells #[.int .i64 rc, .int .i64 ra, .int .i64 rf, .int .i64 rt] 29))) := bl2 _ _ _
  have R0 : Hid (((w.alloc (.cells #[.slice pw lw cw, .int .i64 s, .slice pr lr cr, .int .i64 st] 25)).alloc (.cells #[.int .i64 rc, .int .i64 ra, .int .i64 rf, .int .i64 rt] 29)).heap[w.heap.size]? = some (.cells #[.slice pw lw cw, .int .i64 s, .slice pr lr cr, .int .i64 st] 25)) := Ab.heap (bl1 _ _) (heap_alloc_new w (.cells #[.slice pw lw cw, .int .i64 s, .slice pr lr cr, .int .i64 st] 25))
  have Q0 : Hid (((w.alloc (.cells #[.slice pw lw cw, .int .i64 s, .slice pr lr cr, .int .i64 st] 25)).alloc (.cells #[.int .i64 rc, .int .i64 ra, .int .i64 rf, .int .i64 rt] 29)).heap[w.heap.size + 1]? = some (.cells #[.int .i64 rc, .int .i64 ra, .int .i64 rf, .int .i64 rt] 29)) := by
    have h := heap_alloc_new (w.alloc (.cells #[.slice pw lw cw, .int .i64 s, .slice pr lr cr, .int .i64 st] 25)) (.cells #[.int .i64 rc, .int .i64 ra, .int .i64 rf, .int .i64 rt] 29)
    rw [size1] at h
    exact h
  go_enter Try.func5, Try.ntmps5
  go_upto_region 1 with fail
  generalize hW : World.alloc (World.alloc w _) _ = W0 at *
  obtain ⟨gw, hgw⟩ : ∃ g, w.heap.size = g := ⟨_, rfl⟩
  obtain ⟨gr, hgr⟩ : ∃ g, w.heap.size + 1 = g := ⟨_, rfl⟩
  rw [hgr] at Q0
  rw [hgw] at R0
  rw [hgr, hgw]
  clear hgw hgr hW
  go_wp2_with fail
  refine (LV.out _ A0.out).mono ?_
  rintro e9 v1 ⟨rfl, b1⟩
  have A1 : Hid (Ab w v1) := A0.out.trans b1
  have R1 := hid (Ab.heap b1 R0.out)
  have Q1 := hid (Ab.heap b1 Q0.out)
  clear b1 A0 R0 Q0
  have x0 := cell_of_row _ _ 0 _ _ _ R1.out
  have x1 := cell_of_row _ _ 1 _ _ _ R1.out
  have x2 := cell_of_row _ _ 2 _ _ _ R1.out
  have x3 := cell_of_row _ _ 3 _ _ _ R1.out
  have y0 := cell_of_row _ _ 0 _ _ _ Q1.out
  have y1 := cell_of_row _ _ 1 _ _ _ Q1.out
  have y2 := cell_of_row _ _ 2 _ _ _ Q1.out
  have y3 := cell_of_row _ _ 3 _ _ _ Q1.out
  have AB : Hid (Ab v1 (v1.alloc (.cells #[.int .i64 rc, .int .i64 ra, .int .i64 rf, .int .i64 rt] 29))) := bl1 _ _
  have z3 := cell_of_row _ _ 3 _ _ _ (Ab.heap AB.out R1.out)
  have C1 := hid (FL.out _ A1.out)
  go_wp2_with fail
  refine C1.out.mono ?_
  rintro e9 v2 ⟨rfl, b2⟩
  have A12 : Hid (Ab v1 v2) := AB.out.trans b2
  have A2 : Hid (Ab w v2) := A1.out.trans A12.out
  have R2 := hid (Ab.heap A12.out R1.out)
  have Q2 := hid (Ab.heap A12.out Q1.out)
  clear b2 C1 AB A12 z3 x0 x1 x2 x3 y0 y1 y2 y3 A1 R1 Q1
  have x0 := cell_of_row _ _ 0 _ _ _ R2.out
  have x1 := cell_of_row _ _ 1 _ _ _ R2.out
  have x2 := cell_of_row _ _ 2 _ _ _ R2.out
  have x3 := cell_of_row _ _ 3 _ _ _ R2.out
  have y0 := cell_of_row _ _ 0 _ _ _ Q2.out
  have y1 := cell_of_row _ _ 1 _ _ _ Q2.out
  have y2 := cell_of_row _ _ 2 _ _ _ Q2.out
  have y3 := cell_of_row _ _ 3 _ _ _ Q2.out
  go_wp2_with fail
  refine (F2.out _ A2.out).mono ?_
  rintro e9 v3 ⟨a3, c3, z3, rfl, b3⟩
  have A3 : Hid (Ab w v3) := A2.out.trans b3
  have R3 := hid (Ab.heap b3 R2.out)
  have Q3 := hid (Ab.heap b3 Q2.out)
  clear b3 x0 x1 x2 x3 y0 y1 y2 y3 R2 Q2
  have x0 := cell_of_row _ _ 0 _ _ _ R3.out
  have x1 := cell_of_row _ _ 1 _ _ _ R3.out
  have x2 := cell_of_row _ _ 2 _ _ _ R3.out
  have x3 := cell_of_row _ _ 3 _ _ _ R3.out
  have y0 := cell_of_row _ _ 0 _ _ _ Q3.out
  have y1 := cell_of_row _ _ 1 _ _ _ Q3.out
  have y2 := cell_of_row _ _ 2 _ _ _ Q3.out
  have y3 := cell_of_row _ _ 3 _ _ _ Q3.out
  go_wp2_with fail
  refine (VL.out _).mono ?_
  rintro e9 v4 ⟨rfl, b4⟩
  have A4 : Hid (Ab w v4) := A3.out.trans b4
  clear b4
  go_wp2
  go_ret
  exact ⟨rfl, A4.out⟩
set_option maxRecDepth 100000 in
set_option maxHeartbeats 16000000 in
theorem one_go {pw : Option Addr} {lw cw : Nat} {s : Int} {pr : Option Addr} {lr cr : Nat} {st : Int} {ra rf rt : Int} {W : Nat → Int} (c : Nat) (X : Nat → Int) (y m : Int) (w : World) (hlw : lw ≤ 17592186044416) (hc : c < lw) (IW : Hid (IsI w pw lw W))
    (hy : -9223372036854775808 ≤ s - y ∧ s - y ≤ 9223372036854775807) (hm : s - y = m) (hX : X c - W c = m) (hr : -4503599627370496 ≤ ra ∧ ra ≤ 4503599627370496) (hWc : 0 ≤ W c ∧ W c ≤ 4503599627370496)
    (EQ : Hid (∀ i, i < lw → i ≠ c → X i = W i))
    (HE : Hid ((decide (st < rf) = true ∧ m = 0) ∨ (decide (st < rf) = false ∧ decide (rt ≤ st) = true ∧ m = 0) ∨ (decide (st < rf) = false ∧ decide (rt ≤ st) = false ∧ decide (0 ≤ ra) = true ∧ ((m = ra ∧ 0 ≤ y) ∨ (m = s ∧ s < ra))) ∨ (decide (st < rf) = false ∧ decide (rt ≤ st) = false ∧ decide (0 ≤ ra) = false ∧ ((m = ra ∧ 0 ≤ X c) ∨ (m = -W c ∧ W c < -ra)))))
    (LV : Hid (∀ v, Ab w v → Calls Try.prog 9 #[] v fun e w' => e = .returned (.bool true) ∧ Below v.heap.size v w'))
    (FL : Hid (∀ v, Ab w v → Calls Try.prog 12 #[.slice pw lw cw, .int .i64 s, .slice (some ⟨v.heap.size, 0, none⟩) 1 1, .int .i64 st] (v.alloc (.cells #[.int .i64 (c : Nat), .int .i64 ra, .int .i64 rf, .int .i64 rt] 29)) fun e w' => ∃ a0 cap, e = .returned (.tuple #[.slice a0 lw cap, .int .i64 y, .int .i64 0]) ∧ Below (v.alloc (.cells #[.int .i64 (c : Nat), .int .i64 ra, .int .i64 rf, .int .i64 rt] 29)).heap.size (v.alloc (.cells #[.int .i64 (c : Nat), .int .i64 ra, .int .i64 rf, .int .i64 rt] 29)) w' ∧ IsI w' a0 lw X))
    (F2 : Hid (∀ v, Ab w v → Calls Try.prog 12 #[.slice pw lw cw, .int .i64 s, .slice none 0 0, .int .i64 st] v fun e w' => ∃ a0 cap y, e = .returned (.tuple #[.slice a0 lw cap, .int .i64 y, .int .i64 0]) ∧ Below v.heap.size v w'))
    (VL : Hid (∀ v, Calls Try.prog 10 #[.int .i64 (lw : Nat), .agg #[.int .i64 (c : Nat), .int .i64 ra, .int .i64 rf, .int .i64 rt]] v fun e w' => e = .returned (.bool true) ∧ Below v.heap.size v w')) :
    Calls Try.prog 5 #[.agg #[.slice pw lw cw, .int .i64 s, .slice pr lr cr, .int .i64 st], .agg #[.int .i64 (c : Nat), .int .i64 ra, .int .i64 rf, .int .i64 rt]] w fun e w' => e = .returned (.bool true) ∧ Below w.heap.size w w' := by
  have HLW := hid hlw
  have HCN := hid hc
  have HX := hid hX
  have HM := hid (And.intro hm hy)
  have HR := hid (And.intro hr hWc)
  clear hX hm hy hr hWc hlw hc
  have A0 : Hid (Ab w ((w.alloc (.cells #[.slice pw lw cw, .int .i64 s, .slice pr lr cr, .int .i64 st] 25)).alloc (.cells #[.int .i64 (c : Nat), .int .i64 ra, .int .i64 rf, .int .i64 rt] 29))) := bl2 _ _ _
  have R0 : Hid (((w.alloc (.cells #[.slice pw lw cw, .int .i64 s, .slice pr lr cr, .int .i64 st] 25)).alloc (.cells #[.int .i64 (c : Nat), .int .i64 ra, .int .i64 rf, .int .i64 rt] 29)).heap[w.heap.size]? = some (.cells #[.slice pw lw cw, .int .i64 s, .slice pr lr cr, .int .i64 st] 25)) := Ab.heap (bl1 _ _) (heap_alloc_new w (.cells #[.slice pw lw cw, .int .i64 s, .slice pr lr cr, .int .i64 st] 25))
  have Q0 : Hid (((w.alloc (.cells #[.slice pw lw cw, .int .i64 s, .slice pr lr cr, .int .i64 st] 25)).alloc (.cells #[.int .i64 (c : Nat), .int .i64 ra, .int .i64 rf, .int .i64 rt] 29)).heap[w.heap.size + 1]? = some (.cells #[.int .i64 (c : Nat), .int .i64 ra, .int .i64 rf, .int .i64 rt] 29)) := by
    have h := heap_alloc_new (w.alloc (.cells #[.slice pw lw cw, .int .i64 s, .slice pr lr cr, .int .i64 st] 25)) (.cells #[.int .i64 (c : Nat), .int .i64 ra, .int .i64 rf, .int .i64 rt] 29)
    rw [size1] at h
    exact h
  go_enter Try.func5, Try.ntmps5
  go_upto_region 1 with fail
  generalize hW : World.alloc (World.alloc w _) _ = W0 at *
  obtain ⟨gw, hgw⟩ : ∃ g, w.heap.size = g := ⟨_, rfl⟩
  obtain ⟨gr, hgr⟩ : ∃ g, w.heap.size + 1 = g := ⟨_, rfl⟩
  rw [hgr] at Q0
  rw [hgw] at R0
  rw [hgr, hgw]
  clear hgw hgr hW
  go_wp2_with fail
  refine (LV.out _ A0.out).mono ?_
  rintro e9 v1 ⟨rfl, b1⟩
  have A1 : Hid (Ab w v1) := A0.out.trans b1
  have R1 := hid (Ab.heap b1 R0.out)
  have Q1 := hid (Ab.heap b1 Q0.out)
  clear b1 A0 R0 Q0
  have x0 := cell_of_row _ _ 0 _ _ _ R1.out
  have x1 := cell_of_row _ _ 1 _ _ _ R1.out
  have x2 := cell_of_row _ _ 2 _ _ _ R1.out
  have x3 := cell_of_row _ _ 3 _ _ _ R1.out
  have y0 := cell_of_row _ _ 0 _ _ _ Q1.out
  have y1 := cell_of_row _ _ 1 _ _ _ Q1.out
  have y2 := cell_of_row _ _ 2 _ _ _ Q1.out
  have y3 := cell_of_row _ _ 3 _ _ _ Q1.out
  have AB : Hid (Ab v1 (v1.alloc (.cells #[.int .i64 (c : Nat), .int .i64 ra, .int .i64 rf, .int .i64 rt] 29))) := bl1 _ _
  have z3 := cell_of_row _ _ 3 _ _ _ (Ab.heap AB.out R1.out)
  have C1 := hid (FL.out _ A1.out)
  go_wp2_with fail
  refine C1.out.mono ?_
  rintro e9 v2 ⟨a2, c2, rfl, b2, i2⟩
  have A12 : Hid (Ab v1 v2) := AB.out.trans b2
  have A2 : Hid (Ab w v2) := A1.out.trans A12.out
  have R2 := hid (Ab.heap A12.out R1.out)
  have Q2 := hid (Ab.heap A12.out Q1.out)
  have I2 := hid i2
  clear b2 i2 C1 AB A12 z3 x0 x1 x2 x3 y0 y1 y2 y3 A1 R1 Q1
  have x0 := cell_of_row _ _ 0 _ _ _ R2.out
  have x1 := cell_of_row _ _ 1 _ _ _ R2.out
  have x2 := cell_of_row _ _ 2 _ _ _ R2.out
  have x3 := cell_of_row _ _ 3 _ _ _ R2.out
  have y0 := cell_of_row _ _ 0 _ _ _ Q2.out
  have y1 := cell_of_row _ _ 1 _ _ _ Q2.out
  have y2 := cell_of_row _ _ 2 _ _ _ Q2.out
  have y3 := cell_of_row _ _ 3 _ _ _ Q2.out
  go_wp2_with fail
  refine (F2.out _ A2.out).mono ?_
  rintro e9 v3 ⟨a3, c3, z3, rfl, b3⟩
  have A3 : Hid (Ab w v3) := A2.out.trans b3
  have R3 := hid (Ab.heap b3 R2.out)
  have Q3 := hid (Ab.heap b3 Q2.out)
  have I3 := hid (I2.out.below b3)
  clear b3 x0 x1 x2 x3 y0 y1 y2 y3 R2 Q2 I2
  have x0 := cell_of_row _ _ 0 _ _ _ R3.out
  have x1 := cell_of_row _ _ 1 _ _ _ R3.out
  have x2 := cell_of_row _ _ 2 _ _ _ R3.out
  have x3 := cell_of_row _ _ 3 _ _ _ R3.out
  have y0 := cell_of_row _ _ 0 _ _ _ Q3.out
  have y1 := cell_of_row _ _ 1 _ _ _ Q3.out
  have y2 := cell_of_row _ _ 2 _ _ _ Q3.out
  have y3 := cell_of_row _ _ 3 _ _ _ Q3.out
  go_wp2_with fail
  refine (VL.out _).mono ?_
  rintro e9 v4 ⟨rfl, b4⟩
  have A4 : Hid (Ab w v4) := A3.out.trans b4
  have R4 := hid (Ab.heap b4 R3.out)
  have Q4 := hid (Ab.heap b4 Q3.out)
  have I4 := hid (I3.out.below b4)
  clear b4 x0 x1 x2 x3 y0 y1 y2 y3 R3 Q3 I3
  obtain ⟨bx, ox, rfl⟩ := I4.out.some0 (show 0 < lw by have := HCN.out; omega)
  obtain ⟨bw, ow, rfl⟩ := IW.out.some0 (show 0 < lw by have := HCN.out; omega)
  obtain ⟨p, hp⟩ : ∃ p, X c = p := ⟨_, rfl⟩
  obtain ⟨q, hq⟩ : ∃ q, W c = q := ⟨_, rfl⟩
  have PC : Hid (∀ v, Ab v4 v → v.cell? ⟨bx, ox + c, none⟩ = some (.int .i64 p)) := fun v a => by rw [← hp]; exact ((I4.out.below a).at0 HCN.out).2.2
  have QC : Hid (∀ v, Ab v4 v → v.cell? ⟨bw, ow + c, none⟩ = some (.int .i64 q)) := fun v a => by rw [← hq]; exact ((IW.out.below (A4.out.trans a)).at0 HCN.out).2.2
  have pq : p - q = m := by rw [← hp, ← hq]; exact HX.out
  have mb := HM.out.2
  rw [HM.out.1] at mb
  have m1 := mb.1
  have m2 := mb.2
  have p1 := (I4.out.at0 HCN.out).1
  rw [hp] at p1
  have hrw := HR.out
  rw [hq] at hrw
  rw [hp, hq] at HE
  have cI : (c : Int) < lw := by have := HCN.out; omega
  have c0 : (0 : Int) ≤ (c : Int) := by omega
  have cB : (c : Int) ≤ 17592186044416 := by have := HLW.out; omega
  clear mb HX hp hq
  have pq1 : -9223372036854775808 ≤ p - q := by omega
  have pq2 : p - q ≤ 9223372036854775807 := by omega
  go_upto_region 9 with fail
  obtain ⟨UU, E, hF1, hF2⟩ := cls v4
  have HU := hid hF2
  have HU1 := hid hF1
  have e1 : ∀ u, (E u).cell? ⟨gr, 0, none⟩ = some (.int .i64 (c : Nat)) := fun u => cell_of_row _ _ 0 _ _ _ ((hF1 u).heap Q4.out)
  have e2 : ∀ u, (E u).cell? ⟨gw, 0, none⟩ = some (.slice (some ⟨bw, ow, none⟩) lw cw) := fun u => cell_of_row _ _ 0 _ _ _ ((hF1 u).heap R4.out)
  have e3 : ∀ u, (E u).cell? ⟨bx, ox + c, none⟩ = some (.int .i64 p) := fun u => PC.out _ (hF1 u)
  have e4 : ∀ u, (E u).cell? ⟨bw, ow + c, none⟩ = some (.int .i64 q) := fun u => QC.out _ (hF1 u)
  have DD0 := HU.out _ (Ab.refl v4).drew
  clear hF1 hF2
  refine region_cls E (by kernel_rfl) (by kernel_rfl) DD0 ?_
  repeat (go_big_quiet_step (with_reducible rfl))
  refine wpQuiet_nil ?_
  intro v5 hwz
  obtain ⟨u0, hu⟩ := hwz
  have A5 : Hid (Ab v4 v5) := by rw [hu]; exact HU1.out u0
  clear hu u0
  clear HU HU1 DD0 e1 e2 e3 e4
  clear E UU
  have A45 : Hid (Ab v4 v5) := A5.out
  go_wp2
  go_loopw [12] (fun iv wr => ∃ k : Nat, k ≤ lw ∧ iv = .int .i64 (k : Nat) ∧ Ab v4 wr) (fun iv _ => lw - (intOf iv).toNat)
  case atStart => exact ⟨0, by omega, rfl, A45.out⟩
  case round =>
    obtain ⟨k, hk, rfl, ar⟩ := hrel
    have AR := hid ar
    clear ar A5 A45
    by_cases hkn : k < lw
    · have HK := hid hkn
      have hkI : (k : Int) < lw := by omega
      have hkB : (k : Int) ≤ 17592186044416 := by have := HLW.out; omega
      obtain ⟨z, hz⟩ : ∃ z, X k = z := ⟨_, rfl⟩
      by_cases ke : k = c
      · have d1 : ((k : Int) != (c : Int)) = false := by simp; omega
        clear hz ke hkn hk
        go_upto_region 13 with fail
        obtain ⟨UU, E, hF1, hF2⟩ := cls wr
        have HU := hid hF2
        have HU1 := hid hF1
        have e1 : ∀ u, (E u).cell? ⟨gr, 0, none⟩ = some (.int .i64 (c : Nat)) := fun u => cell_of_row _ _ 0 _ _ _ ((AR.out.trans (hF1 u)).heap Q4.out)
        have DD0 := HU.out _ (Ab.refl wr).drew
        clear hF1 hF2
        refine region_cls E (by kernel_rfl) (by kernel_rfl) DD0 ?_
        repeat (go_big_quiet_step (with_reducible rfl))
        refine wpQuiet_nil ?_
        intro v6 hwz
        obtain ⟨u0, hu⟩ := hwz
        have A6 : Hid (Ab wr v6) := by rw [hu]; exact HU1.out u0
        clear hu u0
        clear HU HU1 DD0 e1
        clear E UU
        go_wp2
        exact ⟨⟨k + 1, by have := HK.out; omega, by simp, AR.out.trans A6.out⟩, by have := HK.out; simp [intOf]; omega⟩
      · have d1 : ((k : Int) != (c : Int)) = true := by simp; omega
        have zw : W k = z := by rw [← EQ.out k hkn ke]; exact hz
        have ZC : Hid (∀ v, Ab v4 v → v.cell? ⟨bx, ox + k, none⟩ = some (.int .i64 z)) := fun v a => by rw [← hz]; exact ((I4.out.below a).at0 hkn).2.2
        have YC : Hid (∀ v, Ab v4 v → v.cell? ⟨bw, ow + k, none⟩ = some (.int .i64 z)) := fun v a => by rw [← zw]; exact ((IW.out.below (A4.out.trans a)).at0 hkn).2.2
        clear hz zw ke hkn hk
        go_upto_region 13 with fail
        obtain ⟨UU, E, hF1, hF2⟩ := cls wr
        have HU := hid hF2
        have HU1 := hid hF1
        have e1 : ∀ u, (E u).cell? ⟨gr, 0, none⟩ = some (.int .i64 (c : Nat)) := fun u => cell_of_row _ _ 0 _ _ _ ((AR.out.trans (hF1 u)).heap Q4.out)
        have e2 : ∀ u, (E u).cell? ⟨gw, 0, none⟩ = some (.slice (some ⟨bw, ow, none⟩) lw cw) := fun u => cell_of_row _ _ 0 _ _ _ ((AR.out.trans (hF1 u)).heap R4.out)
        have e3 : ∀ u, (E u).cell? ⟨bx, ox + k, none⟩ = some (.int .i64 z) := fun u => ZC.out _ (AR.out.trans (hF1 u))
        have e4 : ∀ u, (E u).cell? ⟨bw, ow + k, none⟩ = some (.int .i64 z) := fun u => YC.out _ (AR.out.trans (hF1 u))
        have DD0 := HU.out _ (Ab.refl wr).drew
        clear hF1 hF2
        refine region_cls E (by kernel_rfl) (by kernel_rfl) DD0 ?_
        repeat (go_big_quiet_step (with_reducible rfl))
        refine wpQuiet_nil ?_
        intro v6 hwz
        obtain ⟨u0, hu⟩ := hwz
        have A6 : Hid (Ab wr v6) := by rw [hu]; exact HU1.out u0
        clear hu u0
        clear HU HU1 DD0 e1 e2 e3 e4
        clear E UU
        go_wp2
        exact ⟨⟨k + 1, by have := HK.out; omega, by simp, AR.out.trans A6.out⟩, by have := HK.out; simp [intOf]; omega⟩
    · have e6 : lw = k := by omega
      subst e6
      have R7 := hid (Ab.heap AR.out R4.out)
      have Q7 := hid (Ab.heap AR.out Q4.out)
      have A7 : Hid (Ab w wr) := A4.out.trans AR.out
      have x0 := cell_of_row _ _ 0 _ _ _ R7.out
      have x1 := cell_of_row _ _ 1 _ _ _ R7.out
      have x2 := cell_of_row _ _ 2 _ _ _ R7.out
      have x3 := cell_of_row _ _ 3 _ _ _ R7.out
      have y0 := cell_of_row _ _ 0 _ _ _ Q7.out
      have y1 := cell_of_row _ _ 1 _ _ _ Q7.out
      have y2 := cell_of_row _ _ 2 _ _ _ Q7.out
      have y3 := cell_of_row _ _ 3 _ _ _ Q7.out
      have k1 := HM.out.2.1
      have k2 := HM.out.2.2
      have k3 : ((s - y) != m) = false := by rw [HM.out.1]; simp
      rcases HE.out with ⟨h1, h2⟩ | ⟨h1, h2, h3⟩ | ⟨h1, h2, h3, h4⟩ | ⟨h1, h2, h3, h4⟩
      · have k4 : (m == 0) = true := by rw [h2]; rfl
        clear h2
        go_wp2
        go_ret
        exact ⟨rfl, A7.out⟩
      · have k4 : (m == 0) = true := by rw [h3]; rfl
        clear h3
        go_wp2
        go_ret
        exact ⟨rfl, A7.out⟩
      · rcases h4 with ⟨g1, g2⟩ | ⟨g1, g2⟩
        · have k4 : (m == ra) = true := by rw [g1]; simp
          have k5 : decide (0 ≤ y) = true := decide_eq_true g2
          clear g1 g2
          go_wp2
          go_ret
          exact ⟨rfl, A7.out⟩
        · have k4 : (m == ra) = false := by rw [g1]; simp; omega
          have k5 : (m == s) = true := by rw [g1]; simp
          have k6 : decide (s < ra) = true := decide_eq_true g2
          clear g1 g2
          go_wp2
          go_ret
          exact ⟨rfl, A7.out⟩
      · have n1 : -9223372036854775808 ≤ -q := by omega
        have n2 : -q ≤ 9223372036854775807 := by omega
        have n3 : -9223372036854775808 ≤ -ra := by omega
        have n4 : -ra ≤ 9223372036854775807 := by omega
        rcases h4 with ⟨g1, g2⟩ | ⟨g1, g2⟩
        · have k4 : (m == ra) = true := by rw [g1]; simp
          have k5 : decide (0 ≤ p) = true := decide_eq_true g2
          clear g1 g2
          go_upto_region 21 with fail
          obtain ⟨UU, E, hF1, hF2⟩ := cls wr
          have HU := hid hF2
          have HU1 := hid hF1
          have e1 : ∀ u, (E u).cell? ⟨gr, 0, none⟩ = some (.int .i64 (c : Nat)) := fun u => cell_of_row _ _ 0 _ _ _ ((hF1 u).heap Q7.out)
          have e5 : ∀ u, (E u).cell? ⟨gr, 1, none⟩ = some (.int .i64 ra) := fun u => cell_of_row _ _ 1 _ _ _ ((hF1 u).heap Q7.out)
          have e2 : ∀ u, (E u).cell? ⟨gw, 0, none⟩ = some (.slice (some ⟨bw, ow, none⟩) lw cw) := fun u => cell_of_row _ _ 0 _ _ _ ((hF1 u).heap R7.out)
          have e3 : ∀ u, (E u).cell? ⟨bx, ox + c, none⟩ = some (.int .i64 p) := fun u => PC.out _ (AR.out.trans (hF1 u))
          have e4 : ∀ u, (E u).cell? ⟨bw, ow + c, none⟩ = some (.int .i64 q) := fun u => QC.out _ (AR.out.trans (hF1 u))
          have DD0 := HU.out _ (Ab.refl wr).drew
          clear hF1 hF2
          refine region_cls E (by kernel_rfl) (by kernel_rfl) DD0 ?_
          repeat (go_big_quiet_step (with_reducible rfl))
          refine wpQuiet_nil ?_
          intro v8 hwz
          obtain ⟨u0, hu⟩ := hwz
          have A8 : Hid (Ab wr v8) := by rw [hu]; exact HU1.out u0
          clear hu u0
          clear HU HU1 DD0 e1 e5 e2 e3 e4
          clear E UU
          go_wp2
          go_ret
          exact ⟨rfl, A7.out.trans A8.out⟩
        · have k4 : (m == ra) = false := by rw [g1]; simp; omega
          have k5 : (m == -q) = true := by rw [g1]; simp
          have k6 : decide (q < -ra) = true := decide_eq_true g2
          clear g1 g2
          go_upto_region 21 with fail
          obtain ⟨UU, E, hF1, hF2⟩ := cls wr
          have HU := hid hF2
          have HU1 := hid hF1
          have e1 : ∀ u, (E u).cell? ⟨gr, 0, none⟩ = some (.int .i64 (c : Nat)) := fun u => cell_of_row _ _ 0 _ _ _ ((hF1 u).heap Q7.out)
          have e5 : ∀ u, (E u).cell? ⟨gr, 1, none⟩ = some (.int .i64 ra) := fun u => cell_of_row _ _ 1 _ _ _ ((hF1 u).heap Q7.out)
          have e2 : ∀ u, (E u).cell? ⟨gw, 0, none⟩ = some (.slice (some ⟨bw, ow, none⟩) lw cw) := fun u => cell_of_row _ _ 0 _ _ _ ((hF1 u).heap R7.out)
          have e3 : ∀ u, (E u).cell? ⟨bx, ox + c, none⟩ = some (.int .i64 p) := fun u => PC.out _ (AR.out.trans (hF1 u))
          have e4 : ∀ u, (E u).cell? ⟨bw, ow + c, none⟩ = some (.int .i64 q) := fun u => QC.out _ (AR.out.trans (hF1 u))
          have DD0 := HU.out _ (Ab.refl wr).drew
          clear hF1 hF2
          refine region_cls E (by kernel_rfl) (by kernel_rfl) DD0 ?_
          repeat (go_big_quiet_step (with_reducible rfl))
          refine wpQuiet_nil ?_
          intro v8 hwz
          obtain ⟨u0, hu⟩ := hwz
          have A8 : Hid (Ab wr v8) := by rw [hu]; exact HU1.out u0
          clear hu u0
          clear HU HU1 DD0 e1 e5 e2 e3 e4
          clear E UU
          go_wp2
          go_ret
          exact ⟨rfl, A7.out.trans A8.out⟩
theorem one_rn (v : World) (r : Int × Int × Int × Int) (h4 : W4 r) : IsRn (v.alloc (.cells #[.int .i64 r.1, .int .i64 r.2.1, .int .i64 r.2.2.1, .int .i64 r.2.2.2] 29)) (some ⟨v.heap.size, 0, none⟩) 1 (fun _ => r) := by
  have h := heap_alloc_new v (.cells #[.int .i64 r.1, .int .i64 r.2.1, .int .i64 r.2.2.1, .int .i64 r.2.2.2] 29)
  intro k hk
  match k, hk with
  | 0, _ => exact ⟨h4, _, 0, rfl, lt_of_block h, cell_of_row _ _ 0 _ _ _ h, cell_of_row _ _ 1 _ _ _ h, cell_of_row _ _ 2 _ _ _ h, cell_of_row _ _ 3 _ _ _ h⟩
/-- what one rain does, by numbers -/
theorem one_facts {lw : Nat} {W : Nat → Int} {s st : Int} {c : Nat} {ra rf rt : Int} (hs : 0 ≤ s) (hW : 0 ≤ W c) :
    ∃ m, s - (rn1 st ((c : Int), ra, rf, rt) (W, s)).2 = m ∧ (rn1 st ((c : Int), ra, rf, rt) (W, s)).1 c - W c = m ∧ (∀ i, i < lw → i ≠ c → (rn1 st ((c : Int), ra, rf, rt) (W, s)).1 i = W i) ∧
    ((decide (st < rf) = true ∧ m = 0) ∨ (decide (st < rf) = false ∧ decide (rt ≤ st) = true ∧ m = 0) ∨ (decide (st < rf) = false ∧ decide (rt ≤ st) = false ∧ decide (0 ≤ ra) = true ∧ ((m = ra ∧ 0 ≤ (rn1 st ((c : Int), ra, rf, rt) (W, s)).2) ∨ (m = s ∧ s < ra))) ∨ (decide (st < rf) = false ∧ decide (rt ≤ st) = false ∧ decide (0 ≤ ra) = false ∧ ((m = ra ∧ 0 ≤ (rn1 st ((c : Int), ra, rf, rt) (W, s)).1 c) ∨ (m = -W c ∧ W c < -ra)))) := by
  by_cases h1 : st < rf
  · have f : fallB st ((c : Int), ra, rf, rt) = false := by
      unfold fallB
      rw [decide_eq_false (show ¬ rf ≤ st by omega)]
      rfl
    rw [rn1_no f]
    exact ⟨0, by simp, by simp, fun _ _ _ => rfl, .inl ⟨decide_eq_true h1, rfl⟩⟩
  · by_cases h2 : rt ≤ st
    · have f : fallB st ((c : Int), ra, rf, rt) = false := by
        unfold fallB
        rw [decide_eq_false (show ¬ st < rt by omega), Bool.and_false]
      rw [rn1_no f]
      exact ⟨0, by simp, by simp, fun _ _ _ => rfl, .inr (.inl ⟨decide_eq_false h1, decide_eq_true h2, rfl⟩)⟩
    · have f : fallB st ((c : Int), ra, rf, rt) = true := by
        unfold fallB
        rw [decide_eq_true (show rf ≤ st by omega), decide_eq_true (show st < rt by omega)]
        rfl
      have e : rn1 st ((c : Int), ra, rf, rt) (W, s) = (fun i => if i = c then W i + dn ra s (W c) else W i, s - dn ra s (W c)) := by
        unfold rn1
        rw [if_pos f]
        simp only [Int.toNat_natCast]
      rw [e]
      have d := dn_in (a := ra) hs hW
      refine ⟨dn ra s (W c), by dsimp only; omega, by dsimp only; rw [if_pos rfl]; omega, fun i _ hi => by dsimp only; rw [if_neg hi], ?_⟩
      dsimp only
      rw [if_pos rfl]
      refine .inr (.inr ?_)
      by_cases h3 : 0 ≤ ra
      · refine .inl ⟨decide_eq_false h1, decide_eq_false h2, decide_eq_true h3, ?_⟩
        rcases one_down (s := s) (x := W c) h3 with k | k
        · exact .inl ⟨k.1, by omega⟩
        · exact .inr k
      · refine .inr ⟨decide_eq_false h1, decide_eq_false h2, decide_eq_false h3, ?_⟩
        rcases one_up (s := s) (x := W c) (show ra < 0 by omega) with k | k
        · exact .inl ⟨k.1, by omega⟩
        · exact .inr k
set_option maxRecDepth 100000 in
set_option maxHeartbeats 4000000 in
theorem one_at (VC : ValidC) (FC : FallC) {pw : Option Addr} {lw cw : Nat} {s : Int} {pr : Option Addr} {lr cr : Nat} {st : Int} {W : Nat → Int} (rc ra rf rt : Int) (w : World) (hs : Sh.W64 s) (ht : Sh.W64 st) (hr : W4 (rc, ra, rf, rt)) (hlw : lw ≤ 17592186044416) (iw : IsI w pw lw W) :
    Calls Try.prog 5 #[.agg #[.slice pw lw cw, .int .i64 s, .slice pr lr cr, .int .i64 st], .agg #[.int .i64 rc, .int .i64 ra, .int .i64 rf, .int .i64 rt]] w fun e w' => e = .returned (.bool true) ∧ Below w.heap.size w w' := by
  have LV : Hid (∀ v, Ab w v → Calls Try.prog 9 #[] v fun e w' => e = .returned (.bool true) ∧ Below v.heap.size v w') := fun v _ => awake18_at VC FC v
  have F1 := fun v (a : Ab w v) => FC pw lw cw W s (some ⟨v.heap.size, 0, none⟩) 1 1 (fun _ => (rc, ra, rf, rt)) st (v.alloc (.cells #[.int .i64 rc, .int .i64 ra, .int .i64 rf, .int .i64 rt] 29)) hs ht hlw (by omega) (iw.below (a.trans (bl1 _ _))) (one_rn v (rc, ra, rf, rt) hr)
  have F2 := fun v (a : Ab w v) => FC pw lw cw W s none 0 0 (fun _ => (rc, ra, rf, rt)) st v hs ht hlw (by omega) (iw.below a) (IsRn.nil _ _ _)
  by_cases g0 : good18 lw W s 0 (fun _ => (rc, ra, rf, rt)) st
  · have F2' : ∀ v, Ab w v → Calls Try.prog 12 #[.slice pw lw cw, .int .i64 s, .slice none 0 0, .int .i64 st] v fun e w' => ∃ a0 cap y, e = .returned (.tuple #[.slice a0 lw cap, .int .i64 y, .int .i64 0]) ∧ Below v.heap.size v w' := fun v a => ((F2 v a).1 g0).mono fun e w' h => by
      obtain ⟨u, rfl, b, o⟩ := h
      obtain ⟨a0, cap, rfl, i⟩ := own_rn g0 o
      exact ⟨a0, cap, _, rfl, b⟩
    have VL := fun v => VC (lw : Nat) (rc, ra, rf, rt) v (by unfold Sh.W64; omega) hr
    by_cases vb : vB (lw : Nat) (rc, ra, rf, rt) = true
    · have ok := vB_iff.1 vb
      rw [vb] at VL
      obtain ⟨c, rfl⟩ : ∃ c : Nat, rc = (c : Nat) := ⟨rc.toNat, by have := ok.1; omega⟩
      have hc : c < lw := by have := ok.2.1; omega
      have g1 : good18 lw W s 1 (fun _ => ((c : Int), ra, rf, rt)) st := ⟨g0.1, g0.2.1, by omega, g0.2.2.2.1, fun _ _ => ok⟩
      have k := good18_ok g1
      obtain ⟨m, f1, f2, f3, f4⟩ := one_facts (lw := lw) (W := W) (s := s) (st := st) (c := c) (ra := ra) (rf := rf) (rt := rt) g0.2.1.1 (g0.2.2.2.1 c hc).1
      refine one_go c (rnN st (fun _ => ((c : Int), ra, rf, rt)) (W, s) 1).1 (rnN st (fun _ => ((c : Int), ra, rf, rt)) (W, s) 1).2 m w hlw hc iw (by have := k.2; have := g0.2.1; omega) f1 f2 ⟨ok.2.2.1, ok.2.2.2.1⟩ (g0.2.2.2.1 c hc) f3 f4 LV (fun v a => ((F1 v a).1 g1).mono fun e w' h => ?_) F2' VL
      obtain ⟨u, rfl, b, o⟩ := h
      obtain ⟨a0, cap, rfl, i⟩ := own_rn g1 o
      exact ⟨a0, cap, rfl, b, i⟩
    · have vf : vB (lw : Nat) (rc, ra, rf, rt) = false := by simpa using vb
      rw [vf] at VL
      exact one_not w LV (fun v a => (F1 v a).2 (fun g => vb (vB_iff.2 (g.2.2.2.2 0 (by omega))))) F2' VL
  · exact one_bad w LV (fun v a => (F1 v a).2 (fun g => g0 ⟨g.1, g.2.1, by omega, g.2.2.2.1, fun k hk => absurd hk (Nat.not_lt_zero k)⟩)) (fun v a => (F2 v a).2 g0)
end Rn
end Go.Proofs.Ythcgbjkbnbeobaa
