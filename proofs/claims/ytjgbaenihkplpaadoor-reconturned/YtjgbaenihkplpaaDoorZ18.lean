/-
  Some of the texts of this proof, one behind the other.
-/
import Derived.Test.YtjgbaenihkplpaaDoorZ16
import Derived.Test.YtjgbaenihkplpaaDoorZ17
import Derived.Test.YtjgbaenihkplpaaDoorZ05
import Derived.Test.YtjgbaenihkplpaaDoorZ10
import Derived.Test.YtjgbaenihkplpaaDoorZ12
import Derived.Deep.QuietTactic
/-
  Turned seas: the walk, of whatever program keeps to the depth over an edge.
-/
namespace Go.Proofs.YtjgbaenihkplpaaDoor
open Go.RowKit Tf Cu Go.Deep
attribute [local go_sem] run_bits run_from raw_feq raw_fne raw_flt raw_fgt run_neg run_store_float
set_option maxRecDepth 100000 in
set_option maxHeartbeats 4000000 in
theorem turned12_no (side lim : Int) (pb pw pt ps : Option Addr) (lb cb lw cw lt ct ls cs : Nat) (sky st : Int) (turn e : Int) (w : World)
    (AWK : Hid (∀ v, Ab w v → Calls Tryd.prog 7 #[] v fun e w' => e = .returned (.bool true) ∧ Below v.heap.size v w'))
    (NT : Hid (∀ v, Ab w v → Calls Tryd.prog 8 #[.agg #[.int .i64 side, .int .i64 lim, .slice pb lb cb, .slice pw lw cw, .slice pt lt ct, .slice ps ls cs, .int .i64 sky, .int .i64 st]] v fun e' w' => ∃ gp, e' = .returned (.tuple #[gp, .bool false]) ∧ Below v.heap.size v w')) :
    Calls Tryd.prog 6 #[.agg #[.int .i64 side, .int .i64 lim, .slice pb lb cb, .slice pw lw cw, .slice pt lt ct, .slice ps ls cs, .int .i64 sky, .int .i64 st], .int .i64 turn, .int .i64 e] w fun e w' => e = .returned (.bool true) ∧ Below w.heap.size w w' := by
  have A0 : Hid (Ab w (w.alloc (.cells #[.int .i64 side, .int .i64 lim, .slice pb lb cb, .slice pw lw cw, .slice pt lt ct, .slice ps ls cs, .int .i64 sky, .int .i64 st] 27))) := bl1 _ _
  have RO0 : Hid ((w.alloc (.cells #[.int .i64 side, .int .i64 lim, .slice pb lb cb, .slice pw lw cw, .slice pt lt ct, .slice ps ls cs, .int .i64 sky, .int .i64 st] 27)).heap[w.heap.size]? = some (.cells #[.int .i64 side, .int .i64 lim, .slice pb lb cb, .slice pw lw cw, .slice pt lt ct, .slice ps ls cs, .int .i64 sky, .int .i64 st] 27)) := heap_alloc_new _ _
  go_enter Tryd.func6, Tryd.ntmps6
  go_wp2_with fail
  refine (AWK.out _ A0.out).mono ?_
  rintro e9 v1 ⟨rfl, k1⟩
  have A1 : Hid (Ab w v1) := A0.out.call k1
  have RO1 : Hid (v1.heap[w.heap.size]? = some (.cells #[.int .i64 side, .int .i64 lim, .slice pb lb cb, .slice pw lw cw, .slice pt lt ct, .slice ps ls cs, .int .i64 sky, .int .i64 st] 27)) := Ab.heap k1 RO0.out
  clear k1 RO0 A0
  have c0 := cell_of_row _ _ 0 _ _ _ (RO1.out)
  have c1 := cell_of_row _ _ 1 _ _ _ (RO1.out)
  have c2 := cell_of_row _ _ 2 _ _ _ (RO1.out)
  have c3 := cell_of_row _ _ 3 _ _ _ (RO1.out)
  have c4 := cell_of_row _ _ 4 _ _ _ (RO1.out)
  have c5 := cell_of_row _ _ 5 _ _ _ (RO1.out)
  have c6 := cell_of_row _ _ 6 _ _ _ (RO1.out)
  have c7 := cell_of_row _ _ 7 _ _ _ (RO1.out)
  go_wp2_with fail
  refine (NT.out _ A1.out).mono ?_
  rintro e9 v2 ⟨gp, rfl, k2⟩
  have A2 : Hid (Ab w v2) := A1.out.call k2
  clear k2
  clear c0 c1 c2 c3 c4 c5 c6 c7
  go_wp2
  go_ret
  exact ⟨rfl, A2.out⟩
set_option maxRecDepth 100000 in
set_option maxHeartbeats 16000000 in
theorem turned12_big (side lim : Int) (bb bo wb wo M : Nat) (pt ps : Option Addr) (cb cw lt ct ls cs : Nat) (sky st : Int) (turn e : Int) (n : Nat) (w : World) (h8 : 8 < (n : Int))
    (AWK : Hid (∀ v, Ab w v → Calls Tryd.prog 7 #[] v fun e w' => e = .returned (.bool true) ∧ Below v.heap.size v w'))
    (NT : Hid (∀ v, Ab w v → Calls Tryd.prog 8 #[.agg #[.int .i64 side, .int .i64 lim, .slice (some ⟨bb, bo, none⟩) M cb, .slice (some ⟨wb, wo, none⟩) M cw, .slice pt lt ct, .slice ps ls cs, .int .i64 sky, .int .i64 st]] v fun e' w' => ∃ gb, e' = .returned (.tuple #[.pointer (some ⟨gb, 0, none⟩), .bool true]) ∧ Below v.heap.size v w' ∧ GridOf n gb w'))
    (CI : Hid (∀ gb v, GridOf n gb v → Calls Tryd.prog 22 #[.pointer (some ⟨gb, 0, none⟩)] v fun e w' => e = .returned (.int .i64 (n : Nat)) ∧ w' = v)) :
    Calls Tryd.prog 6 #[.agg #[.int .i64 side, .int .i64 lim, .slice (some ⟨bb, bo, none⟩) M cb, .slice (some ⟨wb, wo, none⟩) M cw, .slice pt lt ct, .slice ps ls cs, .int .i64 sky, .int .i64 st], .int .i64 turn, .int .i64 e] w fun e w' => e = .returned (.bool true) ∧ Below w.heap.size w w' := by
  have A0 : Hid (Ab w (w.alloc (.cells #[.int .i64 side, .int .i64 lim, .slice (some ⟨bb, bo, none⟩) M cb, .slice (some ⟨wb, wo, none⟩) M cw, .slice pt lt ct, .slice ps ls cs, .int .i64 sky, .int .i64 st] 27))) := bl1 _ _
  have RO0 : Hid ((w.alloc (.cells #[.int .i64 side, .int .i64 lim, .slice (some ⟨bb, bo, none⟩) M cb, .slice (some ⟨wb, wo, none⟩) M cw, .slice pt lt ct, .slice ps ls cs, .int .i64 sky, .int .i64 st] 27)).heap[w.heap.size]? = some (.cells #[.int .i64 side, .int .i64 lim, .slice (some ⟨bb, bo, none⟩) M cb, .slice (some ⟨wb, wo, none⟩) M cw, .slice pt lt ct, .slice ps ls cs, .int .i64 sky, .int .i64 st] 27)) := heap_alloc_new _ _
  go_enter Tryd.func6, Tryd.ntmps6
  go_wp2_with fail
  refine (AWK.out _ A0.out).mono ?_
  rintro e9 v1 ⟨rfl, k1⟩
  have A1 : Hid (Ab w v1) := A0.out.call k1
  have RO1 : Hid (v1.heap[w.heap.size]? = some (.cells #[.int .i64 side, .int .i64 lim, .slice (some ⟨bb, bo, none⟩) M cb, .slice (some ⟨wb, wo, none⟩) M cw, .slice pt lt ct, .slice ps ls cs, .int .i64 sky, .int .i64 st] 27)) := Ab.heap k1 RO0.out
  clear k1 RO0 A0
  have c0 := cell_of_row _ _ 0 _ _ _ (RO1.out)
  have c1 := cell_of_row _ _ 1 _ _ _ (RO1.out)
  have c2 := cell_of_row _ _ 2 _ _ _ (RO1.out)
  have c3 := cell_of_row _ _ 3 _ _ _ (RO1.out)
  have c4 := cell_of_row _ _ 4 _ _ _ (RO1.out)
  have c5 := cell_of_row _ _ 5 _ _ _ (RO1.out)
  have c6 := cell_of_row _ _ 6 _ _ _ (RO1.out)
  have c7 := cell_of_row _ _ 7 _ _ _ (RO1.out)
  go_wp2_with fail
  refine (NT.out _ A1.out).mono ?_
  rintro e9 W ⟨gb, rfl, k2, g2⟩
  have AW : Hid (Ab w W) := A1.out.call k2
  have RO : Hid (W.heap[w.heap.size]? = some (.cells #[.int .i64 side, .int .i64 lim, .slice (some ⟨bb, bo, none⟩) M cb, .slice (some ⟨wb, wo, none⟩) M cw, .slice pt lt ct, .slice ps ls cs, .int .i64 sky, .int .i64 st] 27)) := Ab.heap k2 RO1.out
  have GG := hid g2
  clear k2 g2 RO1 A1
  clear c0 c1 c2 c3 c4 c5 c6 c7
  go_wp2_with fail
  refine (CI.out _ _ GG.out).mono ?_
  rintro e9 vq ⟨rfl, hvq⟩
  have hvq2 := hvq.symm
  subst hvq2
  go_wp2
  go_ret
  exact ⟨rfl, AW.out⟩
set_option maxRecDepth 100000 in
set_option maxHeartbeats 32000000 in
theorem turned12_go (side lim : Int) (bb bo wb wo M : Nat) (pt ps : Option Addr) (cb cw lt ct ls cs : Nat) (sky st : Int) (turn e : Int) (n N E T X Fe Lf S R Q : Nat) (sg : Int) (fs us0 us1 d0 d1 : Nat) (tn tq : Nat → Nat) (B : Nat → Nat) (Wt : Nat → Int) (w : World) (hM : M ≤ 6144) (h8 : ¬ 8 < (n : Int))
    (AWK : Hid (∀ v, Ab w v → Calls Tryd.prog 7 #[] v fun e w' => e = .returned (.bool true) ∧ Below v.heap.size v w'))
    (NT : Hid (∀ v, Ab w v → Calls Tryd.prog 8 #[.agg #[.int .i64 side, .int .i64 lim, .slice (some ⟨bb, bo, none⟩) M cb, .slice (some ⟨wb, wo, none⟩) M cw, .slice pt lt ct, .slice ps ls cs, .int .i64 sky, .int .i64 st]] v fun e' w' => ∃ gb, e' = .returned (.tuple #[.pointer (some ⟨gb, 0, none⟩), .bool true]) ∧ Below v.heap.size v w' ∧ GridOf n gb w'))
    (CC : Hid (∀ gb v, GridOf n gb v → Calls Tryd.prog 21 #[.pointer (some ⟨gb, 0, none⟩)] v fun e w' => e = .returned (.int .i64 (M : Nat)) ∧ w' = v))
    (CI : Hid (∀ gb v, GridOf n gb v → Calls Tryd.prog 22 #[.pointer (some ⟨gb, 0, none⟩)] v fun e w' => e = .returned (.int .i64 (n : Nat)) ∧ w' = v))
    (CE : Hid (∀ gb v, GridOf n gb v → Calls Tryd.prog 10 #[.pointer (some ⟨gb, 0, none⟩)] v fun e w' => e = .returned (.int .i64 (N : Nat)) ∧ Below v.heap.size v w'))
    (CV1 : Hid (∀ v : World, Calls Tryd.prog 9 #[.int .i64 turn, .int .i64 24] v fun e w' => e = .returned (.int .i64 (T : Nat)) ∧ Below v.heap.size v w'))
    (CV2 : Hid (∀ v : World, Calls Tryd.prog 9 #[.int .i64 e, .int .i64 (N : Nat)] v fun e w' => e = .returned (.int .i64 (E : Nat)) ∧ Below v.heap.size v w'))
    (CT : Hid (∀ c, c < M → ∀ v, Ab w v → Calls Tryd.prog 23 #[.int .i64 (n : Nat), .int .i64 (T : Nat), .int .i64 (c : Nat)] v fun e w' => e = .returned (.tuple #[.int .i64 (tn c : Nat), .int .i64 (tq c : Nat)]) ∧ Below v.heap.size v w'))
    (JT : Hid (∀ c, c < M → tn c < M)) (JI : Hid (∀ i j, i < M → j < M → tn i = tn j → i = j))
    (FB : Hid (∀ c, c < M → ∀ v, Ab w v → v.cell? ⟨bb, bo + c, none⟩ = some (.float .f64 (B c)))) (FA : Hid (∀ c, c < M → ∀ v, Ab w v → v.cell? ⟨wb, wo + c, none⟩ = some (.int .i64 (Wt c))))
    (LB : Hid (∀ c, c < M → B c < 18446744073709551616)) (LW : Hid (∀ c, c < M → -9223372036854775808 ≤ Wt c ∧ Wt c ≤ 9223372036854775807))
    (CX : Hid (∀ gb v, GridOf n gb v → Calls Tryd.prog 14 #[.pointer (some ⟨gb, 0, none⟩), .int .i64 (E : Nat)] v fun e w' => e = .returned (.tuple #[.agg #[.int .i64 (Lf : Nat), .int .i64 (S : Nat), .int .i64 (R : Nat), .int .i64 (Q : Nat)], .bool true]) ∧ Below v.heap.size v w'))
    (JL : Hid (Lf < M)) (hS : (S : Int) < 4) (hQ : ((tq Lf : Nat) : Int) < 4) (hX : ((S : Int) + ((tq Lf : Nat) : Int)).tmod 4 = (X : Int))
    (CR : Hid (∀ gb v, GridOf n gb v → Calls Tryd.prog 24 #[.pointer (some ⟨gb, 0, none⟩), .int .i64 (tn Lf : Nat), .int .i64 (X : Nat)] v fun e w' => e = .returned (.tuple #[.int .i64 (Fe : Nat), .int .i64 sg]) ∧ Below v.heap.size v w'))
    (hfs : Hid (floatOfInt .f64 sg = fs)) (hm0 : (∀ (t : TypeId) (w : World), (binOp .mul t (.float .f64 4607182418800017408) (.float .f64 fs)).run Tryd.prog w = .ok (.float .f64 us0) w)) (hm1 : (∀ (t : TypeId) (w : World), (binOp .mul t (.float .f64 13830554455654793216) (.float .f64 fs)).run Tryd.prog w = .ok (.float .f64 us1) w))
    (D0 : Hid (∀ gb v, GridOf n gb v → Ab w v → Calls Tryd.prog 11 #[.pointer (some ⟨gb, 0, none⟩), .int .i64 lim, .agg #[.slice (some ⟨bb, bo, none⟩) M cb, .slice (some ⟨wb, wo, none⟩) M cw, .slice pt lt ct, .slice ps ls cs, .int .i64 sky, .int .i64 st], .int .i64 (E : Nat), .float .f64 4607182418800017408] v fun e w' => e = .returned (.float .f64 d0) ∧ Below v.heap.size v w'))
    (D1 : Hid (∀ gb v, GridOf n gb v → Ab w v → Calls Tryd.prog 11 #[.pointer (some ⟨gb, 0, none⟩), .int .i64 lim, .agg #[.slice (some ⟨bb, bo, none⟩) M cb, .slice (some ⟨wb, wo, none⟩) M cw, .slice pt lt ct, .slice ps ls cs, .int .i64 sky, .int .i64 st], .int .i64 (E : Nat), .float .f64 13830554455654793216] v fun e w' => e = .returned (.float .f64 d1) ∧ Below v.heap.size v w'))
    (D2 : Hid (∀ bB bW fb fw gb v, GridOf n gb v → Ab w v → IsFl v (some ⟨bB, 0, none⟩) M fb → IsIn v (some ⟨bW, 0, none⟩) M fw → (∀ j, j < M → fb (tn j) = B j ∧ fw (tn j) = Wt j) → Calls Tryd.prog 11 #[.pointer (some ⟨gb, 0, none⟩), .int .i64 lim, .agg #[.slice (some ⟨bB, 0, none⟩) M M, .slice (some ⟨bW, 0, none⟩) M M, .slice none 0 0, .slice none 0 0, .int .i64 0, .int .i64 0], .int .i64 (Fe : Nat), .float .f64 us0] v fun e w' => e = .returned (.float .f64 d0) ∧ Below v.heap.size v w'))
    (D3 : Hid (∀ bB bW fb fw gb v, GridOf n gb v → Ab w v → IsFl v (some ⟨bB, 0, none⟩) M fb → IsIn v (some ⟨bW, 0, none⟩) M fw → (∀ j, j < M → fb (tn j) = B j ∧ fw (tn j) = Wt j) → Calls Tryd.prog 11 #[.pointer (some ⟨gb, 0, none⟩), .int .i64 lim, .agg #[.slice (some ⟨bB, 0, none⟩) M M, .slice (some ⟨bW, 0, none⟩) M M, .slice none 0 0, .slice none 0 0, .int .i64 0, .int .i64 0], .int .i64 (Fe : Nat), .float .f64 us1] v fun e w' => e = .returned (.float .f64 d1) ∧ Below v.heap.size v w')) :
    Calls Tryd.prog 6 #[.agg #[.int .i64 side, .int .i64 lim, .slice (some ⟨bb, bo, none⟩) M cb, .slice (some ⟨wb, wo, none⟩) M cw, .slice pt lt ct, .slice ps ls cs, .int .i64 sky, .int .i64 st], .int .i64 turn, .int .i64 e] w fun e w' => e = .returned (.bool true) ∧ Below w.heap.size w w' := by
  have SS : Hid (∀ (x : Nat) (v : World), Calls Tryd.prog 13 #[.float .f64 x, .float .f64 x] v fun e w' => e = .returned (.bool true) ∧ Below v.heap.size v w') := fun x v => by
    have h := rawSame_any x x v
    rw [show sameB x x = true by unfold sameB; exact decide_eq_true rfl] at h
    exact h.mono fun _ _ ⟨he, hw⟩ => ⟨he, by rw [hw]; exact Below.refl _ _⟩
  have HM := hid hM
  have HX := hid hX
  have HS := hid hS
  have HQ := hid hQ
  clear hM hX hS hQ
  have A0 : Hid (Ab w (w.alloc (.cells #[.int .i64 side, .int .i64 lim, .slice (some ⟨bb, bo, none⟩) M cb, .slice (some ⟨wb, wo, none⟩) M cw, .slice pt lt ct, .slice ps ls cs, .int .i64 sky, .int .i64 st] 27))) := bl1 _ _
  have RO0 : Hid ((w.alloc (.cells #[.int .i64 side, .int .i64 lim, .slice (some ⟨bb, bo, none⟩) M cb, .slice (some ⟨wb, wo, none⟩) M cw, .slice pt lt ct, .slice ps ls cs, .int .i64 sky, .int .i64 st] 27)).heap[w.heap.size]? = some (.cells #[.int .i64 side, .int .i64 lim, .slice (some ⟨bb, bo, none⟩) M cb, .slice (some ⟨wb, wo, none⟩) M cw, .slice pt lt ct, .slice ps ls cs, .int .i64 sky, .int .i64 st] 27)) := heap_alloc_new _ _
  go_enter Tryd.func6, Tryd.ntmps6
  go_wp2_with fail
  refine (AWK.out _ A0.out).mono ?_
  rintro e9 v1 ⟨rfl, k1⟩
  have A1 : Hid (Ab w v1) := A0.out.call k1
  have RO1 : Hid (v1.heap[w.heap.size]? = some (.cells #[.int .i64 side, .int .i64 lim, .slice (some ⟨bb, bo, none⟩) M cb, .slice (some ⟨wb, wo, none⟩) M cw, .slice pt lt ct, .slice ps ls cs, .int .i64 sky, .int .i64 st] 27)) := Ab.heap k1 RO0.out
  clear k1 RO0 A0
  have c0 := cell_of_row _ _ 0 _ _ _ (RO1.out)
  have c1 := cell_of_row _ _ 1 _ _ _ (RO1.out)
  have c2 := cell_of_row _ _ 2 _ _ _ (RO1.out)
  have c3 := cell_of_row _ _ 3 _ _ _ (RO1.out)
  have c4 := cell_of_row _ _ 4 _ _ _ (RO1.out)
  have c5 := cell_of_row _ _ 5 _ _ _ (RO1.out)
  have c6 := cell_of_row _ _ 6 _ _ _ (RO1.out)
  have c7 := cell_of_row _ _ 7 _ _ _ (RO1.out)
  go_wp2_with fail
  refine (NT.out _ A1.out).mono ?_
  rintro e9 Wa ⟨gb, rfl, k2, g2⟩
  have AWa : Hid (Ab w Wa) := A1.out.call k2
  have ROa : Hid (Wa.heap[w.heap.size]? = some (.cells #[.int .i64 side, .int .i64 lim, .slice (some ⟨bb, bo, none⟩) M cb, .slice (some ⟨wb, wo, none⟩) M cw, .slice pt lt ct, .slice ps ls cs, .int .i64 sky, .int .i64 st] 27)) := Ab.heap k2 RO1.out
  have GGa := hid g2
  clear k2 g2 RO1 A1
  clear c0 c1 c2 c3 c4 c5 c6 c7
  go_wp2_with fail
  refine (CI.out _ _ GGa.out).mono ?_
  rintro e9 vq ⟨rfl, hvq⟩
  have hvq2 := hvq.symm
  subst hvq2
  go_wp2_with fail
  refine (CV1.out _).mono ?_
  rintro e9 v3 ⟨rfl, k3⟩
  have A3 : Hid (Ab Wa v3) := k3
  clear k3
  go_wp2_with fail
  refine (CE.out _ _ (GGa.out.to A3.out)).mono ?_
  rintro e9 v4 ⟨rfl, k4⟩
  have A4 : Hid (Ab Wa v4) := A3.out.call k4
  clear k4 A3
  go_wp2_with fail
  refine (CV2.out _).mono ?_
  rintro e9 W ⟨rfl, k5⟩
  have A5 : Hid (Ab Wa W) := A4.out.call k5
  have AW : Hid (Ab w W) := AWa.out.trans A5.out
  have RO : Hid (W.heap[w.heap.size]? = some (.cells #[.int .i64 side, .int .i64 lim, .slice (some ⟨bb, bo, none⟩) M cb, .slice (some ⟨wb, wo, none⟩) M cw, .slice pt lt ct, .slice ps ls cs, .int .i64 sky, .int .i64 st] 27)) := A5.out.heap ROa.out
  have GG : Hid (GridOf n gb W) := GGa.out.to A5.out
  clear k5 A4 A5 AWa ROa GGa
  have M1 : ∀ v : World, (Instr.makeSlice 22 (.int .i64 (M : Nat)) (.int .i64 (M : Nat))).run Tryd.prog v = .ok (.slice (some ⟨v.heap.size, 0, none⟩) M M) (v.alloc (Obj.cells (madeCells #[.float .f64 0] M) 28)) := fun v =>
    run_make_row' (P := Tryd.prog) 22 28 (.float .f64 0) 8 Tryd.underlying22 infoF64 rfl .i64 .i64 M (by have := HM.out; omega) (by have := HM.out; omega) v
  have M2 : ∀ v : World, (Instr.makeSlice 23 (.int .i64 (M : Nat)) (.int .i64 (M : Nat))).run Tryd.prog v = .ok (.slice (some ⟨v.heap.size, 0, none⟩) M M) (v.alloc (Obj.cells (madeCells #[.int .i64 0] M) 2)) := fun v =>
    run_make_row' (P := Tryd.prog) 23 2 (.int .i64 0) 8 Tryd.underlying23 info64 rfl .i64 .i64 M (by have := HM.out; omega) (by have := HM.out; omega) v
  have CC0 : Hid (∀ v, Ab W v → Calls Tryd.prog 21 #[.pointer (some ⟨gb, 0, none⟩)] v fun e w' => e = .returned (.int .i64 (M : Nat)) ∧ w' = v) := fun v hv => CC.out gb v (GG.out.to hv)
  go_upto_region 8 with fail
  go_cut [11] from 43 to 49 (fun s11 wx => ∃ g bB bW, s11 = .pointer (some ⟨g, 0, none⟩) ∧ Ab W wx ∧ wx.heap[g]? = some (.cells #[.slice (some ⟨bB, 0, none⟩) M M, .slice (some ⟨bW, 0, none⟩) M M, .slice none 0 0, .slice none 0 0, .int .i64 0, .int .i64 0] 25) ∧ wx.heap[bB]? = some (Obj.cells (madeCells #[.float .f64 0] M) 28) ∧ wx.heap[bW]? = some (Obj.cells (madeCells #[.int .i64 0] M) 2) ∧ Apart3 W g bB bW)
  case first =>
    go_region_with ((go_at_call 21; refine (CC0.out _ (by first | exact Ab.refl W | exact (Ab.refl W).drew | exact ((Ab.refl W).alloc _) | exact ((Ab.refl W).drew.alloc _) | exact ((Ab.refl W).alloc _).drew | exact (((Ab.refl W).alloc _).alloc _) | exact (((Ab.refl W).drew.alloc _).alloc _) | exact (((Ab.refl W).alloc _).alloc _).drew)).mono ?_; rintro e9 vq ⟨rfl, hvq⟩; have hvq2 := hvq.symm; subst hvq2))
    all_goals go_wp2_with fail
    all_goals go_meet
    all_goals refine' ⟨_, _, _, rfl, three_ab (Ab.refl W) _ _ _, (by first | exact (three_of W _ _ _).1 | exact (three_of W _ _ _).2.1 | exact (three_of W _ _ _).2.2), ?_, ?_, ⟨⟨?_, ?_⟩, ?_, ?_, ?_⟩⟩
    all_goals first
      | exact (three_of W _ _ _).1
      | exact (three_of W _ _ _).2.1
      | exact (three_of W _ _ _).2.2
      | omega
  case rest =>
    obtain ⟨g, bB, bW, rfl, a7, r7, rb1, rb2, ap⟩ := hcut
    have OW := hid (OwnSea.made a7 r7 rb1 rb2)
    have AP := hid ap
    clear a7 r7 rb1 rb2 ap M1 M2 CC0
    have IN : Hid (∃ fb fw, OwnSea W g bB bW M #[.slice (some ⟨bB, 0, none⟩) M M, .slice (some ⟨bW, 0, none⟩) M M, .slice none 0 0, .slice none 0 0, .int .i64 0, .int .i64 0] fb fw wc ∧ (∀ i, i < M → fb i < 18446744073709551616 ∧ (-9223372036854775808 ≤ fw i ∧ fw i ≤ 9223372036854775807)) ∧ (∀ j, j < 0 → fb (tn j) = B j ∧ fw (tn j) = Wt j)) := ⟨_, _, OW.out, fun i _ => by decide, fun j hj => by omega⟩
    clear OW
    go_wp2
    go_loopw [12] (fun iv wr => ∃ c : Nat, c ≤ M ∧ iv = .int .i64 (c : Nat) ∧ ∃ fb fw, OwnSea W g bB bW M #[.slice (some ⟨bB, 0, none⟩) M M, .slice (some ⟨bW, 0, none⟩) M M, .slice none 0 0, .slice none 0 0, .int .i64 0, .int .i64 0] fb fw wr ∧ (∀ i, i < M → fb i < 18446744073709551616 ∧ (-9223372036854775808 ≤ fw i ∧ fw i ≤ 9223372036854775807)) ∧ (∀ j, j < c → fb (tn j) = B j ∧ fw (tn j) = Wt j)) (fun iv _ => M - (intOf iv).toNat)
    case atStart => exact ⟨0, by omega, rfl, IN.out⟩
    case round =>
      obtain ⟨c, hc, rfl, fb, fw, ow, bd, ps1⟩ := hrel
      clear IN
      have OW := hid ow
      have BD := hid bd
      have PS := hid ps1
      clear ow bd ps1
      have AR : Hid (Ab W wr) := OW.out.1
      by_cases hcM : c < M
      · have HC := hid hcM
        have hcI : (c : Int) < M := by omega
        have hcB : (c : Int) ≤ 6144 := by have := HM.out; omega
        obtain ⟨y, hy⟩ : ∃ y, tn c = y := ⟨_, rfl⟩
        have HY := hid hy
        have CTc := hid (fun v hv => CT.out c hcM v hv)
        rw [hy] at CTc
        obtain ⟨yq, hyq⟩ : ∃ y, tq c = y := ⟨_, rfl⟩
        rw [hyq] at CTc
        have hyM : ((y : Nat) : Int) < M := by have := JT.out c hcM; rw [hy] at this; omega
        have hyM2 : y < M := by omega
        have hyM3 : ¬ M ≤ y := by omega
        obtain ⟨bc, hbc⟩ : ∃ x, B c = x := ⟨_, rfl⟩
        obtain ⟨wcc, hwc⟩ : ∃ x, Wt c = x := ⟨_, rfl⟩
        have HBC := hid hbc
        have HWC := hid hwc
        clear hy hyq hbc hwc hcM
        go_wp2_with fail
        refine (CC.out _ _ (GG.out.to AR.out)).mono ?_
        rintro e9 vq ⟨rfl, hvq⟩
        have hvq2 := hvq.symm
        subst hvq2
        go_wp2_with fail
        refine (CI.out _ _ (GG.out.to AR.out)).mono ?_
        rintro e9 vq ⟨rfl, hvq⟩
        have hvq2 := hvq.symm
        subst hvq2
        go_wp2_with fail
        refine (CTc.out _ (AW.out.trans AR.out)).mono ?_
        rintro e9 v6 ⟨rfl, k6⟩
        have O6 := hid (OW.out.to k6)
        clear k6 OW AR
        have AR : Hid (Ab W v6) := O6.out.1
        go_wp2_with fail
        refine (CC.out _ _ (GG.out.to AR.out)).mono ?_
        rintro e9 vq ⟨rfl, hvq⟩
        have hvq2 := hvq.symm
        subst hvq2
        go_upto_region 15 with fail
        obtain ⟨UU, E1, hF1, hF2⟩ := cls v6
        have HU := hid hF2
        have HU1 := hid hF1
        have HV : Hid (∀ u, Ab v6 (E1 u)) := fun u => (hid (Ab.refl v6)).out.trans (hF1 u)
        have xs : ∀ u, (E1 u).cell? ⟨g, 0, none⟩ = some (.slice (some ⟨bB, 0, none⟩) M M) := fun u => cell_of_row _ _ 0 _ _ _ ((HV.out u).heap O6.out.2.1)
        have xa : ∀ u, (E1 u).cell? ⟨w.heap.size, 2, none⟩ = some (.slice (some ⟨bb, bo, none⟩) M cb) := fun u => cell_of_row _ _ 2 _ _ _ ((AR.out.trans (HV.out u)).heap RO.out)
        have xb : ∀ u, (E1 u).cell? ⟨bb, bo + c, none⟩ = some (.float .f64 bc) := fun u => (FB.out c HC.out _ (AW.out.trans (AR.out.trans (HV.out u)))).trans (by rw [HBC.out])
        have DD0 := HU.out _ (Ab.refl v6).drew
        clear hF1 hF2
        refine region_tail 10 E1 (by kernel_rfl) (by kernel_rfl) (by kernel_rfl) DD0 ?_
        simp only [List.take_succ_cons, List.take_zero, List.drop_succ_cons, List.drop_zero]
        repeat (go_big_quiet_step (first
          | (with_reducible rfl)))
        refine wpQuiet_nil ?_
        intro z1 hwz
        obtain ⟨u0, hu⟩ := hwz
        have AZ1 : Hid (Ab v6 z1) := by rw [hu]; exact HV.out u0
        clear hu u0
        clear HU HU1 HV  DD0 xs xa xb
        clear E1 UU
        have O7 := hid (O6.out.to AZ1.out)
        have xc := O7.out.2.2.1.cell hyM2
        have xf := O7.out.2.2.1.frozen y
        clear AZ1 O6 AR
        go_upto_region 16 with fail
        have O8 := hid (O7.out.setB AP.out y bc)
        clear xc xf O7
        generalize World.setCell z1 _ _ = v7 at *
        have AR : Hid (Ab W v7) := O8.out.1
        obtain ⟨UU, E1, hF1, hF2⟩ := cls v7
        have HU := hid hF2
        have HU1 := hid hF1
        have HV : Hid (∀ u, Ab v7 (E1 u)) := fun u => (hid (Ab.refl v7)).out.trans (hF1 u)
        have xs : ∀ u, (E1 u).cell? ⟨g, 1, none⟩ = some (.slice (some ⟨bW, 0, none⟩) M M) := fun u => cell_of_row _ _ 1 _ _ _ ((HV.out u).heap O8.out.2.1)
        have xa : ∀ u, (E1 u).cell? ⟨w.heap.size, 3, none⟩ = some (.slice (some ⟨wb, wo, none⟩) M cw) := fun u => cell_of_row _ _ 3 _ _ _ ((AR.out.trans (HV.out u)).heap RO.out)
        have xb : ∀ u, (E1 u).cell? ⟨wb, wo + c, none⟩ = some (.int .i64 wcc) := fun u => (FA.out c HC.out _ (AW.out.trans (AR.out.trans (HV.out u)))).trans (by rw [HWC.out])
        have DD0 := HU.out _ (Ab.refl v7).drew
        clear hF1 hF2
        refine region_tail 10 E1 (by kernel_rfl) (by kernel_rfl) (by kernel_rfl) DD0 ?_
        simp only [List.take_succ_cons, List.take_zero, List.drop_succ_cons, List.drop_zero]
        repeat (go_big_quiet_step (first
          | (with_reducible rfl)))
        refine wpQuiet_nil ?_
        intro z2 hwz
        obtain ⟨u0, hu⟩ := hwz
        have AZ2 : Hid (Ab v7 z2) := by rw [hu]; exact HV.out u0
        clear hu u0
        clear HU HU1 HV  DD0 xs xa xb
        clear E1 UU
        have O9 := hid (O8.out.to AZ2.out)
        have xc := O9.out.2.2.2.cell hyM2
        have xf := O9.out.2.2.2.frozen y
        clear AZ2 O8 AR
        go_wp2
        refine ⟨⟨c + 1, by have := HC.out; omega, by simp, _, _, O9.out.setW AP.out y wcc, ?_, ?_⟩, by simp [intOf]; have := HC.out; omega⟩
        · intro i hi
          have b := BD.out i hi
          have b1 := LB.out c HC.out
          have b2 := LW.out c HC.out
          rw [HBC.out] at b1
          rw [HWC.out] at b2
          refine ⟨?_, ?_⟩
          · split
            · exact b1
            · exact b.1
          · split
            · exact b2
            · exact b.2
        · intro j hj
          by_cases e : j = c
          · subst e
            rw [HY.out, if_pos rfl, if_pos rfl]
            exact ⟨HBC.out.symm, HWC.out.symm⟩
          · have lt : j < c := by omega
            have ne : ¬ tn j = y := fun h => e (JI.out j c (by have := HC.out; omega) HC.out (by rw [h, HY.out]))
            rw [if_neg ne, if_neg ne]
            exact PS.out j lt
      · have e6 : M = c := by omega
        subst e6
        clear hcM hc
        go_wp2_with fail
        refine (CC.out _ _ (GG.out.to AR.out)).mono ?_
        rintro e9 vq ⟨rfl, hvq⟩
        have hvq2 := hvq.symm
        subst hvq2
        go_wp2_with fail
        refine (CX.out _ _ (GG.out.to AR.out)).mono ?_
        rintro e9 v5 ⟨rfl, k5⟩
        have O5 := hid (OW.out.to (Ab.alloc k5 (.cells #[.int .i64 (Lf : Nat), .int .i64 (S : Nat), .int .i64 (R : Nat), .int .i64 (Q : Nat)] 41)))
        have ER5 : Hid ((v5.alloc (.cells #[.int .i64 (Lf : Nat), .int .i64 (S : Nat), .int .i64 (R : Nat), .int .i64 (Q : Nat)] 41)).heap[v5.heap.size]? = some (.cells #[.int .i64 (Lf : Nat), .int .i64 (S : Nat), .int .i64 (R : Nat), .int .i64 (Q : Nat)] 41)) := heap_alloc_new _ _
        clear k5 OW AR
        go_upto_region 18 with fail
        generalize hV5 : World.alloc v5 _ = V at *
        obtain ⟨ge, hge⟩ : ∃ g, v5.heap.size = g := ⟨_, rfl⟩
        have ER : Hid (V.heap[ge]? = some (.cells #[.int .i64 (Lf : Nat), .int .i64 (S : Nat), .int .i64 (R : Nat), .int .i64 (Q : Nat)] 41)) := by rw [← hge]; exact ER5.out
        have OV := O5
        clear O5 ER5
        rw [hge]
        clear hge hV5
        have AR : Hid (Ab W V) := OV.out.1
        have CTl := hid (fun v hv => CT.out Lf JL.out v hv)
        obtain ⟨y, hy⟩ : ∃ y, tn Lf = y := ⟨_, rfl⟩
        obtain ⟨yq, hyq⟩ : ∃ y, tq Lf = y := ⟨_, rfl⟩
        have CR2 := CR
        have hQ2 := HQ.out
        have hX2 := HX.out
        rw [hy, hyq] at CTl
        rw [hy] at CR2
        rw [hyq] at hQ2 hX2
        have hS2 := HS.out
        have HY := hid hy
        clear hy hyq
        obtain ⟨UU, E1, hF1, hF2⟩ := cls V
        have HU := hid hF2
        have HU1 := hid hF1
        have HV : Hid (∀ u, Ab V (E1 u)) := fun u => (hid (Ab.refl V)).out.trans (hF1 u)
        have HG : Hid (∀ u, GridOf n gb (E1 u)) := fun u => GG.out.to (AR.out.trans (HV.out u))
        have HW : Hid (∀ u, Ab w (E1 u)) := fun u => AW.out.trans (AR.out.trans (HV.out u))
        have CI2 : Hid (∀ v, GridOf n gb v → Calls Tryd.prog 22 #[.pointer (some ⟨gb, 0, none⟩)] v fun e w' => e = .returned (.int .i64 (n : Nat)) ∧ Below v.heap.size v w') := fun v g => (CI.out _ _ g).mono fun _ _ h => ⟨h.1, by obtain ⟨_, rfl⟩ := h; exact Below.refl _ _⟩
        have xe : ∀ u, (E1 u).cell? ⟨ge, 0, none⟩ = some (.int .i64 (Lf : Nat)) := fun u => cell_of_row _ _ 0 _ _ _ ((HV.out u).heap ER.out)
        have DD0 := HU.out _ (Ab.refl V).drew
        clear hF1 hF2
        refine region_cls E1 (by kernel_rfl) (by kernel_rfl) DD0 ?_
        repeat (go_big_quiet_step (first
          | (with_reducible rfl)
          | (go_at_call 22; exact calls_cls HU HU1 (CI2.out _ (HG.out _)))
          | (go_at_call 23; exact calls_cls HU HU1 (CTl.out _ (HW.out _)))))
        refine wpQuiet_nil ?_
        intro z1 hwz
        obtain ⟨u0, hu⟩ := hwz
        have AZ1 : Hid (Ab V z1) := by rw [hu]; exact HV.out u0
        clear hu u0
        clear HU HU1 HV HG HW CI2 DD0 xe
        clear E1 UU
        have e1 := cell_of_row _ _ 1 _ _ _ (AZ1.out.heap ER.out)
        have O1 := hid (OV.out.to AZ1.out)
        clear OV AR
        go_wp2_with fail
        refine (CR2.out _ _ (GG.out.to O1.out.1)).mono ?_
        rintro e9 v8 ⟨rfl, k8⟩
        have O8 := hid (O1.out.to k8)
        clear k8 O1 e1 AZ1 ER
        have hcv := fun (w : World) => run_convert_int_float (P := Tryd.prog) w 3 28 .i64 .f64 sg (by kernel_rfl) (by kernel_rfl)
        rw [hfs.out] at hcv
        have AP8 : Hid (Ab W v8) := O8.out.1
        have RO8 : Hid (v8.heap[w.heap.size]? = some (.cells #[.int .i64 side, .int .i64 lim, .slice (some ⟨bb, bo, none⟩) M cb, .slice (some ⟨wb, wo, none⟩) M cw, .slice pt lt ct, .slice ps ls cs, .int .i64 sky, .int .i64 st] 27)) := AP8.out.heap RO.out
        have AW8 : Hid (Ab w v8) := AW.out.trans AP8.out
        have G8 : Hid (GridOf n gb v8) := GG.out.to AP8.out
        have I1 : Hid (IsFl v8 (some ⟨bB, 0, none⟩) M fb) := rowIs.fl O8.out.2.2.1 (fun i hi => (BD.out i hi).1)
        have I2 : Hid (IsIn v8 (some ⟨bW, 0, none⟩) M fw) := rowIs.in O8.out.2.2.2 (fun i hi => (BD.out i hi).2)
        have SR : Hid (v8.heap[g]? = some (.cells #[.slice (some ⟨bB, 0, none⟩) M M, .slice (some ⟨bW, 0, none⟩) M M, .slice none 0 0, .slice none 0 0, .int .i64 0, .int .i64 0] 25)) := O8.out.2.1
        go_wp2
        go_loopw [21] (fun iv wr => ∃ c : Nat, c ≤ 2 ∧ iv = .int .i64 (c : Nat) ∧ Ab v8 wr) (fun iv _ => 2 - (intOf iv).toNat)
        case atStart => exact ⟨0, by omega, rfl, Ab.refl v8⟩
        case round =>
          obtain ⟨c, hc, rfl, ar⟩ := hrel
          have AR := hid ar
          clear ar
          have c3 : c = 0 ∨ c = 1 ∨ c = 2 := by omega
          rcases c3 with rfl | rfl | rfl
          · go_upto_region 26 with fail
            obtain ⟨UU, E1, hF1, hF2⟩ := cls wr
            have HU := hid hF2
            have HU1 := hid hF1
            have HV : Hid (∀ u, Ab v8 (E1 u)) := fun u => AR.out.trans (hF1 u)
            have HG : Hid (∀ u, GridOf n gb (E1 u)) := fun u => G8.out.to (HV.out u)
            have HW : Hid (∀ u, Ab w (E1 u)) := fun u => AW8.out.trans (HV.out u)
            have x1 : ∀ u, (E1 u).cell? ⟨w.heap.size, 1, none⟩ = some (.int .i64 lim) := fun u => cell_of_row _ _ 1 _ _ _ ((HV.out u).heap RO8.out)
            have x2 : ∀ u, (E1 u).cell? ⟨w.heap.size, 2, none⟩ = some (.slice (some ⟨bb, bo, none⟩) M cb) := fun u => cell_of_row _ _ 2 _ _ _ ((HV.out u).heap RO8.out)
            have x3 : ∀ u, (E1 u).cell? ⟨w.heap.size, 3, none⟩ = some (.slice (some ⟨wb, wo, none⟩) M cw) := fun u => cell_of_row _ _ 3 _ _ _ ((HV.out u).heap RO8.out)
            have x4 : ∀ u, (E1 u).cell? ⟨w.heap.size, 4, none⟩ = some (.slice pt lt ct) := fun u => cell_of_row _ _ 4 _ _ _ ((HV.out u).heap RO8.out)
            have x5 : ∀ u, (E1 u).cell? ⟨w.heap.size, 5, none⟩ = some (.slice ps ls cs) := fun u => cell_of_row _ _ 5 _ _ _ ((HV.out u).heap RO8.out)
            have x6 : ∀ u, (E1 u).cell? ⟨w.heap.size, 6, none⟩ = some (.int .i64 sky) := fun u => cell_of_row _ _ 6 _ _ _ ((HV.out u).heap RO8.out)
            have x7 : ∀ u, (E1 u).cell? ⟨w.heap.size, 7, none⟩ = some (.int .i64 st) := fun u => cell_of_row _ _ 7 _ _ _ ((HV.out u).heap RO8.out)
            have y0 : ∀ u, (E1 u).cell? ⟨g, 0, none⟩ = some (.slice (some ⟨bB, 0, none⟩) M M) := fun u => cell_of_row _ _ 0 _ _ _ ((HV.out u).heap SR.out)
            have y1 : ∀ u, (E1 u).cell? ⟨g, 1, none⟩ = some (.slice (some ⟨bW, 0, none⟩) M M) := fun u => cell_of_row _ _ 1 _ _ _ ((HV.out u).heap SR.out)
            have y2 : ∀ u, (E1 u).cell? ⟨g, 2, none⟩ = some (.slice none 0 0) := fun u => cell_of_row _ _ 2 _ _ _ ((HV.out u).heap SR.out)
            have y3 : ∀ u, (E1 u).cell? ⟨g, 3, none⟩ = some (.slice none 0 0) := fun u => cell_of_row _ _ 3 _ _ _ ((HV.out u).heap SR.out)
            have y4 : ∀ u, (E1 u).cell? ⟨g, 4, none⟩ = some (.int .i64 0) := fun u => cell_of_row _ _ 4 _ _ _ ((HV.out u).heap SR.out)
            have y5 : ∀ u, (E1 u).cell? ⟨g, 5, none⟩ = some (.int .i64 0) := fun u => cell_of_row _ _ 5 _ _ _ ((HV.out u).heap SR.out)
            have DD0 := HU.out _ (Ab.refl wr).drew
            clear hF1 hF2
            refine region_cls E1 (by kernel_rfl) (by kernel_rfl) DD0 ?_
            repeat (go_big_quiet_step (first
              | (with_reducible rfl)
              | (go_at_call_of 11 E; exact calls_cls HU HU1 (D0.out _ _ (HG.out _) (HW.out _)))
              | (go_at_call_of 11 Fe; exact calls_cls HU HU1 (D2.out bB bW fb fw _ _ (HG.out _) (HW.out _) (I1.out.below (HV.out _)) (I2.out.below (HV.out _)) PS.out))
              | (go_at_call 13; exact calls_cls HU HU1 (SS.out _ _))))
            refine wpQuiet_nil ?_
            intro z3 hwz
            obtain ⟨u0, hu⟩ := hwz
            have AZ3 : Hid (Ab v8 z3) := by rw [hu]; exact HV.out u0
            clear hu u0
            clear HU HU1 HV HG HW DD0 x1 x2 x3 x4 x5 x6 x7 y0 y1 y2 y3 y4 y5
            clear E1 UU
            go_wp2
            go_roundw
            case rel => exact ⟨1, by omega, rfl, AZ3.out⟩
            case measure => simp [intOf]
          · go_upto_region 26 with fail
            obtain ⟨UU, E1, hF1, hF2⟩ := cls wr
            have HU := hid hF2
            have HU1 := hid hF1
            have HV : Hid (∀ u, Ab v8 (E1 u)) := fun u => AR.out.trans (hF1 u)
            have HG : Hid (∀ u, GridOf n gb (E1 u)) := fun u => G8.out.to (HV.out u)
            have HW : Hid (∀ u, Ab w (E1 u)) := fun u => AW8.out.trans (HV.out u)
            have x1 : ∀ u, (E1 u).cell? ⟨w.heap.size, 1, none⟩ = some (.int .i64 lim) := fun u => cell_of_row _ _ 1 _ _ _ ((HV.out u).heap RO8.out)
            have x2 : ∀ u, (E1 u).cell? ⟨w.heap.size, 2, none⟩ = some (.slice (some ⟨bb, bo, none⟩) M cb) := fun u => cell_of_row _ _ 2 _ _ _ ((HV.out u).heap RO8.out)
            have x3 : ∀ u, (E1 u).cell? ⟨w.heap.size, 3, none⟩ = some (.slice (some ⟨wb, wo, none⟩) M cw) := fun u => cell_of_row _ _ 3 _ _ _ ((HV.out u).heap RO8.out)
            have x4 : ∀ u, (E1 u).cell? ⟨w.heap.size, 4, none⟩ = some (.slice pt lt ct) := fun u => cell_of_row _ _ 4 _ _ _ ((HV.out u).heap RO8.out)
            have x5 : ∀ u, (E1 u).cell? ⟨w.heap.size, 5, none⟩ = some (.slice ps ls cs) := fun u => cell_of_row _ _ 5 _ _ _ ((HV.out u).heap RO8.out)
            have x6 : ∀ u, (E1 u).cell? ⟨w.heap.size, 6, none⟩ = some (.int .i64 sky) := fun u => cell_of_row _ _ 6 _ _ _ ((HV.out u).heap RO8.out)
            have x7 : ∀ u, (E1 u).cell? ⟨w.heap.size, 7, none⟩ = some (.int .i64 st) := fun u => cell_of_row _ _ 7 _ _ _ ((HV.out u).heap RO8.out)
            have y0 : ∀ u, (E1 u).cell? ⟨g, 0, none⟩ = some (.slice (some ⟨bB, 0, none⟩) M M) := fun u => cell_of_row _ _ 0 _ _ _ ((HV.out u).heap SR.out)
            have y1 : ∀ u, (E1 u).cell? ⟨g, 1, none⟩ = some (.slice (some ⟨bW, 0, none⟩) M M) := fun u => cell_of_row _ _ 1 _ _ _ ((HV.out u).heap SR.out)
            have y2 : ∀ u, (E1 u).cell? ⟨g, 2, none⟩ = some (.slice none 0 0) := fun u => cell_of_row _ _ 2 _ _ _ ((HV.out u).heap SR.out)
            have y3 : ∀ u, (E1 u).cell? ⟨g, 3, none⟩ = some (.slice none 0 0) := fun u => cell_of_row _ _ 3 _ _ _ ((HV.out u).heap SR.out)
            have y4 : ∀ u, (E1 u).cell? ⟨g, 4, none⟩ = some (.int .i64 0) := fun u => cell_of_row _ _ 4 _ _ _ ((HV.out u).heap SR.out)
            have y5 : ∀ u, (E1 u).cell? ⟨g, 5, none⟩ = some (.int .i64 0) := fun u => cell_of_row _ _ 5 _ _ _ ((HV.out u).heap SR.out)
            have DD0 := HU.out _ (Ab.refl wr).drew
            clear hF1 hF2
            refine region_cls E1 (by kernel_rfl) (by kernel_rfl) DD0 ?_
            repeat (go_big_quiet_step (first
              | (with_reducible rfl)
              | (go_at_call_of 11 E; exact calls_cls HU HU1 (D1.out _ _ (HG.out _) (HW.out _)))
              | (go_at_call_of 11 Fe; exact calls_cls HU HU1 (D3.out bB bW fb fw _ _ (HG.out _) (HW.out _) (I1.out.below (HV.out _)) (I2.out.below (HV.out _)) PS.out))
              | (go_at_call 13; exact calls_cls HU HU1 (SS.out _ _))))
            refine wpQuiet_nil ?_
            intro z3 hwz
            obtain ⟨u0, hu⟩ := hwz
            have AZ3 : Hid (Ab v8 z3) := by rw [hu]; exact HV.out u0
            clear hu u0
            clear HU HU1 HV HG HW DD0 x1 x2 x3 x4 x5 x6 x7 y0 y1 y2 y3 y4 y5
            clear E1 UU
            go_wp2
            go_roundw
            case rel => exact ⟨2, by omega, rfl, AZ3.out⟩
            case measure => simp [intOf]
          · go_wp2
            go_ret
            exact ⟨rfl, AW8.out.trans AR.out⟩
end Go.Proofs.YtjgbaenihkplpaaDoor

/-
  Whether a sea fits, the way of water over an edge, the depth put forward: walks over the program.
-/
namespace Go.Proofs.YtjgbaenihkplpaaDoor
open Go.RowKit Tf Cu
attribute [local go_sem] run_bits run_from raw_feq raw_fne raw_flt raw_fgt run_neg run_store_float
set_option maxRecDepth 100000 in
set_option maxHeartbeats 8000000 in
theorem fit12_at (gp : Value) (pb pw pt ps : Option Addr) (lb cb lw cw lt ct ls cs : Nat) (sky st : Int) (M : Nat) (q : Bool) (w : World)
    (hq : (((lb : Int) == (M : Int)) = false ∧ q = false) ∨ (((lb : Int) == (M : Int)) = true ∧ ((lw : Int) == (M : Int)) = q))
    (CC : Hid (∀ v, Ab w v → Calls Tryd.prog 21 #[gp] v fun e w' => e = .returned (.int .i64 (M : Nat)) ∧ Below v.heap.size v w')) :
    Calls Tryd.prog 27 #[gp, .agg #[.slice pb lb cb, .slice pw lw cw, .slice pt lt ct, .slice ps ls cs, .int .i64 sky, .int .i64 st]] w fun e w' => e = .returned (.bool q) ∧ Below w.heap.size w w' := by
  have A0 : Hid (Ab w (w.alloc (.cells #[.slice pb lb cb, .slice pw lw cw, .slice pt lt ct, .slice ps ls cs, .int .i64 sky, .int .i64 st] 25))) := bl1 _ _
  have RO : Hid ((w.alloc (.cells #[.slice pb lb cb, .slice pw lw cw, .slice pt lt ct, .slice ps ls cs, .int .i64 sky, .int .i64 st] 25)).heap[w.heap.size]? = some (.cells #[.slice pb lb cb, .slice pw lw cw, .slice pt lt ct, .slice ps ls cs, .int .i64 sky, .int .i64 st] 25)) := heap_alloc_new _ _
  go_enter Tryd.func27, Tryd.ntmps27
  go_upto_region 1 with fail
  generalize hW : World.alloc w _ = W at *
  obtain ⟨gs, hgs⟩ : ∃ g, w.heap.size = g := ⟨_, rfl⟩
  rw [hgs] at RO ⊢
  clear hgs hW
  rcases hq with ⟨q1, rfl⟩ | ⟨q1, q2⟩
  · obtain ⟨UU, E, hF1, hF2⟩ := cls W
    have HU := hid hF2
    have HU1 := hid hF1
    have HX : Hid (∀ u, Ab w (E u)) := fun u => Ab.trans A0.out (hF1 u)
    have x0 : ∀ u, (E u).cell? ⟨gs, 0, none⟩ = some (.slice pb lb cb) := fun u => cell_of_row _ _ 0 _ _ _ ((hF1 u).heap RO.out)
    have x1 : ∀ u, (E u).cell? ⟨gs, 1, none⟩ = some (.slice pw lw cw) := fun u => cell_of_row _ _ 1 _ _ _ ((hF1 u).heap RO.out)
    have DD0 := HU.out _ (Ab.refl W).drew
    clear hF1 hF2
    refine region_cls E (by kernel_rfl) (by kernel_rfl) DD0 ?_
    repeat (go_big_quiet_step (first
      | (with_reducible rfl)
      | (go_at_call 21; exact calls_cls HU HU1 (CC.out _ (HX.out _)))))
    refine wpQuiet_nil ?_
    intro z hwz
    obtain ⟨u0, hu⟩ := hwz
    have AZ : Hid (Ab w z) := by rw [hu]; exact HX.out u0
    clear hu u0
    clear HU HU1 HX DD0 x0 x1
    clear E UU
    go_wp2
    go_ret
    exact ⟨rfl, AZ.out⟩
  · obtain ⟨UU, E, hF1, hF2⟩ := cls W
    have HU := hid hF2
    have HU1 := hid hF1
    have HX : Hid (∀ u, Ab w (E u)) := fun u => Ab.trans A0.out (hF1 u)
    have x0 : ∀ u, (E u).cell? ⟨gs, 0, none⟩ = some (.slice pb lb cb) := fun u => cell_of_row _ _ 0 _ _ _ ((hF1 u).heap RO.out)
    have x1 : ∀ u, (E u).cell? ⟨gs, 1, none⟩ = some (.slice pw lw cw) := fun u => cell_of_row _ _ 1 _ _ _ ((hF1 u).heap RO.out)
    have DD0 := HU.out _ (Ab.refl W).drew
    clear hF1 hF2
    refine region_cls E (by kernel_rfl) (by kernel_rfl) DD0 ?_
    repeat (go_big_quiet_step (first
      | (with_reducible rfl)
      | (go_at_call 21; exact calls_cls HU HU1 (CC.out _ (HX.out _)))))
    refine wpQuiet_nil ?_
    intro z hwz
    obtain ⟨u0, hu⟩ := hwz
    have AZ : Hid (Ab w z) := by rw [hu]; exact HX.out u0
    clear hu u0
    clear HU HU1 HX DD0 x0 x1
    clear E UU
    go_wp2
    go_ret
    exact ⟨rfl, AZ.out⟩
set_option maxRecDepth 100000 in
set_option maxHeartbeats 8000000 in
theorem dof12_at (gp : Value) (bb bo wb wo M cb cw : Nat) (pt ps : Option Addr) (lt ct ls cs : Nat) (sky st : Int) (c : Nat) (wC aC : Int) (h : Nat) (w : World) (hc : ((c : Nat) : Int) < M)
    (FW : Hid (∀ v, Ab w v → v.cell? ⟨wb, wo + c, none⟩ = some (.int .i64 wC)))
    (AC : Hid (∀ v, Ab w v → Calls Tryd.prog 17 #[gp, .int .i64 (c : Nat)] v fun e w' => e = .returned (.int .i64 aC) ∧ Below v.heap.size v w'))
    (DC : Hid (∀ v : World, Calls Tryd.prog 16 #[.int .i64 wC, .int .i64 aC] v fun e w' => e = .returned (.float .f64 h) ∧ Below v.heap.size v w')) :
    Calls Tryd.prog 59 #[gp, .agg #[.slice (some ⟨bb, bo, none⟩) M cb, .slice (some ⟨wb, wo, none⟩) M cw, .slice pt lt ct, .slice ps ls cs, .int .i64 sky, .int .i64 st], .int .i64 (c : Nat)] w fun e w' => e = .returned (.float .f64 h) ∧ Below w.heap.size w w' := by
  have A0 : Hid (Ab w (w.alloc (.cells #[.slice (some ⟨bb, bo, none⟩) M cb, .slice (some ⟨wb, wo, none⟩) M cw, .slice pt lt ct, .slice ps ls cs, .int .i64 sky, .int .i64 st] 25))) := bl1 _ _
  have RO : Hid ((w.alloc (.cells #[.slice (some ⟨bb, bo, none⟩) M cb, .slice (some ⟨wb, wo, none⟩) M cw, .slice pt lt ct, .slice ps ls cs, .int .i64 sky, .int .i64 st] 25)).heap[w.heap.size]? = some (.cells #[.slice (some ⟨bb, bo, none⟩) M cb, .slice (some ⟨wb, wo, none⟩) M cw, .slice pt lt ct, .slice ps ls cs, .int .i64 sky, .int .i64 st] 25)) := heap_alloc_new _ _
  go_enter Tryd.func59, Tryd.ntmps59
  go_upto_region 1 with fail
  generalize hW : World.alloc w _ = W at *
  obtain ⟨gs, hgs⟩ : ∃ g, w.heap.size = g := ⟨_, rfl⟩
  rw [hgs] at RO ⊢
  clear hgs hW
  obtain ⟨UU, E, hF1, hF2⟩ := cls W
  have HU := hid hF2
  have HU1 := hid hF1
  have HX : Hid (∀ u, Ab w (E u)) := fun u => Ab.trans A0.out (hF1 u)
  have x1 : ∀ u, (E u).cell? ⟨gs, 1, none⟩ = some (.slice (some ⟨wb, wo, none⟩) M cw) := fun u => cell_of_row _ _ 1 _ _ _ ((hF1 u).heap RO.out)
  have xw : ∀ u, (E u).cell? ⟨wb, wo + c, none⟩ = some (.int .i64 wC) := fun u => FW.out _ (HX.out u)
  have DD0 := HU.out _ (Ab.refl W).drew
  clear hF1 hF2
  refine region_cls E (by kernel_rfl) (by kernel_rfl) DD0 ?_
  repeat (go_big_quiet_step (first
    | (with_reducible rfl)
    | (go_at_call 17; exact calls_cls HU HU1 (AC.out _ (HX.out _)))
    | (go_at_call 16; exact calls_cls HU HU1 (DC.out _))))
  refine wpQuiet_nil ?_
  intro z hwz
  obtain ⟨u0, hu⟩ := hwz
  have AZ : Hid (Ab w z) := by rw [hu]; exact HX.out u0
  clear hu u0
  clear HU HU1 HX DD0 x1 xw
  clear E UU
  go_wp2
  go_ret
  exact ⟨rfl, AZ.out⟩
set_option maxRecDepth 100000 in
set_option maxHeartbeats 8000000 in
theorem wo12_no (gp : Value) (e : Int) (u : Nat) (w : World)
    (CE : Hid (∀ v, Ab w v → Calls Tryd.prog 14 #[gp, .int .i64 e] v fun e w' => e = .returned (.tuple #[.agg #[.int .i64 0, .int .i64 0, .int .i64 0, .int .i64 0], .bool false]) ∧ Below v.heap.size v w')) :
    Calls Tryd.prog 28 #[gp, .int .i64 e, .float .f64 u] w fun e w' => e = .returned (.tuple #[.agg #[.int .i64 0, .int .i64 0, .int .i64 0], .bool false]) ∧ Below w.heap.size w w' := by
  have A0 : Hid (Ab w (w.alloc (.cells #[.int .i64 0, .int .i64 0, .int .i64 0] 69))) := bl1 _ _
  have R0 : Hid ((w.alloc (.cells #[.int .i64 0, .int .i64 0, .int .i64 0] 69)).heap[w.heap.size]? = some (.cells #[.int .i64 0, .int .i64 0, .int .i64 0] 69)) := heap_alloc_new _ _
  go_enter Tryd.func28, Tryd.ntmps28
  go_wp2_with fail
  refine (CE.out _ A0.out).mono ?_
  rintro e9 v1 ⟨rfl, b1⟩
  have A1 : Hid (Ab w (v1.alloc (.cells #[.int .i64 0, .int .i64 0, .int .i64 0, .int .i64 0] 41))) := (A0.out.call b1).alloc _
  have R1 : Hid ((v1.alloc (.cells #[.int .i64 0, .int .i64 0, .int .i64 0, .int .i64 0] 41)).heap[w.heap.size]? = some (.cells #[.int .i64 0, .int .i64 0, .int .i64 0] 69)) := Ab.heap (bl1 _ _) (Ab.heap b1 R0.out)
  have ER1 : Hid ((v1.alloc (.cells #[.int .i64 0, .int .i64 0, .int .i64 0, .int .i64 0] 41)).heap[v1.heap.size]? = some (.cells #[.int .i64 0, .int .i64 0, .int .i64 0, .int .i64 0] 41)) := heap_alloc_new _ _
  clear b1 A0 R0
  obtain ⟨⟨o0, o1, o2⟩, o3, o4, o5⟩ := rowfacts R1.out
  go_wp2
  refine bodyPost_ret ?_ rfl ⟨rfl, ?_⟩
  · exact res_two Tryd.results28 _ _ w.heap.size _ _ (0, 0) _ _ rfl rfl (row3 R1.out) Tryd.underlying69 rfl (by kernel_rfl)
  · exact ((A1.out.setk (Nat.le_refl _) _).setk (Nat.le_refl _) _).setk (Nat.le_refl _) _
set_option maxRecDepth 100000 in
set_option maxHeartbeats 8000000 in
theorem wo12_pos (gp : Value) (e : Int) (u : Nat) (L S R Q p q : Nat) (w : World) (hu1 : fgt u 0 = true)
    (CE : Hid (∀ v, Ab w v → Calls Tryd.prog 14 #[gp, .int .i64 e] v fun e w' => e = .returned (.tuple #[.agg #[.int .i64 (L : Nat), .int .i64 (S : Nat), .int .i64 (R : Nat), .int .i64 (Q : Nat)], .bool true]) ∧ Below v.heap.size v w'))
    (CB : Hid (∀ v, Ab w v → Calls Tryd.prog 15 #[gp, .int .i64 e] v fun e w' => e = .returned (.tuple #[.int .i64 (p : Nat), .int .i64 (q : Nat), .bool true]) ∧ Below v.heap.size v w')) :
    Calls Tryd.prog 28 #[gp, .int .i64 e, .float .f64 u] w fun e w' => e = .returned (.tuple #[.agg #[.int .i64 (L : Nat), .int .i64 (R : Nat), .int .i64 (p : Nat)], .bool true]) ∧ Below w.heap.size w w' := by
  have A0 : Hid (Ab w (w.alloc (.cells #[.int .i64 0, .int .i64 0, .int .i64 0] 69))) := bl1 _ _
  have R0 : Hid ((w.alloc (.cells #[.int .i64 0, .int .i64 0, .int .i64 0] 69)).heap[w.heap.size]? = some (.cells #[.int .i64 0, .int .i64 0, .int .i64 0] 69)) := heap_alloc_new _ _
  go_enter Tryd.func28, Tryd.ntmps28
  go_wp2_with fail
  refine (CE.out _ A0.out).mono ?_
  rintro e9 v1 ⟨rfl, b1⟩
  have A1 : Hid (Ab w (v1.alloc (.cells #[.int .i64 (L : Nat), .int .i64 (S : Nat), .int .i64 (R : Nat), .int .i64 (Q : Nat)] 41))) := (A0.out.call b1).alloc _
  have R1 : Hid ((v1.alloc (.cells #[.int .i64 (L : Nat), .int .i64 (S : Nat), .int .i64 (R : Nat), .int .i64 (Q : Nat)] 41)).heap[w.heap.size]? = some (.cells #[.int .i64 0, .int .i64 0, .int .i64 0] 69)) := Ab.heap (bl1 _ _) (Ab.heap b1 R0.out)
  have ER1 : Hid ((v1.alloc (.cells #[.int .i64 (L : Nat), .int .i64 (S : Nat), .int .i64 (R : Nat), .int .i64 (Q : Nat)] 41)).heap[v1.heap.size]? = some (.cells #[.int .i64 (L : Nat), .int .i64 (S : Nat), .int .i64 (R : Nat), .int .i64 (Q : Nat)] 41)) := heap_alloc_new _ _
  clear b1 A0 R0
  go_wp2_with fail
  refine (CB.out _ A1.out).mono ?_
  rintro e9 v2 ⟨rfl, b2⟩
  obtain ⟨ge, hge⟩ : ∃ g, v1.heap.size = g := ⟨_, rfl⟩
  have A2 : Hid (Ab w v2) := A1.out.call b2
  have R2 : Hid (v2.heap[w.heap.size]? = some (.cells #[.int .i64 0, .int .i64 0, .int .i64 0] 69)) := Ab.heap b2 R1.out
  have ER2 : Hid (v2.heap[ge]? = some (.cells #[.int .i64 (L : Nat), .int .i64 (S : Nat), .int .i64 (R : Nat), .int .i64 (Q : Nat)] 41)) := by rw [← hge]; exact Ab.heap b2 ER1.out
  clear b2 A1 R1 ER1
  rw [hge]
  clear hge
  obtain ⟨⟨o0, o1, o2⟩, o3, o4, o5⟩ := rowfacts R2.out
  have e0 := cell_of_row _ _ 0 _ _ _ ER2.out
  have e2 := cell_of_row _ _ 2 _ _ _ ER2.out
  go_wp2
  refine bodyPost_ret ?_ rfl ⟨rfl, ?_⟩
  · exact res_two Tryd.results28 _ _ w.heap.size _ _ (0, 0) _ _ rfl rfl (row3 R2.out) Tryd.underlying69 rfl (by kernel_rfl)
  · exact ((A2.out.setk (Nat.le_refl _) _).setk (Nat.le_refl _) _).setk (Nat.le_refl _) _
set_option maxRecDepth 100000 in
set_option maxHeartbeats 8000000 in
theorem wo12_neg (gp : Value) (e : Int) (u : Nat) (L S R Q p q : Nat) (w : World) (hu1 : fgt u 0 = false) (hu2 : flt u 0 = true)
    (CE : Hid (∀ v, Ab w v → Calls Tryd.prog 14 #[gp, .int .i64 e] v fun e w' => e = .returned (.tuple #[.agg #[.int .i64 (L : Nat), .int .i64 (S : Nat), .int .i64 (R : Nat), .int .i64 (Q : Nat)], .bool true]) ∧ Below v.heap.size v w'))
    (CB : Hid (∀ v, Ab w v → Calls Tryd.prog 15 #[gp, .int .i64 e] v fun e w' => e = .returned (.tuple #[.int .i64 (p : Nat), .int .i64 (q : Nat), .bool true]) ∧ Below v.heap.size v w')) :
    Calls Tryd.prog 28 #[gp, .int .i64 e, .float .f64 u] w fun e w' => e = .returned (.tuple #[.agg #[.int .i64 (R : Nat), .int .i64 (L : Nat), .int .i64 (q : Nat)], .bool true]) ∧ Below w.heap.size w w' := by
  have A0 : Hid (Ab w (w.alloc (.cells #[.int .i64 0, .int .i64 0, .int .i64 0] 69))) := bl1 _ _
  have R0 : Hid ((w.alloc (.cells #[.int .i64 0, .int .i64 0, .int .i64 0] 69)).heap[w.heap.size]? = some (.cells #[.int .i64 0, .int .i64 0, .int .i64 0] 69)) := heap_alloc_new _ _
  go_enter Tryd.func28, Tryd.ntmps28
  go_wp2_with fail
  refine (CE.out _ A0.out).mono ?_
  rintro e9 v1 ⟨rfl, b1⟩
  have A1 : Hid (Ab w (v1.alloc (.cells #[.int .i64 (L : Nat), .int .i64 (S : Nat), .int .i64 (R : Nat), .int .i64 (Q : Nat)] 41))) := (A0.out.call b1).alloc _
  have R1 : Hid ((v1.alloc (.cells #[.int .i64 (L : Nat), .int .i64 (S : Nat), .int .i64 (R : Nat), .int .i64 (Q : Nat)] 41)).heap[w.heap.size]? = some (.cells #[.int .i64 0, .int .i64 0, .int .i64 0] 69)) := Ab.heap (bl1 _ _) (Ab.heap b1 R0.out)
  have ER1 : Hid ((v1.alloc (.cells #[.int .i64 (L : Nat), .int .i64 (S : Nat), .int .i64 (R : Nat), .int .i64 (Q : Nat)] 41)).heap[v1.heap.size]? = some (.cells #[.int .i64 (L : Nat), .int .i64 (S : Nat), .int .i64 (R : Nat), .int .i64 (Q : Nat)] 41)) := heap_alloc_new _ _
  clear b1 A0 R0
  go_wp2_with fail
  refine (CB.out _ A1.out).mono ?_
  rintro e9 v2 ⟨rfl, b2⟩
  obtain ⟨ge, hge⟩ : ∃ g, v1.heap.size = g := ⟨_, rfl⟩
  have A2 : Hid (Ab w v2) := A1.out.call b2
  have R2 : Hid (v2.heap[w.heap.size]? = some (.cells #[.int .i64 0, .int .i64 0, .int .i64 0] 69)) := Ab.heap b2 R1.out
  have ER2 : Hid (v2.heap[ge]? = some (.cells #[.int .i64 (L : Nat), .int .i64 (S : Nat), .int .i64 (R : Nat), .int .i64 (Q : Nat)] 41)) := by rw [← hge]; exact Ab.heap b2 ER1.out
  clear b2 A1 R1 ER1
  rw [hge]
  clear hge
  obtain ⟨⟨o0, o1, o2⟩, o3, o4, o5⟩ := rowfacts R2.out
  have e0 := cell_of_row _ _ 0 _ _ _ ER2.out
  have e2 := cell_of_row _ _ 2 _ _ _ ER2.out
  go_wp2
  refine bodyPost_ret ?_ rfl ⟨rfl, ?_⟩
  · exact res_two Tryd.results28 _ _ w.heap.size _ _ (0, 0) _ _ rfl rfl (row3 R2.out) Tryd.underlying69 rfl (by kernel_rfl)
  · exact ((A2.out.setk (Nat.le_refl _) _).setk (Nat.le_refl _) _).setk (Nat.le_refl _) _
set_option maxRecDepth 100000 in
set_option maxHeartbeats 8000000 in
theorem wo12_still (gp : Value) (e : Int) (u : Nat) (L S R Q p q : Nat) (w : World) (hu1 : fgt u 0 = false) (hu2 : flt u 0 = false)
    (CE : Hid (∀ v, Ab w v → Calls Tryd.prog 14 #[gp, .int .i64 e] v fun e w' => e = .returned (.tuple #[.agg #[.int .i64 (L : Nat), .int .i64 (S : Nat), .int .i64 (R : Nat), .int .i64 (Q : Nat)], .bool true]) ∧ Below v.heap.size v w'))
    (CB : Hid (∀ v, Ab w v → Calls Tryd.prog 15 #[gp, .int .i64 e] v fun e w' => e = .returned (.tuple #[.int .i64 (p : Nat), .int .i64 (q : Nat), .bool true]) ∧ Below v.heap.size v w')) :
    Calls Tryd.prog 28 #[gp, .int .i64 e, .float .f64 u] w fun e w' => e = .returned (.tuple #[.agg #[.int .i64 0, .int .i64 0, .int .i64 0], .bool false]) ∧ Below w.heap.size w w' := by
  have A0 : Hid (Ab w (w.alloc (.cells #[.int .i64 0, .int .i64 0, .int .i64 0] 69))) := bl1 _ _
  have R0 : Hid ((w.alloc (.cells #[.int .i64 0, .int .i64 0, .int .i64 0] 69)).heap[w.heap.size]? = some (.cells #[.int .i64 0, .int .i64 0, .int .i64 0] 69)) := heap_alloc_new _ _
  go_enter Tryd.func28, Tryd.ntmps28
  go_wp2_with fail
  refine (CE.out _ A0.out).mono ?_
  rintro e9 v1 ⟨rfl, b1⟩
  have A1 : Hid (Ab w (v1.alloc (.cells #[.int .i64 (L : Nat), .int .i64 (S : Nat), .int .i64 (R : Nat), .int .i64 (Q : Nat)] 41))) := (A0.out.call b1).alloc _
  have R1 : Hid ((v1.alloc (.cells #[.int .i64 (L : Nat), .int .i64 (S : Nat), .int .i64 (R : Nat), .int .i64 (Q : Nat)] 41)).heap[w.heap.size]? = some (.cells #[.int .i64 0, .int .i64 0, .int .i64 0] 69)) := Ab.heap (bl1 _ _) (Ab.heap b1 R0.out)
  have ER1 : Hid ((v1.alloc (.cells #[.int .i64 (L : Nat), .int .i64 (S : Nat), .int .i64 (R : Nat), .int .i64 (Q : Nat)] 41)).heap[v1.heap.size]? = some (.cells #[.int .i64 (L : Nat), .int .i64 (S : Nat), .int .i64 (R : Nat), .int .i64 (Q : Nat)] 41)) := heap_alloc_new _ _
  clear b1 A0 R0
  go_wp2_with fail
  refine (CB.out _ A1.out).mono ?_
  rintro e9 v2 ⟨rfl, b2⟩
  obtain ⟨ge, hge⟩ : ∃ g, v1.heap.size = g := ⟨_, rfl⟩
  have A2 : Hid (Ab w v2) := A1.out.call b2
  have R2 : Hid (v2.heap[w.heap.size]? = some (.cells #[.int .i64 0, .int .i64 0, .int .i64 0] 69)) := Ab.heap b2 R1.out
  have ER2 : Hid (v2.heap[ge]? = some (.cells #[.int .i64 (L : Nat), .int .i64 (S : Nat), .int .i64 (R : Nat), .int .i64 (Q : Nat)] 41)) := by rw [← hge]; exact Ab.heap b2 ER1.out
  clear b2 A1 R1 ER1
  rw [hge]
  clear hge
  obtain ⟨⟨o0, o1, o2⟩, o3, o4, o5⟩ := rowfacts R2.out
  have e0 := cell_of_row _ _ 0 _ _ _ ER2.out
  have e2 := cell_of_row _ _ 2 _ _ _ ER2.out
  go_wp2
  refine bodyPost_ret ?_ rfl ⟨rfl, ?_⟩
  · exact res_two Tryd.results28 _ _ w.heap.size _ _ (0, 0) _ _ rfl rfl (row3 R2.out) Tryd.underlying69 rfl (by kernel_rfl)
  · exact ((A2.out.setk (Nat.le_refl _) _).setk (Nat.le_refl _) _).setk (Nat.le_refl _) _
set_option maxRecDepth 100000 in
set_option maxHeartbeats 8000000 in
theorem fwd12_at (gp : Value) (bb bo wb wo M cb cw : Nat) (pt ps : Option Addr) (lt ct ls cs : Nat) (sky st : Int) (k : Int) (U D K : Nat) (h hk hd x y s f vv : Nat) (w : World)
    (DU : Hid (∀ v, Ab w v → Calls Tryd.prog 59 #[gp, .agg #[.slice (some ⟨bb, bo, none⟩) M cb, .slice (some ⟨wb, wo, none⟩) M cw, .slice pt lt ct, .slice ps ls cs, .int .i64 sky, .int .i64 st], .int .i64 (U : Nat)] v fun e w' => e = .returned (.float .f64 h) ∧ Below v.heap.size v w'))
    (DK : Hid (∀ v, Ab w v → Calls Tryd.prog 59 #[gp, .agg #[.slice (some ⟨bb, bo, none⟩) M cb, .slice (some ⟨wb, wo, none⟩) M cw, .slice pt lt ct, .slice ps ls cs, .int .i64 sky, .int .i64 st], .int .i64 (K : Nat)] v fun e w' => e = .returned (.float .f64 hk) ∧ Below v.heap.size v w'))
    (DD : Hid (∀ v, Ab w v → Calls Tryd.prog 59 #[gp, .agg #[.slice (some ⟨bb, bo, none⟩) M cb, .slice (some ⟨wb, wo, none⟩) M cw, .slice pt lt ct, .slice ps ls cs, .int .i64 sky, .int .i64 st], .int .i64 (D : Nat)] v fun e w' => e = .returned (.float .f64 hd) ∧ Below v.heap.size v w'))
    (CS : Hid (∀ v : World, Calls Tryd.prog 18 #[.int .i64 k, .float .f64 x, .float .f64 y] v fun e w' => e = .returned (.float .f64 s) ∧ Below v.heap.size v w'))
    (hx : ∀ (t : TypeId) (w : World), (binOp .sub t (.float .f64 h) (.float .f64 hk)).run Tryd.prog w = .ok (.float .f64 x) w)
    (hy : ∀ (t : TypeId) (w : World), (binOp .sub t (.float .f64 hd) (.float .f64 h)).run Tryd.prog w = .ok (.float .f64 y) w)
    (hm : ∀ (t : TypeId) (w : World), (binOp .mul t (.float .f64 4602678819172646912) (.float .f64 s)).run Tryd.prog w = .ok (.float .f64 f) w)
    (hv : ∀ (t : TypeId) (w : World), (binOp .add t (.float .f64 h) (.float .f64 f)).run Tryd.prog w = .ok (.float .f64 vv) w) :
    Calls Tryd.prog 30 #[.agg #[.int .i64 (U : Nat), .int .i64 (D : Nat), .int .i64 (K : Nat)], gp, .int .i64 k, .agg #[.slice (some ⟨bb, bo, none⟩) M cb, .slice (some ⟨wb, wo, none⟩) M cw, .slice pt lt ct, .slice ps ls cs, .int .i64 sky, .int .i64 st]] w fun e w' => e = .returned (.float .f64 vv) ∧ Below w.heap.size w w' := by
  have A0 : Hid (Ab w ((w.alloc (.cells #[.int .i64 (U : Nat), .int .i64 (D : Nat), .int .i64 (K : Nat)] 69)).alloc (.cells #[.slice (some ⟨bb, bo, none⟩) M cb, .slice (some ⟨wb, wo, none⟩) M cw, .slice pt lt ct, .slice ps ls cs, .int .i64 sky, .int .i64 st] 25))) := bl2 _ _ _
  have RW0 : Hid (((w.alloc (.cells #[.int .i64 (U : Nat), .int .i64 (D : Nat), .int .i64 (K : Nat)] 69)).alloc (.cells #[.slice (some ⟨bb, bo, none⟩) M cb, .slice (some ⟨wb, wo, none⟩) M cw, .slice pt lt ct, .slice ps ls cs, .int .i64 sky, .int .i64 st] 25)).heap[w.heap.size]? = some (.cells #[.int .i64 (U : Nat), .int .i64 (D : Nat), .int .i64 (K : Nat)] 69)) := heap_alloc2_old _ _ _
  have RS0 : Hid (((w.alloc (.cells #[.int .i64 (U : Nat), .int .i64 (D : Nat), .int .i64 (K : Nat)] 69)).alloc (.cells #[.slice (some ⟨bb, bo, none⟩) M cb, .slice (some ⟨wb, wo, none⟩) M cw, .slice pt lt ct, .slice ps ls cs, .int .i64 sky, .int .i64 st] 25)).heap[w.heap.size + 1]? = some (.cells #[.slice (some ⟨bb, bo, none⟩) M cb, .slice (some ⟨wb, wo, none⟩) M cw, .slice pt lt ct, .slice ps ls cs, .int .i64 sky, .int .i64 st] 25)) := heap_alloc2_new _ _ _
  go_enter Tryd.func30, Tryd.ntmps30
  have AV : Hid (Ab ((w.alloc (.cells #[.int .i64 (U : Nat), .int .i64 (D : Nat), .int .i64 (K : Nat)] 69)).alloc (.cells #[.slice (some ⟨bb, bo, none⟩) M cb, .slice (some ⟨wb, wo, none⟩) M cw, .slice pt lt ct, .slice ps ls cs, .int .i64 sky, .int .i64 st] 25)) ((w.alloc (.cells #[.int .i64 (U : Nat), .int .i64 (D : Nat), .int .i64 (K : Nat)] 69)).alloc (.cells #[.slice (some ⟨bb, bo, none⟩) M cb, .slice (some ⟨wb, wo, none⟩) M cw, .slice pt lt ct, .slice ps ls cs, .int .i64 sky, .int .i64 st] 25))) := Ab.refl _
  have s0 := cell_of_row _ _ 0 _ _ _ (AV.out.heap RS0.out)
  have s1 := cell_of_row _ _ 1 _ _ _ (AV.out.heap RS0.out)
  have s2 := cell_of_row _ _ 2 _ _ _ (AV.out.heap RS0.out)
  have s3 := cell_of_row _ _ 3 _ _ _ (AV.out.heap RS0.out)
  have s4 := cell_of_row _ _ 4 _ _ _ (AV.out.heap RS0.out)
  have s5 := cell_of_row _ _ 5 _ _ _ (AV.out.heap RS0.out)
  have y0 := cell_of_row _ _ 0 _ _ _ (AV.out.heap RW0.out)
  have y1 := cell_of_row _ _ 1 _ _ _ (AV.out.heap RW0.out)
  have y2 := cell_of_row _ _ 2 _ _ _ (AV.out.heap RW0.out)
  go_wp2_with fail
  generalize hW : World.alloc (World.alloc w _) _ = W at *
  obtain ⟨g0, hg0⟩ : ∃ g, w.heap.size = g := ⟨_, rfl⟩
  obtain ⟨g1, hg1⟩ : ∃ g, w.heap.size + 1 = g := ⟨_, rfl⟩
  rw [hg0] at RW0
  rw [hg1] at RS0
  clear s0 s1 s2 s3 s4 s5 y0 y1 y2
  clear hW
  refine (DU.out _ (A0.out.trans AV.out)).mono ?_
  rintro e9 v1 ⟨rfl, b1⟩
  have AV2 : Hid (Ab W v1) := AV.out.call b1
  clear b1 AV
  have AV := AV2
  clear AV2
  rw [hg1, hg0]
  clear hg0 hg1
  have s0 := cell_of_row _ _ 0 _ _ _ (AV.out.heap RS0.out)
  have s1 := cell_of_row _ _ 1 _ _ _ (AV.out.heap RS0.out)
  have s2 := cell_of_row _ _ 2 _ _ _ (AV.out.heap RS0.out)
  have s3 := cell_of_row _ _ 3 _ _ _ (AV.out.heap RS0.out)
  have s4 := cell_of_row _ _ 4 _ _ _ (AV.out.heap RS0.out)
  have s5 := cell_of_row _ _ 5 _ _ _ (AV.out.heap RS0.out)
  have y0 := cell_of_row _ _ 0 _ _ _ (AV.out.heap RW0.out)
  have y1 := cell_of_row _ _ 1 _ _ _ (AV.out.heap RW0.out)
  have y2 := cell_of_row _ _ 2 _ _ _ (AV.out.heap RW0.out)
  go_wp2_with fail
  clear s0 s1 s2 s3 s4 s5 y0 y1 y2
  refine (DK.out _ (A0.out.trans AV.out)).mono ?_
  rintro e9 v2 ⟨rfl, b1⟩
  have AV2 : Hid (Ab W v2) := AV.out.call b1
  clear b1 AV
  have AV := AV2
  clear AV2
  have s0 := cell_of_row _ _ 0 _ _ _ (AV.out.heap RS0.out)
  have s1 := cell_of_row _ _ 1 _ _ _ (AV.out.heap RS0.out)
  have s2 := cell_of_row _ _ 2 _ _ _ (AV.out.heap RS0.out)
  have s3 := cell_of_row _ _ 3 _ _ _ (AV.out.heap RS0.out)
  have s4 := cell_of_row _ _ 4 _ _ _ (AV.out.heap RS0.out)
  have s5 := cell_of_row _ _ 5 _ _ _ (AV.out.heap RS0.out)
  have y0 := cell_of_row _ _ 0 _ _ _ (AV.out.heap RW0.out)
  have y1 := cell_of_row _ _ 1 _ _ _ (AV.out.heap RW0.out)
  have y2 := cell_of_row _ _ 2 _ _ _ (AV.out.heap RW0.out)
  go_wp2_with fail
  clear s0 s1 s2 s3 s4 s5 y0 y1 y2
  refine (DD.out _ (A0.out.trans AV.out)).mono ?_
  rintro e9 v3 ⟨rfl, b1⟩
  have AV2 : Hid (Ab W v3) := AV.out.call b1
  clear b1 AV
  have AV := AV2
  clear AV2
  go_wp2_with fail
  refine (CS.out _).mono ?_
  rintro e9 v4 ⟨rfl, b1⟩
  have AV2 : Hid (Ab W v4) := AV.out.call b1
  clear b1
  go_wp2
  go_ret
  exact ⟨rfl, A0.out.trans AV2.out⟩
end Go.Proofs.YtjgbaenihkplpaaDoor
