/-
  Some of the texts of this proof, one behind the other.
-/
import Derived.Deep.RegionHeld3
import Derived.Test.YtnbpchbiabpngaaDoorY09
namespace Go.Proofs.YtnbpchbiabpngaaDoor
open Go.RowKit Tf Cu Go.Deep
attribute [local go_sem] run_bits run_from raw_feq raw_fne raw_flt raw_fgt run_neg run_store_float
set_option maxRecDepth 100000 in
set_option maxHeartbeats 4000000 in
theorem local12_no (side lim : Int) (pb pw pt ps : Option Addr) (lb cb lw cw lt ct ls cs : Nat) (sky st : Int) (pb2 pw2 pt2 ps2 : Option Addr) (lb2 cb2 lw2 cw2 lt2 ct2 ls2 cs2 : Nat) (sky2 st2 : Int) (e : Int) (w : World)
    (AWK : Hid (∀ v, Ab w v → Calls Tryd.prog 5 #[] v fun e w' => e = .returned (.bool true) ∧ Below v.heap.size v w'))
    (NT : Hid (∀ v, Ab w v → Calls Tryd.prog 6 #[.agg #[.int .i64 side, .int .i64 lim, .slice pb lb cb, .slice pw lw cw, .slice pt lt ct, .slice ps ls cs, .int .i64 sky, .int .i64 st]] v fun e' w' => ∃ gp, e' = .returned (.tuple #[gp, .bool false]) ∧ Below v.heap.size v w')) :
    Calls Tryd.prog 3 #[.agg #[.int .i64 side, .int .i64 lim, .slice pb lb cb, .slice pw lw cw, .slice pt lt ct, .slice ps ls cs, .int .i64 sky, .int .i64 st], .int .i64 e, .agg #[.slice pb2 lb2 cb2, .slice pw2 lw2 cw2, .slice pt2 lt2 ct2, .slice ps2 ls2 cs2, .int .i64 sky2, .int .i64 st2]] w fun e w' => e = .returned (.bool true) ∧ Below w.heap.size w w' := by
  have A0 : Hid (Ab w ((w.alloc (.cells #[.int .i64 side, .int .i64 lim, .slice pb lb cb, .slice pw lw cw, .slice pt lt ct, .slice ps ls cs, .int .i64 sky, .int .i64 st] 27)).alloc (.cells #[.slice pb2 lb2 cb2, .slice pw2 lw2 cw2, .slice pt2 lt2 ct2, .slice ps2 ls2 cs2, .int .i64 sky2, .int .i64 st2] 25))) := bl2 _ _ _
  have RO0 : Hid (((w.alloc (.cells #[.int .i64 side, .int .i64 lim, .slice pb lb cb, .slice pw lw cw, .slice pt lt ct, .slice ps ls cs, .int .i64 sky, .int .i64 st] 27)).alloc (.cells #[.slice pb2 lb2 cb2, .slice pw2 lw2 cw2, .slice pt2 lt2 ct2, .slice ps2 ls2 cs2, .int .i64 sky2, .int .i64 st2] 25)).heap[w.heap.size]? = some (.cells #[.int .i64 side, .int .i64 lim, .slice pb lb cb, .slice pw lw cw, .slice pt lt ct, .slice ps ls cs, .int .i64 sky, .int .i64 st] 27)) := heap_alloc2_old _ _ _
  have OR0 : Hid (((w.alloc (.cells #[.int .i64 side, .int .i64 lim, .slice pb lb cb, .slice pw lw cw, .slice pt lt ct, .slice ps ls cs, .int .i64 sky, .int .i64 st] 27)).alloc (.cells #[.slice pb2 lb2 cb2, .slice pw2 lw2 cw2, .slice pt2 lt2 ct2, .slice ps2 ls2 cs2, .int .i64 sky2, .int .i64 st2] 25)).heap[w.heap.size + 1]? = some (.cells #[.slice pb2 lb2 cb2, .slice pw2 lw2 cw2, .slice pt2 lt2 ct2, .slice ps2 ls2 cs2, .int .i64 sky2, .int .i64 st2] 25)) := heap_alloc2_new _ _ _
  go_enter Tryd.func3, Tryd.ntmps3
  go_wp2_with fail
  refine (AWK.out _ A0.out).mono ?_
  rintro e9 v1 ⟨rfl, k1⟩
  have A1 : Hid (Ab w v1) := A0.out.call k1
  have RO1 : Hid (v1.heap[w.heap.size]? = some (.cells #[.int .i64 side, .int .i64 lim, .slice pb lb cb, .slice pw lw cw, .slice pt lt ct, .slice ps ls cs, .int .i64 sky, .int .i64 st] 27)) := Ab.heap k1 RO0.out
  have _OR1 : Hid (v1.heap[w.heap.size + 1]? = some (.cells #[.slice pb2 lb2 cb2, .slice pw2 lw2 cw2, .slice pt2 lt2 ct2, .slice ps2 ls2 cs2, .int .i64 sky2, .int .i64 st2] 25)) := Ab.heap k1 OR0.out
  clear k1 RO0 A0 OR0
  have c0 := cell_of_row _ _ 0 _ _ _ (RO1.out)
  have c1 := cell_of_row _ _ 1 _ _ _ (RO1.out)
  have c2 := cell_of_row _ _ 2 _ _ _ (RO1.out)
  have c3 := cell_of_row _ _ 3 _ _ _ (RO1.out)
  have c4 := cell_of_row _ _ 4 _ _ _ (RO1.out)
  have c5 := cell_of_row _ _ 5 _ _ _ (RO1.out)
  have c6 := cell_of_row _ _ 6 _ _ _ (RO1.out)
  have c7 := cell_of_row _ _ 7 _ _ _ (RO1.out)
  go_wp2_with fail
  refine (NT.out _ A1.out).mono ?_
  rintro e9 v2 ⟨gp, rfl, k2⟩
  have A2 : Hid (Ab w v2) := A1.out.call k2
  clear k2
  clear c0 c1 c2 c3 c4 c5 c6 c7
  go_wp2
  go_ret
  exact ⟨rfl, A2.out⟩
set_option maxRecDepth 100000 in
set_option maxHeartbeats 16000000 in
theorem local12_big (side lim : Int) (bb bo wb wo M : Nat) (pt ps : Option Addr) (cb cw lt ct ls cs : Nat) (sky st : Int) (pb2 pw2 pt2 ps2 : Option Addr) (lb2 cb2 lw2 cw2 lt2 ct2 ls2 cs2 : Nat) (sky2 st2 : Int) (e : Int) (n : Nat) (w : World) (h8 : 8 < (n : Int))
    (AWK : Hid (∀ v, Ab w v → Calls Tryd.prog 5 #[] v fun e w' => e = .returned (.bool true) ∧ Below v.heap.size v w'))
    (NT : Hid (∀ v, Ab w v → Calls Tryd.prog 6 #[.agg #[.int .i64 side, .int .i64 lim, .slice (some ⟨bb, bo, none⟩) M cb, .slice (some ⟨wb, wo, none⟩) M cw, .slice pt lt ct, .slice ps ls cs, .int .i64 sky, .int .i64 st]] v fun e' w' => ∃ gb, e' = .returned (.tuple #[.pointer (some ⟨gb, 0, none⟩), .bool true]) ∧ Below v.heap.size v w' ∧ GridOf n gb w'))
    (CI : Hid (∀ gb v, GridOf n gb v → Calls Tryd.prog 7 #[.pointer (some ⟨gb, 0, none⟩)] v fun e w' => e = .returned (.int .i64 (n : Nat)) ∧ w' = v)) :
    Calls Tryd.prog 3 #[.agg #[.int .i64 side, .int .i64 lim, .slice (some ⟨bb, bo, none⟩) M cb, .slice (some ⟨wb, wo, none⟩) M cw, .slice pt lt ct, .slice ps ls cs, .int .i64 sky, .int .i64 st], .int .i64 e, .agg #[.slice pb2 lb2 cb2, .slice pw2 lw2 cw2, .slice pt2 lt2 ct2, .slice ps2 ls2 cs2, .int .i64 sky2, .int .i64 st2]] w fun e w' => e = .returned (.bool true) ∧ Below w.heap.size w w' := by
  have A0 : Hid (Ab w ((w.alloc (.cells #[.int .i64 side, .int .i64 lim, .slice (some ⟨bb, bo, none⟩) M cb, .slice (some ⟨wb, wo, none⟩) M cw, .slice pt lt ct, .slice ps ls cs, .int .i64 sky, .int .i64 st] 27)).alloc (.cells #[.slice pb2 lb2 cb2, .slice pw2 lw2 cw2, .slice pt2 lt2 ct2, .slice ps2 ls2 cs2, .int .i64 sky2, .int .i64 st2] 25))) := bl2 _ _ _
  have RO0 : Hid (((w.alloc (.cells #[.int .i64 side, .int .i64 lim, .slice (some ⟨bb, bo, none⟩) M cb, .slice (some ⟨wb, wo, none⟩) M cw, .slice pt lt ct, .slice ps ls cs, .int .i64 sky, .int .i64 st] 27)).alloc (.cells #[.slice pb2 lb2 cb2, .slice pw2 lw2 cw2, .slice pt2 lt2 ct2, .slice ps2 ls2 cs2, .int .i64 sky2, .int .i64 st2] 25)).heap[w.heap.size]? = some (.cells #[.int .i64 side, .int .i64 lim, .slice (some ⟨bb, bo, none⟩) M cb, .slice (some ⟨wb, wo, none⟩) M cw, .slice pt lt ct, .slice ps ls cs, .int .i64 sky, .int .i64 st] 27)) := heap_alloc2_old _ _ _
  have OR0 : Hid (((w.alloc (.cells #[.int .i64 side, .int .i64 lim, .slice (some ⟨bb, bo, none⟩) M cb, .slice (some ⟨wb, wo, none⟩) M cw, .slice pt lt ct, .slice ps ls cs, .int .i64 sky, .int .i64 st] 27)).alloc (.cells #[.slice pb2 lb2 cb2, .slice pw2 lw2 cw2, .slice pt2 lt2 ct2, .slice ps2 ls2 cs2, .int .i64 sky2, .int .i64 st2] 25)).heap[w.heap.size + 1]? = some (.cells #[.slice pb2 lb2 cb2, .slice pw2 lw2 cw2, .slice pt2 lt2 ct2, .slice ps2 ls2 cs2, .int .i64 sky2, .int .i64 st2] 25)) := heap_alloc2_new _ _ _
  go_enter Tryd.func3, Tryd.ntmps3
  go_wp2_with fail
  refine (AWK.out _ A0.out).mono ?_
  rintro e9 v1 ⟨rfl, k1⟩
  have A1 : Hid (Ab w v1) := A0.out.call k1
  have RO1 : Hid (v1.heap[w.heap.size]? = some (.cells #[.int .i64 side, .int .i64 lim, .slice (some ⟨bb, bo, none⟩) M cb, .slice (some ⟨wb, wo, none⟩) M cw, .slice pt lt ct, .slice ps ls cs, .int .i64 sky, .int .i64 st] 27)) := Ab.heap k1 RO0.out
  have OR1 : Hid (v1.heap[w.heap.size + 1]? = some (.cells #[.slice pb2 lb2 cb2, .slice pw2 lw2 cw2, .slice pt2 lt2 ct2, .slice ps2 ls2 cs2, .int .i64 sky2, .int .i64 st2] 25)) := Ab.heap k1 OR0.out
  clear k1 RO0 A0 OR0
  have c0 := cell_of_row _ _ 0 _ _ _ (RO1.out)
  have c1 := cell_of_row _ _ 1 _ _ _ (RO1.out)
  have c2 := cell_of_row _ _ 2 _ _ _ (RO1.out)
  have c3 := cell_of_row _ _ 3 _ _ _ (RO1.out)
  have c4 := cell_of_row _ _ 4 _ _ _ (RO1.out)
  have c5 := cell_of_row _ _ 5 _ _ _ (RO1.out)
  have c6 := cell_of_row _ _ 6 _ _ _ (RO1.out)
  have c7 := cell_of_row _ _ 7 _ _ _ (RO1.out)
  go_wp2_with fail
  refine (NT.out _ A1.out).mono ?_
  rintro e9 W ⟨gb, rfl, k2, g2⟩
  have AW : Hid (Ab w W) := A1.out.call k2
  have RO : Hid (W.heap[w.heap.size]? = some (.cells #[.int .i64 side, .int .i64 lim, .slice (some ⟨bb, bo, none⟩) M cb, .slice (some ⟨wb, wo, none⟩) M cw, .slice pt lt ct, .slice ps ls cs, .int .i64 sky, .int .i64 st] 27)) := Ab.heap k2 RO1.out
  have OR : Hid (W.heap[w.heap.size + 1]? = some (.cells #[.slice pb2 lb2 cb2, .slice pw2 lw2 cw2, .slice pt2 lt2 ct2, .slice ps2 ls2 cs2, .int .i64 sky2, .int .i64 st2] 25)) := Ab.heap k2 OR1.out
  have GG := hid g2
  clear k2 g2 RO1 OR1 A1
  clear c0 c1 c2 c3 c4 c5 c6 c7
  go_wp2_with fail
  refine (CI.out _ _ GG.out).mono ?_
  rintro e9 vq ⟨rfl, hvq⟩
  have hvq2 := hvq.symm
  subst hvq2
  go_wp2
  go_ret
  exact ⟨rfl, AW.out⟩
set_option maxRecDepth 100000 in
set_option maxHeartbeats 32000000 in
theorem local12_go (side lim : Int) (bb bo wb wo M : Nat) (pt ps : Option Addr) (cb cw lt ct ls cs : Nat) (sky st : Int) (pb2 pw2 pt2 ps2 : Option Addr) (lb2 cb2 lw2 cw2 lt2 ct2 ls2 cs2 : Nat) (sky2 st2 : Int) (e : Int) (n N E Lf S R Q p q : Nat) (d : Nat) (B B2 : Nat → Nat) (Wt W2 : Nat → Int) (w : World) (hM : M ≤ 6144) (h8 : ¬ 8 < (n : Int))
    (AWK : Hid (∀ v, Ab w v → Calls Tryd.prog 5 #[] v fun e w' => e = .returned (.bool true) ∧ Below v.heap.size v w'))
    (NT : Hid (∀ v, Ab w v → Calls Tryd.prog 6 #[.agg #[.int .i64 side, .int .i64 lim, .slice (some ⟨bb, bo, none⟩) M cb, .slice (some ⟨wb, wo, none⟩) M cw, .slice pt lt ct, .slice ps ls cs, .int .i64 sky, .int .i64 st]] v fun e' w' => ∃ gb, e' = .returned (.tuple #[.pointer (some ⟨gb, 0, none⟩), .bool true]) ∧ Below v.heap.size v w' ∧ GridOf n gb w'))
    (CC : Hid (∀ gb v, GridOf n gb v → Calls Tryd.prog 12 #[.pointer (some ⟨gb, 0, none⟩)] v fun e w' => e = .returned (.int .i64 (M : Nat)) ∧ w' = v))
    (CI : Hid (∀ gb v, GridOf n gb v → Calls Tryd.prog 7 #[.pointer (some ⟨gb, 0, none⟩)] v fun e w' => e = .returned (.int .i64 (n : Nat)) ∧ w' = v))
    (CE : Hid (∀ gb v, GridOf n gb v → Calls Tryd.prog 9 #[.pointer (some ⟨gb, 0, none⟩)] v fun e w' => e = .returned (.int .i64 (N : Nat)) ∧ Below v.heap.size v w'))
    (CW2 : Hid (∀ v : World, Calls Tryd.prog 8 #[.int .i64 e, .int .i64 (N : Nat)] v fun e w' => e = .returned (.int .i64 (E : Nat)) ∧ Below v.heap.size v w'))
    (CX : Hid (∀ gb v, GridOf n gb v → Calls Tryd.prog 10 #[.pointer (some ⟨gb, 0, none⟩), .int .i64 (E : Nat)] v fun e w' => e = .returned (.tuple #[.agg #[.int .i64 (Lf : Nat), .int .i64 (S : Nat), .int .i64 (R : Nat), .int .i64 (Q : Nat)], .bool true]) ∧ Below v.heap.size v w'))
    (CB : Hid (∀ gb v, GridOf n gb v → Calls Tryd.prog 11 #[.pointer (some ⟨gb, 0, none⟩), .int .i64 (E : Nat)] v fun e w' => e = .returned (.tuple #[.int .i64 (p : Nat), .int .i64 (q : Nat), .bool true]) ∧ Below v.heap.size v w'))
    (FB : Hid (∀ c, c < M → ∀ v, Ab w v → v.cell? ⟨bb, bo + c, none⟩ = some (.float .f64 (B c)))) (FA : Hid (∀ c, c < M → ∀ v, Ab w v → v.cell? ⟨wb, wo + c, none⟩ = some (.int .i64 (Wt c))))
    (LB : Hid (∀ c, c < M → B c < 18446744073709551616)) (LW : Hid (∀ c, c < M → -9223372036854775808 ≤ Wt c ∧ Wt c ≤ 9223372036854775807))
    (OB : Hid (IsFl w pb2 lb2 B2)) (OA : Hid (IsIn w pw2 lw2 W2))
    (D0 : Hid (∀ gb v, GridOf n gb v → Ab w v → Calls Tryd.prog 14 #[.pointer (some ⟨gb, 0, none⟩), .int .i64 lim, .agg #[.slice (some ⟨bb, bo, none⟩) M cb, .slice (some ⟨wb, wo, none⟩) M cw, .slice pt lt ct, .slice ps ls cs, .int .i64 sky, .int .i64 st], .int .i64 (E : Nat), .float .f64 4607182418800017408] v fun e w' => e = .returned (.float .f64 d) ∧ Below v.heap.size v w'))
    (D2 : Hid (∀ bB bW fb fw gb v, GridOf n gb v → Ab w v → IsFl v (some ⟨bB, 0, none⟩) M fb → IsIn v (some ⟨bW, 0, none⟩) M fw → (∀ j, j < M → (j = Lf ∨ j = R → fb j = B j) ∧ (j = Lf ∨ j = R ∨ j = p → fw j = Wt j)) → Calls Tryd.prog 14 #[.pointer (some ⟨gb, 0, none⟩), .int .i64 lim, .agg #[.slice (some ⟨bB, 0, none⟩) M M, .slice (some ⟨bW, 0, none⟩) M M, .slice none 0 0, .slice ps2 ls2 cs2, .int .i64 0, .int .i64 0], .int .i64 (E : Nat), .float .f64 4607182418800017408] v fun e w' => e = .returned (.float .f64 d) ∧ Below v.heap.size v w')) :
    Calls Tryd.prog 3 #[.agg #[.int .i64 side, .int .i64 lim, .slice (some ⟨bb, bo, none⟩) M cb, .slice (some ⟨wb, wo, none⟩) M cw, .slice pt lt ct, .slice ps ls cs, .int .i64 sky, .int .i64 st], .int .i64 e, .agg #[.slice pb2 lb2 cb2, .slice pw2 lw2 cw2, .slice pt2 lt2 ct2, .slice ps2 ls2 cs2, .int .i64 sky2, .int .i64 st2]] w fun e w' => e = .returned (.bool true) ∧ Below w.heap.size w w' := by
  have SS : Hid (∀ (x : Nat) (v : World), Calls Tryd.prog 13 #[.float .f64 x, .float .f64 x] v fun e w' => e = .returned (.bool true) ∧ Below v.heap.size v w') := fun x v => by
    have h := rawSame_any x x v
    rw [show sameB x x = true by unfold sameB; exact decide_eq_true rfl] at h
    exact h.mono fun _ _ ⟨he, hw⟩ => ⟨he, by rw [hw]; exact Below.refl _ _⟩
  have HM := hid hM
  clear hM
  have A0 : Hid (Ab w ((w.alloc (.cells #[.int .i64 side, .int .i64 lim, .slice (some ⟨bb, bo, none⟩) M cb, .slice (some ⟨wb, wo, none⟩) M cw, .slice pt lt ct, .slice ps ls cs, .int .i64 sky, .int .i64 st] 27)).alloc (.cells #[.slice pb2 lb2 cb2, .slice pw2 lw2 cw2, .slice pt2 lt2 ct2, .slice ps2 ls2 cs2, .int .i64 sky2, .int .i64 st2] 25))) := bl2 _ _ _
  have RO0 : Hid (((w.alloc (.cells #[.int .i64 side, .int .i64 lim, .slice (some ⟨bb, bo, none⟩) M cb, .slice (some ⟨wb, wo, none⟩) M cw, .slice pt lt ct, .slice ps ls cs, .int .i64 sky, .int .i64 st] 27)).alloc (.cells #[.slice pb2 lb2 cb2, .slice pw2 lw2 cw2, .slice pt2 lt2 ct2, .slice ps2 ls2 cs2, .int .i64 sky2, .int .i64 st2] 25)).heap[w.heap.size]? = some (.cells #[.int .i64 side, .int .i64 lim, .slice (some ⟨bb, bo, none⟩) M cb, .slice (some ⟨wb, wo, none⟩) M cw, .slice pt lt ct, .slice ps ls cs, .int .i64 sky, .int .i64 st] 27)) := heap_alloc2_old _ _ _
  have OR0 : Hid (((w.alloc (.cells #[.int .i64 side, .int .i64 lim, .slice (some ⟨bb, bo, none⟩) M cb, .slice (some ⟨wb, wo, none⟩) M cw, .slice pt lt ct, .slice ps ls cs, .int .i64 sky, .int .i64 st] 27)).alloc (.cells #[.slice pb2 lb2 cb2, .slice pw2 lw2 cw2, .slice pt2 lt2 ct2, .slice ps2 ls2 cs2, .int .i64 sky2, .int .i64 st2] 25)).heap[w.heap.size + 1]? = some (.cells #[.slice pb2 lb2 cb2, .slice pw2 lw2 cw2, .slice pt2 lt2 ct2, .slice ps2 ls2 cs2, .int .i64 sky2, .int .i64 st2] 25)) := heap_alloc2_new _ _ _
  go_enter Tryd.func3, Tryd.ntmps3
  go_wp2_with fail
  refine (AWK.out _ A0.out).mono ?_
  rintro e9 v1 ⟨rfl, k1⟩
  have A1 : Hid (Ab w v1) := A0.out.call k1
  have RO1 : Hid (v1.heap[w.heap.size]? = some (.cells #[.int .i64 side, .int .i64 lim, .slice (some ⟨bb, bo, none⟩) M cb, .slice (some ⟨wb, wo, none⟩) M cw, .slice pt lt ct, .slice ps ls cs, .int .i64 sky, .int .i64 st] 27)) := Ab.heap k1 RO0.out
  have OR1 : Hid (v1.heap[w.heap.size + 1]? = some (.cells #[.slice pb2 lb2 cb2, .slice pw2 lw2 cw2, .slice pt2 lt2 ct2, .slice ps2 ls2 cs2, .int .i64 sky2, .int .i64 st2] 25)) := Ab.heap k1 OR0.out
  clear k1 RO0 A0 OR0
  have c0 := cell_of_row _ _ 0 _ _ _ (RO1.out)
  have c1 := cell_of_row _ _ 1 _ _ _ (RO1.out)
  have c2 := cell_of_row _ _ 2 _ _ _ (RO1.out)
  have c3 := cell_of_row _ _ 3 _ _ _ (RO1.out)
  have c4 := cell_of_row _ _ 4 _ _ _ (RO1.out)
  have c5 := cell_of_row _ _ 5 _ _ _ (RO1.out)
  have c6 := cell_of_row _ _ 6 _ _ _ (RO1.out)
  have c7 := cell_of_row _ _ 7 _ _ _ (RO1.out)
  go_wp2_with fail
  refine (NT.out _ A1.out).mono ?_
  rintro e9 Wa ⟨gb, rfl, k2, g2⟩
  have AWa : Hid (Ab w Wa) := A1.out.call k2
  have ROa : Hid (Wa.heap[w.heap.size]? = some (.cells #[.int .i64 side, .int .i64 lim, .slice (some ⟨bb, bo, none⟩) M cb, .slice (some ⟨wb, wo, none⟩) M cw, .slice pt lt ct, .slice ps ls cs, .int .i64 sky, .int .i64 st] 27)) := Ab.heap k2 RO1.out
  have ORa : Hid (Wa.heap[w.heap.size + 1]? = some (.cells #[.slice pb2 lb2 cb2, .slice pw2 lw2 cw2, .slice pt2 lt2 ct2, .slice ps2 ls2 cs2, .int .i64 sky2, .int .i64 st2] 25)) := Ab.heap k2 OR1.out
  have GGa := hid g2
  clear k2 g2 RO1 OR1 A1
  clear c0 c1 c2 c3 c4 c5 c6 c7
  go_wp2_with fail
  refine (CI.out _ _ GGa.out).mono ?_
  rintro e9 vq ⟨rfl, hvq⟩
  have hvq2 := hvq.symm
  subst hvq2
  go_wp2_with fail
  refine (CE.out _ _ GGa.out).mono ?_
  rintro e9 v3 ⟨rfl, k3⟩
  have A3 : Hid (Ab Wa v3) := k3
  clear k3
  go_wp2_with fail
  refine (CW2.out _).mono ?_
  rintro e9 v4 ⟨rfl, k4⟩
  have A4 : Hid (Ab Wa v4) := A3.out.call k4
  clear k4 A3
  go_wp2_with fail
  refine (CX.out _ _ (GGa.out.to A4.out)).mono ?_
  rintro e9 v5 ⟨rfl, k5⟩
  have A5 : Hid (Ab Wa (v5.alloc (.cells #[.int .i64 (Lf : Nat), .int .i64 (S : Nat), .int .i64 (R : Nat), .int .i64 (Q : Nat)] 35))) := (A4.out.call k5).alloc _
  have ER5 : Hid ((v5.alloc (.cells #[.int .i64 (Lf : Nat), .int .i64 (S : Nat), .int .i64 (R : Nat), .int .i64 (Q : Nat)] 35)).heap[v5.heap.size]? = some (.cells #[.int .i64 (Lf : Nat), .int .i64 (S : Nat), .int .i64 (R : Nat), .int .i64 (Q : Nat)] 35)) := heap_alloc_new _ _
  clear k5 A4
  go_wp2_with fail
  refine (CB.out _ _ (GGa.out.to A5.out)).mono ?_
  rintro e9 W ⟨rfl, k6⟩
  obtain ⟨ge, hge⟩ : ∃ g, v5.heap.size = g := ⟨_, rfl⟩
  have A6 : Hid (Ab Wa W) := A5.out.call k6
  have AW : Hid (Ab w W) := AWa.out.trans A6.out
  have RO : Hid (W.heap[w.heap.size]? = some (.cells #[.int .i64 side, .int .i64 lim, .slice (some ⟨bb, bo, none⟩) M cb, .slice (some ⟨wb, wo, none⟩) M cw, .slice pt lt ct, .slice ps ls cs, .int .i64 sky, .int .i64 st] 27)) := A6.out.heap ROa.out
  have OR : Hid (W.heap[w.heap.size + 1]? = some (.cells #[.slice pb2 lb2 cb2, .slice pw2 lw2 cw2, .slice pt2 lt2 ct2, .slice ps2 ls2 cs2, .int .i64 sky2, .int .i64 st2] 25)) := A6.out.heap ORa.out
  have GG : Hid (GridOf n gb W) := GGa.out.to A6.out
  have ERW : Hid (W.heap[ge]? = some (.cells #[.int .i64 (Lf : Nat), .int .i64 (S : Nat), .int .i64 (R : Nat), .int .i64 (Q : Nat)] 35)) := by rw [← hge]; exact Ab.heap k6 ER5.out
  clear k6 A5 A6 ER5 AWa ROa ORa GGa
  rw [hge]
  clear hge
  have M1 : ∀ v : World, (Instr.makeSlice 22 (.int .i64 (M : Nat)) (.int .i64 (M : Nat))).run Tryd.prog v = .ok (.slice (some ⟨v.heap.size, 0, none⟩) M M) (v.alloc (Obj.cells (madeCells #[.float .f64 0] M) 40)) := fun v =>
    run_make_row' (P := Tryd.prog) 22 40 (.float .f64 0) 8 Tryd.underlying22 infoF64 rfl .i64 .i64 M (by have := HM.out; omega) (by have := HM.out; omega) v
  have M2 : ∀ v : World, (Instr.makeSlice 23 (.int .i64 (M : Nat)) (.int .i64 (M : Nat))).run Tryd.prog v = .ok (.slice (some ⟨v.heap.size, 0, none⟩) M M) (v.alloc (Obj.cells (madeCells #[.int .i64 0] M) 2)) := fun v =>
    run_make_row' (P := Tryd.prog) 23 2 (.int .i64 0) 8 Tryd.underlying23 info64 rfl .i64 .i64 M (by have := HM.out; omega) (by have := HM.out; omega) v
  have CC0 : Hid (∀ v, Ab W v → Calls Tryd.prog 12 #[.pointer (some ⟨gb, 0, none⟩)] v fun e w' => e = .returned (.int .i64 (M : Nat)) ∧ w' = v) := fun v hv => CC.out gb v (GG.out.to hv)
  have c3 := cell_of_row _ _ 3 _ _ _ (OR.out)
  have lw0 : w.heap.size + 1 < W.heap.size := lt_of_block OR.out
  have lw1 : w.heap.size + 1 < W.heap.size + 1 := by omega
  have lw2 : w.heap.size + 1 < W.heap.size + 1 + 1 := by omega
  go_upto_region 9 with fail
  go_cut [15] from 48 to 56 (fun s15 wx => ∃ g bB bW, s15 = .pointer (some ⟨g, 0, none⟩) ∧ Ab W wx ∧ wx.heap[g]? = some (.cells #[.slice (some ⟨bB, 0, none⟩) M M, .slice (some ⟨bW, 0, none⟩) M M, .slice none 0 0, .slice ps2 ls2 cs2, .int .i64 0, .int .i64 0] 25) ∧ wx.heap[bB]? = some (Obj.cells (madeCells #[.float .f64 0] M) 40) ∧ wx.heap[bW]? = some (Obj.cells (madeCells #[.int .i64 0] M) 2) ∧ Apart3 W g bB bW)
  case first =>
    have KS : Hid (∀ w', Ab W w' → Ab W w' ∧ w'.cell? ⟨w.heap.size + 1, 3, none⟩ = some (.slice ps2 ls2 cs2)) := fun w' h => ⟨h, cell_of_row _ _ 3 _ _ _ (h.heap OR.out)⟩
    have AWW : Ab W W := Ab.refl W
    clear c3 lw0 lw1 lw2
    go_region_held3 (fun w' => Ab W w' ∧ w'.cell? ⟨w.heap.size + 1, 3, none⟩ = some (.slice ps2 ls2 cs2)) ((refine KS.out _ ?_; (with_reducible (repeat (first | assumption | apply Ab.drew | apply Ab.drewN | apply Ab.alloc))); done)) (first
      | (go_at_call 12; refine (CC0.out _ (by with_reducible (repeat (first | assumption | apply Ab.drew | apply Ab.drewN | apply Ab.alloc)))).mono ?_; rintro e9 vq ⟨rfl, hvq⟩; have hvq2 := hvq.symm; subst hvq2))
    all_goals go_wp2_with fail
    all_goals go_meet
    all_goals refine' ⟨_, _, _, rfl, three_ab (Ab.refl W) _ _ _, (by first | exact (three_of W _ _ _).1 | exact (three_of W _ _ _).2.1 | exact (three_of W _ _ _).2.2), ?_, ?_, ⟨⟨?_, ?_⟩, ?_, ?_, ?_⟩⟩
    all_goals first
      | exact (three_of W _ _ _).1
      | exact (three_of W _ _ _).2.1
      | exact (three_of W _ _ _).2.2
      | omega
  case rest =>
    obtain ⟨g, bB, bW, rfl, a7, r7, rb1, rb2, ap⟩ := hcut
    have OW := hid (OwnSea.made a7 r7 rb1 rb2)
    have AP := hid ap
    clear a7 r7 rb1 rb2 ap M1 M2 CC0 c3 lw0 lw1 lw2
    have IN : Hid (∃ fb fw, OwnSea W g bB bW M #[.slice (some ⟨bB, 0, none⟩) M M, .slice (some ⟨bW, 0, none⟩) M M, .slice none 0 0, .slice ps2 ls2 cs2, .int .i64 0, .int .i64 0] fb fw wc ∧ (∀ i, i < M → fb i < 18446744073709551616 ∧ (-9223372036854775808 ≤ fw i ∧ fw i ≤ 9223372036854775807)) ∧ (∀ j, j < 0 → (j = Lf ∨ j = R → fb j = B j) ∧ (j = Lf ∨ j = R ∨ j = p → fw j = Wt j))) := ⟨_, _, OW.out, fun i _ => by decide, fun j hj => absurd hj (Nat.not_lt_zero j)⟩
    clear OW
    go_wp2
    go_loopw [16] (fun iv wr => ∃ c : Nat, c ≤ M ∧ iv = .int .i64 (c : Nat) ∧ ∃ fb fw, OwnSea W g bB bW M #[.slice (some ⟨bB, 0, none⟩) M M, .slice (some ⟨bW, 0, none⟩) M M, .slice none 0 0, .slice ps2 ls2 cs2, .int .i64 0, .int .i64 0] fb fw wr ∧ (∀ i, i < M → fb i < 18446744073709551616 ∧ (-9223372036854775808 ≤ fw i ∧ fw i ≤ 9223372036854775807)) ∧ (∀ j, j < c → (j = Lf ∨ j = R → fb j = B j) ∧ (j = Lf ∨ j = R ∨ j = p → fw j = Wt j))) (fun iv _ => M - (intOf iv).toNat)
    case atStart => exact ⟨0, by omega, rfl, IN.out⟩
    case round =>
      obtain ⟨c, hc, rfl, fb, fw, ow, bd, ps1⟩ := hrel
      clear IN
      have OW := hid ow
      have BD := hid bd
      have PS := hid ps1
      clear ow bd ps1
      have AR : Hid (Ab W wr) := OW.out.1
      by_cases hcM : c < M
      · have HC := hid hcM
        have hcI : (c : Int) < M := by omega
        have hcB : (c : Int) ≤ 6144 := by have := HM.out; omega
        obtain ⟨bc, hbc⟩ : ∃ x, B c = x := ⟨_, rfl⟩
        obtain ⟨wcc, hwc⟩ : ∃ x, Wt c = x := ⟨_, rfl⟩
        have HBC := hid hbc
        have HWC := hid hwc
        clear hbc hwc hcM
        go_wp2_with fail
        refine (CC.out _ _ (GG.out.to AR.out)).mono ?_
        rintro e9 vq ⟨rfl, hvq⟩
        have hvq2 := hvq.symm
        subst hvq2
        go_upto_region 13 with fail
        obtain ⟨UU, E1, hF1, hF2⟩ := cls wr
        have HU := hid hF2
        have HU1 := hid hF1
        have HV : Hid (∀ u, Ab wr (E1 u)) := fun u => (hid (Ab.refl wr)).out.trans (hF1 u)
        have xs : ∀ u, (E1 u).cell? ⟨g, 0, none⟩ = some (.slice (some ⟨bB, 0, none⟩) M M) := fun u => cell_of_row _ _ 0 _ _ _ ((HV.out u).heap OW.out.2.1)
        have xa : ∀ u, (E1 u).cell? ⟨w.heap.size, 2, none⟩ = some (.slice (some ⟨bb, bo, none⟩) M cb) := fun u => cell_of_row _ _ 2 _ _ _ ((AR.out.trans (HV.out u)).heap RO.out)
        have xb : ∀ u, (E1 u).cell? ⟨bb, bo + c, none⟩ = some (.float .f64 bc) := fun u => (FB.out c HC.out _ (AW.out.trans (AR.out.trans (HV.out u)))).trans (by rw [HBC.out])
        have DD0 := HU.out _ (Ab.refl wr).drew
        clear hF1 hF2
        refine region_tail 10 E1 (by kernel_rfl) (by kernel_rfl) (by kernel_rfl) DD0 ?_
        simp only [List.take_succ_cons, List.take_zero, List.drop_succ_cons, List.drop_zero]
        repeat (go_big_quiet_step (first
          | (with_reducible rfl)))
        refine wpQuiet_nil ?_
        intro z1 hwz
        obtain ⟨u0, hu⟩ := hwz
        have AZ1 : Hid (Ab wr z1) := by rw [hu]; exact HV.out u0
        clear hu u0
        clear HU HU1 HV  DD0 xs xa xb
        clear E1 UU
        have O1a := hid (OW.out.to AZ1.out)
        have xc := O1a.out.2.2.1.cell HC.out
        have xf := O1a.out.2.2.1.frozen c
        clear AZ1 OW
        clear AR
        go_upto_region 14 with fail
        have O1 := hid (O1a.out.setB AP.out c bc)
        clear xc xf O1a
        generalize World.setCell z1 _ _ = v7 at *
        have AR : Hid (Ab W v7) := O1.out.1
        obtain ⟨UU, E1, hF1, hF2⟩ := cls v7
        have HU := hid hF2
        have HU1 := hid hF1
        have HV : Hid (∀ u, Ab v7 (E1 u)) := fun u => (hid (Ab.refl v7)).out.trans (hF1 u)
        have xs : ∀ u, (E1 u).cell? ⟨g, 1, none⟩ = some (.slice (some ⟨bW, 0, none⟩) M M) := fun u => cell_of_row _ _ 1 _ _ _ ((HV.out u).heap O1.out.2.1)
        have xa : ∀ u, (E1 u).cell? ⟨w.heap.size, 3, none⟩ = some (.slice (some ⟨wb, wo, none⟩) M cw) := fun u => cell_of_row _ _ 3 _ _ _ ((AR.out.trans (HV.out u)).heap RO.out)
        have xb : ∀ u, (E1 u).cell? ⟨wb, wo + c, none⟩ = some (.int .i64 wcc) := fun u => (FA.out c HC.out _ (AW.out.trans (AR.out.trans (HV.out u)))).trans (by rw [HWC.out])
        have DD0 := HU.out _ (Ab.refl v7).drew
        clear hF1 hF2
        refine region_tail 10 E1 (by kernel_rfl) (by kernel_rfl) (by kernel_rfl) DD0 ?_
        simp only [List.take_succ_cons, List.take_zero, List.drop_succ_cons, List.drop_zero]
        repeat (go_big_quiet_step (first
          | (with_reducible rfl)))
        refine wpQuiet_nil ?_
        intro z2 hwz
        obtain ⟨u0, hu⟩ := hwz
        have AZ2 : Hid (Ab v7 z2) := by rw [hu]; exact HV.out u0
        clear hu u0
        clear HU HU1 HV  DD0 xs xa xb
        clear E1 UU
        have O2a := hid (O1.out.to AZ2.out)
        have xc := O2a.out.2.2.2.cell HC.out
        have xf := O2a.out.2.2.2.frozen c
        clear AZ2 O1
        clear AR
        go_upto_region 15 with fail
        have O2 := hid (O2a.out.setW AP.out c wcc)
        clear xc xf O2a
        generalize World.setCell z2 _ _ = v8 at *
        have AR : Hid (Ab W v8) := O2.out.1
        have k4 : c = Lf ∨ (¬ c = Lf ∧ c = R) ∨ (¬ c = Lf ∧ ¬ c = R ∧ c = p) ∨ (¬ c = Lf ∧ ¬ c = R ∧ ¬ c = p) := by omega
        rcases k4 with k4 | ⟨k1, k4⟩ | ⟨k1, k2, k4⟩ | ⟨k1, k2, k4⟩
        · have CL := hid k4
          clear k4
          by_cases A1 : c < lb2
          · replace A1 := hid A1
            by_cases A2 : c < lw2
            · replace A2 := hid A2
              have n1 : ((c : Int) != (Lf : Int)) = false := by rw [CL.out]; simp
              have a1 : c < lb2 := A1.out
              have a2 : c < lw2 := A2.out
              have a1i : decide ((c : Int) < lb2) = true := decide_eq_true (by omega)
              have a2i : decide ((c : Int) < lw2) = true := decide_eq_true (by omega)
              have y0 := cell_of_row _ _ 0 _ _ _ (AR.out.heap OR.out)
              have y1 := cell_of_row _ _ 1 _ _ _ (AR.out.heap OR.out)
              have e0 := cell_of_row _ _ 0 _ _ _ (AR.out.heap ERW.out)
              have e2 := cell_of_row _ _ 2 _ _ _ (AR.out.heap ERW.out)
              go_wp2
              refine ⟨⟨c + 1, by have := HC.out; omega, by simp, _, _, O2.out, ?_, ?_⟩, by simp [intOf]; have := HC.out; omega⟩
              · intro i hi
                have b := BD.out i hi
                have b1 := LB.out c HC.out
                have b2 := LW.out c HC.out
                rw [HBC.out] at b1
                rw [HWC.out] at b2
                refine ⟨?_, ?_⟩
                · by_cases e : i = c
                  · simp [e]; exact b1
                  · simp [e]; exact b.1
                · by_cases e : i = c
                  · simp only [e, if_true]; exact b2
                  · simp only [e, if_false]; exact b.2
              · intro j hj
                by_cases e : j = c
                · rw [e]
                  exact ⟨fun _ => by simp [HBC.out], fun _ => by simp [HWC.out]⟩
                · have q := PS.out j (by omega)
                  simp only [e, if_false]
                  exact q
            · replace A2 := hid A2
              have n1 : ((c : Int) != (Lf : Int)) = false := by rw [CL.out]; simp
              have a1 : c < lb2 := A1.out
              have a2 : ¬ c < lw2 := A2.out
              have a1i : decide ((c : Int) < lb2) = true := decide_eq_true (by omega)
              have a2i : decide ((c : Int) < lw2) = false := decide_eq_false (by omega)
              have y0 := cell_of_row _ _ 0 _ _ _ (AR.out.heap OR.out)
              have y1 := cell_of_row _ _ 1 _ _ _ (AR.out.heap OR.out)
              have e0 := cell_of_row _ _ 0 _ _ _ (AR.out.heap ERW.out)
              have e2 := cell_of_row _ _ 2 _ _ _ (AR.out.heap ERW.out)
              go_wp2
              refine ⟨⟨c + 1, by have := HC.out; omega, by simp, _, _, O2.out, ?_, ?_⟩, by simp [intOf]; have := HC.out; omega⟩
              · intro i hi
                have b := BD.out i hi
                have b1 := LB.out c HC.out
                have b2 := LW.out c HC.out
                rw [HBC.out] at b1
                rw [HWC.out] at b2
                refine ⟨?_, ?_⟩
                · by_cases e : i = c
                  · simp [e]; exact b1
                  · simp [e]; exact b.1
                · by_cases e : i = c
                  · simp only [e, if_true]; exact b2
                  · simp only [e, if_false]; exact b.2
              · intro j hj
                by_cases e : j = c
                · rw [e]
                  exact ⟨fun _ => by simp [HBC.out], fun _ => by simp [HWC.out]⟩
                · have q := PS.out j (by omega)
                  simp only [e, if_false]
                  exact q
          · replace A1 := hid A1
            by_cases A2 : c < lw2
            · replace A2 := hid A2
              have n1 : ((c : Int) != (Lf : Int)) = false := by rw [CL.out]; simp
              have a1 : ¬ c < lb2 := A1.out
              have a2 : c < lw2 := A2.out
              have a1i : decide ((c : Int) < lb2) = false := decide_eq_false (by omega)
              have a2i : decide ((c : Int) < lw2) = true := decide_eq_true (by omega)
              have y0 := cell_of_row _ _ 0 _ _ _ (AR.out.heap OR.out)
              have y1 := cell_of_row _ _ 1 _ _ _ (AR.out.heap OR.out)
              have e0 := cell_of_row _ _ 0 _ _ _ (AR.out.heap ERW.out)
              have e2 := cell_of_row _ _ 2 _ _ _ (AR.out.heap ERW.out)
              go_wp2
              refine ⟨⟨c + 1, by have := HC.out; omega, by simp, _, _, O2.out, ?_, ?_⟩, by simp [intOf]; have := HC.out; omega⟩
              · intro i hi
                have b := BD.out i hi
                have b1 := LB.out c HC.out
                have b2 := LW.out c HC.out
                rw [HBC.out] at b1
                rw [HWC.out] at b2
                refine ⟨?_, ?_⟩
                · by_cases e : i = c
                  · simp [e]; exact b1
                  · simp [e]; exact b.1
                · by_cases e : i = c
                  · simp only [e, if_true]; exact b2
                  · simp only [e, if_false]; exact b.2
              · intro j hj
                by_cases e : j = c
                · rw [e]
                  exact ⟨fun _ => by simp [HBC.out], fun _ => by simp [HWC.out]⟩
                · have q := PS.out j (by omega)
                  simp only [e, if_false]
                  exact q
            · replace A2 := hid A2
              have n1 : ((c : Int) != (Lf : Int)) = false := by rw [CL.out]; simp
              have a1 : ¬ c < lb2 := A1.out
              have a2 : ¬ c < lw2 := A2.out
              have a1i : decide ((c : Int) < lb2) = false := decide_eq_false (by omega)
              have a2i : decide ((c : Int) < lw2) = false := decide_eq_false (by omega)
              have y0 := cell_of_row _ _ 0 _ _ _ (AR.out.heap OR.out)
              have y1 := cell_of_row _ _ 1 _ _ _ (AR.out.heap OR.out)
              have e0 := cell_of_row _ _ 0 _ _ _ (AR.out.heap ERW.out)
              have e2 := cell_of_row _ _ 2 _ _ _ (AR.out.heap ERW.out)
              go_wp2
              refine ⟨⟨c + 1, by have := HC.out; omega, by simp, _, _, O2.out, ?_, ?_⟩, by simp [intOf]; have := HC.out; omega⟩
              · intro i hi
                have b := BD.out i hi
                have b1 := LB.out c HC.out
                have b2 := LW.out c HC.out
                rw [HBC.out] at b1
                rw [HWC.out] at b2
                refine ⟨?_, ?_⟩
                · by_cases e : i = c
                  · simp [e]; exact b1
                  · simp [e]; exact b.1
                · by_cases e : i = c
                  · simp only [e, if_true]; exact b2
                  · simp only [e, if_false]; exact b.2
              · intro j hj
                by_cases e : j = c
                · rw [e]
                  exact ⟨fun _ => by simp [HBC.out], fun _ => by simp [HWC.out]⟩
                · have q := PS.out j (by omega)
                  simp only [e, if_false]
                  exact q
        · have NL := hid k1
          have CL := hid k4
          clear k4 k1
          by_cases A1 : c < lb2
          · replace A1 := hid A1
            by_cases A2 : c < lw2
            · replace A2 := hid A2
              have n1 : ((c : Int) != (Lf : Int)) = true := by rw [bne_iff_ne]; have := NL.out; omega
              have n2 : ((c : Int) != (R : Int)) = false := by rw [CL.out]; simp
              have a1 : c < lb2 := A1.out
              have a2 : c < lw2 := A2.out
              have a1i : decide ((c : Int) < lb2) = true := decide_eq_true (by omega)
              have a2i : decide ((c : Int) < lw2) = true := decide_eq_true (by omega)
              have y0 := cell_of_row _ _ 0 _ _ _ (AR.out.heap OR.out)
              have y1 := cell_of_row _ _ 1 _ _ _ (AR.out.heap OR.out)
              have e0 := cell_of_row _ _ 0 _ _ _ (AR.out.heap ERW.out)
              have e2 := cell_of_row _ _ 2 _ _ _ (AR.out.heap ERW.out)
              go_wp2
              refine ⟨⟨c + 1, by have := HC.out; omega, by simp, _, _, O2.out, ?_, ?_⟩, by simp [intOf]; have := HC.out; omega⟩
              · intro i hi
                have b := BD.out i hi
                have b1 := LB.out c HC.out
                have b2 := LW.out c HC.out
                rw [HBC.out] at b1
                rw [HWC.out] at b2
                refine ⟨?_, ?_⟩
                · by_cases e : i = c
                  · simp [e]; exact b1
                  · simp [e]; exact b.1
                · by_cases e : i = c
                  · simp only [e, if_true]; exact b2
                  · simp only [e, if_false]; exact b.2
              · intro j hj
                by_cases e : j = c
                · rw [e]
                  exact ⟨fun _ => by simp [HBC.out], fun _ => by simp [HWC.out]⟩
                · have q := PS.out j (by omega)
                  simp only [e, if_false]
                  exact q
            · replace A2 := hid A2
              have n1 : ((c : Int) != (Lf : Int)) = true := by rw [bne_iff_ne]; have := NL.out; omega
              have n2 : ((c : Int) != (R : Int)) = false := by rw [CL.out]; simp
              have a1 : c < lb2 := A1.out
              have a2 : ¬ c < lw2 := A2.out
              have a1i : decide ((c : Int) < lb2) = true := decide_eq_true (by omega)
              have a2i : decide ((c : Int) < lw2) = false := decide_eq_false (by omega)
              have y0 := cell_of_row _ _ 0 _ _ _ (AR.out.heap OR.out)
              have y1 := cell_of_row _ _ 1 _ _ _ (AR.out.heap OR.out)
              have e0 := cell_of_row _ _ 0 _ _ _ (AR.out.heap ERW.out)
              have e2 := cell_of_row _ _ 2 _ _ _ (AR.out.heap ERW.out)
              go_wp2
              refine ⟨⟨c + 1, by have := HC.out; omega, by simp, _, _, O2.out, ?_, ?_⟩, by simp [intOf]; have := HC.out; omega⟩
              · intro i hi
                have b := BD.out i hi
                have b1 := LB.out c HC.out
                have b2 := LW.out c HC.out
                rw [HBC.out] at b1
                rw [HWC.out] at b2
                refine ⟨?_, ?_⟩
                · by_cases e : i = c
                  · simp [e]; exact b1
                  · simp [e]; exact b.1
                · by_cases e : i = c
                  · simp only [e, if_true]; exact b2
                  · simp only [e, if_false]; exact b.2
              · intro j hj
                by_cases e : j = c
                · rw [e]
                  exact ⟨fun _ => by simp [HBC.out], fun _ => by simp [HWC.out]⟩
                · have q := PS.out j (by omega)
                  simp only [e, if_false]
                  exact q
          · replace A1 := hid A1
            by_cases A2 : c < lw2
            · replace A2 := hid A2
              have n1 : ((c : Int) != (Lf : Int)) = true := by rw [bne_iff_ne]; have := NL.out; omega
              have n2 : ((c : Int) != (R : Int)) = false := by rw [CL.out]; simp
              have a1 : ¬ c < lb2 := A1.out
              have a2 : c < lw2 := A2.out
              have a1i : decide ((c : Int) < lb2) = false := decide_eq_false (by omega)
              have a2i : decide ((c : Int) < lw2) = true := decide_eq_true (by omega)
              have y0 := cell_of_row _ _ 0 _ _ _ (AR.out.heap OR.out)
              have y1 := cell_of_row _ _ 1 _ _ _ (AR.out.heap OR.out)
              have e0 := cell_of_row _ _ 0 _ _ _ (AR.out.heap ERW.out)
              have e2 := cell_of_row _ _ 2 _ _ _ (AR.out.heap ERW.out)
              go_wp2
              refine ⟨⟨c + 1, by have := HC.out; omega, by simp, _, _, O2.out, ?_, ?_⟩, by simp [intOf]; have := HC.out; omega⟩
              · intro i hi
                have b := BD.out i hi
                have b1 := LB.out c HC.out
                have b2 := LW.out c HC.out
                rw [HBC.out] at b1
                rw [HWC.out] at b2
                refine ⟨?_, ?_⟩
                · by_cases e : i = c
                  · simp [e]; exact b1
                  · simp [e]; exact b.1
                · by_cases e : i = c
                  · simp only [e, if_true]; exact b2
                  · simp only [e, if_false]; exact b.2
              · intro j hj
                by_cases e : j = c
                · rw [e]
                  exact ⟨fun _ => by simp [HBC.out], fun _ => by simp [HWC.out]⟩
                · have q := PS.out j (by omega)
                  simp only [e, if_false]
                  exact q
            · replace A2 := hid A2
              have n1 : ((c : Int) != (Lf : Int)) = true := by rw [bne_iff_ne]; have := NL.out; omega
              have n2 : ((c : Int) != (R : Int)) = false := by rw [CL.out]; simp
              have a1 : ¬ c < lb2 := A1.out
              have a2 : ¬ c < lw2 := A2.out
              have a1i : decide ((c : Int) < lb2) = false := decide_eq_false (by omega)
              have a2i : decide ((c : Int) < lw2) = false := decide_eq_false (by omega)
              have y0 := cell_of_row _ _ 0 _ _ _ (AR.out.heap OR.out)
              have y1 := cell_of_row _ _ 1 _ _ _ (AR.out.heap OR.out)
              have e0 := cell_of_row _ _ 0 _ _ _ (AR.out.heap ERW.out)
              have e2 := cell_of_row _ _ 2 _ _ _ (AR.out.heap ERW.out)
              go_wp2
              refine ⟨⟨c + 1, by have := HC.out; omega, by simp, _, _, O2.out, ?_, ?_⟩, by simp [intOf]; have := HC.out; omega⟩
              · intro i hi
                have b := BD.out i hi
                have b1 := LB.out c HC.out
                have b2 := LW.out c HC.out
                rw [HBC.out] at b1
                rw [HWC.out] at b2
                refine ⟨?_, ?_⟩
                · by_cases e : i = c
                  · simp [e]; exact b1
                  · simp [e]; exact b.1
                · by_cases e : i = c
                  · simp only [e, if_true]; exact b2
                  · simp only [e, if_false]; exact b.2
              · intro j hj
                by_cases e : j = c
                · rw [e]
                  exact ⟨fun _ => by simp [HBC.out], fun _ => by simp [HWC.out]⟩
                · have q := PS.out j (by omega)
                  simp only [e, if_false]
                  exact q
        · have NL := hid k1
          have NR := hid k2
          have CL := hid k4
          clear k4 k1 k2
          by_cases A1 : c < lb2
          · replace A1 := hid A1
            by_cases A2 : c < lw2
            · replace A2 := hid A2
              have n1 : ((c : Int) != (Lf : Int)) = true := by rw [bne_iff_ne]; have := NL.out; omega
              have n2 : ((c : Int) != (R : Int)) = true := by rw [bne_iff_ne]; have := NR.out; omega
              have n3 : ((c : Int) != (p : Int)) = false := by rw [CL.out]; simp
              have a1 : c < lb2 := A1.out
              have a2 : c < lw2 := A2.out
              have a1i : decide ((c : Int) < lb2) = true := decide_eq_true (by omega)
              have a2i : decide ((c : Int) < lw2) = true := decide_eq_true (by omega)
              have y0 := cell_of_row _ _ 0 _ _ _ (AR.out.heap OR.out)
              have y1 := cell_of_row _ _ 1 _ _ _ (AR.out.heap OR.out)
              have e0 := cell_of_row _ _ 0 _ _ _ (AR.out.heap ERW.out)
              have e2 := cell_of_row _ _ 2 _ _ _ (AR.out.heap ERW.out)
              obtain ⟨lb9, b9, o9, rfl, hb9, hx9⟩ := OB.out c A1.out
              have a1c : (c : Int) < lb2 := by omega
              go_upto_region 16 with fail
              clear y0 y1 e0 e2
              obtain ⟨UU, E1, hF1, hF2⟩ := cls v8
              have HU := hid hF2
              have HU1 := hid hF1
              have HV : Hid (∀ u, Ab v8 (E1 u)) := fun u => (hid (Ab.refl v8)).out.trans (hF1 u)
              have xs : ∀ u, (E1 u).cell? ⟨g, 0, none⟩ = some (.slice (some ⟨bB, 0, none⟩) M M) := fun u => cell_of_row _ _ 0 _ _ _ ((HV.out u).heap O2.out.2.1)
              have xa : ∀ u, (E1 u).cell? ⟨w.heap.size + 1, 0, none⟩ = some (.slice (some ⟨b9, o9, none⟩) lb2 cb2) := fun u => cell_of_row _ _ 0 _ _ _ ((AR.out.trans (HV.out u)).heap OR.out)
              have xb : ∀ u, (E1 u).cell? ⟨b9, o9 + c, none⟩ = some (.float .f64 (B2 c)) := fun u => (Below.cell (AW.out.trans (AR.out.trans (HV.out u))) hb9).trans hx9
              have DD0 := HU.out _ (Ab.refl v8).drew
              clear hF1 hF2
              refine region_tail 9 E1 (by kernel_rfl) (by kernel_rfl) (by kernel_rfl) DD0 ?_
              simp only [List.take_succ_cons, List.take_zero, List.drop_succ_cons, List.drop_zero]
              repeat (go_big_quiet_step (first
                | (with_reducible rfl)))
              refine wpQuiet_nil ?_
              intro z3 hwz
              obtain ⟨u0, hu⟩ := hwz
              have AZ3 : Hid (Ab v8 z3) := by rw [hu]; exact HV.out u0
              clear hu u0
              clear HU HU1 HV  DD0 xs xa xb
              clear E1 UU
              have O3a := hid (O2.out.to AZ3.out)
              have xc := O3a.out.2.2.1.cell HC.out
              have xf := O3a.out.2.2.1.frozen c
              clear AZ3 O2
              clear AR
              go_upto_region 17 with fail
              have O3 := hid (O3a.out.setB AP.out c (B2 c))
              clear xc xf O3a
              generalize World.setCell z3 _ _ = v9 at *
              have AR : Hid (Ab W v9) := O3.out.1
              have y0 := cell_of_row _ _ 0 _ _ _ (AR.out.heap OR.out)
              have y1 := cell_of_row _ _ 1 _ _ _ (AR.out.heap OR.out)
              have e0 := cell_of_row _ _ 0 _ _ _ (AR.out.heap ERW.out)
              have e2 := cell_of_row _ _ 2 _ _ _ (AR.out.heap ERW.out)
              go_wp2
              refine ⟨⟨c + 1, by have := HC.out; omega, by simp, _, _, O3.out, ?_, ?_⟩, by simp [intOf]; have := HC.out; omega⟩
              · intro i hi
                have b := BD.out i hi
                have b1 := LB.out c HC.out
                have b2 := LW.out c HC.out
                rw [HBC.out] at b1
                rw [HWC.out] at b2
                have b3 := lb9
                refine ⟨?_, ?_⟩
                · by_cases e : i = c
                  · simp [e]; exact b3
                  · simp [e]; exact b.1
                · by_cases e : i = c
                  · simp only [e, if_true]; exact b2
                  · simp only [e, if_false]; exact b.2
              · intro j hj
                by_cases e : j = c
                · rw [e]
                  exact ⟨fun h => absurd h (by have := NL.out; have := NR.out; omega), fun _ => by simp [HWC.out]⟩
                · have q := PS.out j (by omega)
                  simp only [e, if_false]
                  exact q
            · replace A2 := hid A2
              have n1 : ((c : Int) != (Lf : Int)) = true := by rw [bne_iff_ne]; have := NL.out; omega
              have n2 : ((c : Int) != (R : Int)) = true := by rw [bne_iff_ne]; have := NR.out; omega
              have n3 : ((c : Int) != (p : Int)) = false := by rw [CL.out]; simp
              have a1 : c < lb2 := A1.out
              have a2 : ¬ c < lw2 := A2.out
              have a1i : decide ((c : Int) < lb2) = true := decide_eq_true (by omega)
              have a2i : decide ((c : Int) < lw2) = false := decide_eq_false (by omega)
              have y0 := cell_of_row _ _ 0 _ _ _ (AR.out.heap OR.out)
              have y1 := cell_of_row _ _ 1 _ _ _ (AR.out.heap OR.out)
              have e0 := cell_of_row _ _ 0 _ _ _ (AR.out.heap ERW.out)
              have e2 := cell_of_row _ _ 2 _ _ _ (AR.out.heap ERW.out)
              obtain ⟨lb9, b9, o9, rfl, hb9, hx9⟩ := OB.out c A1.out
              have a1c : (c : Int) < lb2 := by omega
              go_upto_region 16 with fail
              clear y0 y1 e0 e2
              obtain ⟨UU, E1, hF1, hF2⟩ := cls v8
              have HU := hid hF2
              have HU1 := hid hF1
              have HV : Hid (∀ u, Ab v8 (E1 u)) := fun u => (hid (Ab.refl v8)).out.trans (hF1 u)
              have xs : ∀ u, (E1 u).cell? ⟨g, 0, none⟩ = some (.slice (some ⟨bB, 0, none⟩) M M) := fun u => cell_of_row _ _ 0 _ _ _ ((HV.out u).heap O2.out.2.1)
              have xa : ∀ u, (E1 u).cell? ⟨w.heap.size + 1, 0, none⟩ = some (.slice (some ⟨b9, o9, none⟩) lb2 cb2) := fun u => cell_of_row _ _ 0 _ _ _ ((AR.out.trans (HV.out u)).heap OR.out)
              have xb : ∀ u, (E1 u).cell? ⟨b9, o9 + c, none⟩ = some (.float .f64 (B2 c)) := fun u => (Below.cell (AW.out.trans (AR.out.trans (HV.out u))) hb9).trans hx9
              have DD0 := HU.out _ (Ab.refl v8).drew
              clear hF1 hF2
              refine region_tail 9 E1 (by kernel_rfl) (by kernel_rfl) (by kernel_rfl) DD0 ?_
              simp only [List.take_succ_cons, List.take_zero, List.drop_succ_cons, List.drop_zero]
              repeat (go_big_quiet_step (first
                | (with_reducible rfl)))
              refine wpQuiet_nil ?_
              intro z3 hwz
              obtain ⟨u0, hu⟩ := hwz
              have AZ3 : Hid (Ab v8 z3) := by rw [hu]; exact HV.out u0
              clear hu u0
              clear HU HU1 HV  DD0 xs xa xb
              clear E1 UU
              have O3a := hid (O2.out.to AZ3.out)
              have xc := O3a.out.2.2.1.cell HC.out
              have xf := O3a.out.2.2.1.frozen c
              clear AZ3 O2
              clear AR
              go_upto_region 17 with fail
              have O3 := hid (O3a.out.setB AP.out c (B2 c))
              clear xc xf O3a
              generalize World.setCell z3 _ _ = v9 at *
              have AR : Hid (Ab W v9) := O3.out.1
              have y0 := cell_of_row _ _ 0 _ _ _ (AR.out.heap OR.out)
              have y1 := cell_of_row _ _ 1 _ _ _ (AR.out.heap OR.out)
              have e0 := cell_of_row _ _ 0 _ _ _ (AR.out.heap ERW.out)
              have e2 := cell_of_row _ _ 2 _ _ _ (AR.out.heap ERW.out)
              go_wp2
              refine ⟨⟨c + 1, by have := HC.out; omega, by simp, _, _, O3.out, ?_, ?_⟩, by simp [intOf]; have := HC.out; omega⟩
              · intro i hi
                have b := BD.out i hi
                have b1 := LB.out c HC.out
                have b2 := LW.out c HC.out
                rw [HBC.out] at b1
                rw [HWC.out] at b2
                have b3 := lb9
                refine ⟨?_, ?_⟩
                · by_cases e : i = c
                  · simp [e]; exact b3
                  · simp [e]; exact b.1
                · by_cases e : i = c
                  · simp only [e, if_true]; exact b2
                  · simp only [e, if_false]; exact b.2
              · intro j hj
                by_cases e : j = c
                · rw [e]
                  exact ⟨fun h => absurd h (by have := NL.out; have := NR.out; omega), fun _ => by simp [HWC.out]⟩
                · have q := PS.out j (by omega)
                  simp only [e, if_false]
                  exact q
          · replace A1 := hid A1
            by_cases A2 : c < lw2
            · replace A2 := hid A2
              have n1 : ((c : Int) != (Lf : Int)) = true := by rw [bne_iff_ne]; have := NL.out; omega
              have n2 : ((c : Int) != (R : Int)) = true := by rw [bne_iff_ne]; have := NR.out; omega
              have n3 : ((c : Int) != (p : Int)) = false := by rw [CL.out]; simp
              have a1 : ¬ c < lb2 := A1.out
              have a2 : c < lw2 := A2.out
              have a1i : decide ((c : Int) < lb2) = false := decide_eq_false (by omega)
              have a2i : decide ((c : Int) < lw2) = true := decide_eq_true (by omega)
              have y0 := cell_of_row _ _ 0 _ _ _ (AR.out.heap OR.out)
              have y1 := cell_of_row _ _ 1 _ _ _ (AR.out.heap OR.out)
              have e0 := cell_of_row _ _ 0 _ _ _ (AR.out.heap ERW.out)
              have e2 := cell_of_row _ _ 2 _ _ _ (AR.out.heap ERW.out)
              go_wp2
              refine ⟨⟨c + 1, by have := HC.out; omega, by simp, _, _, O2.out, ?_, ?_⟩, by simp [intOf]; have := HC.out; omega⟩
              · intro i hi
                have b := BD.out i hi
                have b1 := LB.out c HC.out
                have b2 := LW.out c HC.out
                rw [HBC.out] at b1
                rw [HWC.out] at b2
                refine ⟨?_, ?_⟩
                · by_cases e : i = c
                  · simp [e]; exact b1
                  · simp [e]; exact b.1
                · by_cases e : i = c
                  · simp only [e, if_true]; exact b2
                  · simp only [e, if_false]; exact b.2
              · intro j hj
                by_cases e : j = c
                · rw [e]
                  exact ⟨fun h => absurd h (by have := NL.out; have := NR.out; omega), fun _ => by simp [HWC.out]⟩
                · have q := PS.out j (by omega)
                  simp only [e, if_false]
                  exact q
            · replace A2 := hid A2
              have n1 : ((c : Int) != (Lf : Int)) = true := by rw [bne_iff_ne]; have := NL.out; omega
              have n2 : ((c : Int) != (R : Int)) = true := by rw [bne_iff_ne]; have := NR.out; omega
              have n3 : ((c : Int) != (p : Int)) = false := by rw [CL.out]; simp
              have a1 : ¬ c < lb2 := A1.out
              have a2 : ¬ c < lw2 := A2.out
              have a1i : decide ((c : Int) < lb2) = false := decide_eq_false (by omega)
              have a2i : decide ((c : Int) < lw2) = false := decide_eq_false (by omega)
              have y0 := cell_of_row _ _ 0 _ _ _ (AR.out.heap OR.out)
              have y1 := cell_of_row _ _ 1 _ _ _ (AR.out.heap OR.out)
              have e0 := cell_of_row _ _ 0 _ _ _ (AR.out.heap ERW.out)
              have e2 := cell_of_row _ _ 2 _ _ _ (AR.out.heap ERW.out)
              go_wp2
              refine ⟨⟨c + 1, by have := HC.out; omega, by simp, _, _, O2.out, ?_, ?_⟩, by simp [intOf]; have := HC.out; omega⟩
              · intro i hi
                have b := BD.out i hi
                have b1 := LB.out c HC.out
                have b2 := LW.out c HC.out
                rw [HBC.out] at b1
                rw [HWC.out] at b2
                refine ⟨?_, ?_⟩
                · by_cases e : i = c
                  · simp [e]; exact b1
                  · simp [e]; exact b.1
                · by_cases e : i = c
                  · simp only [e, if_true]; exact b2
                  · simp only [e, if_false]; exact b.2
              · intro j hj
                by_cases e : j = c
                · rw [e]
                  exact ⟨fun h => absurd h (by have := NL.out; have := NR.out; omega), fun _ => by simp [HWC.out]⟩
                · have q := PS.out j (by omega)
                  simp only [e, if_false]
                  exact q
        · have NL := hid k1
          have NR := hid k2
          have NP := hid k4
          clear k4 k1 k2
          by_cases A1 : c < lb2
          · replace A1 := hid A1
            by_cases A2 : c < lw2
            · replace A2 := hid A2
              have n1 : ((c : Int) != (Lf : Int)) = true := by rw [bne_iff_ne]; have := NL.out; omega
              have n2 : ((c : Int) != (R : Int)) = true := by rw [bne_iff_ne]; have := NR.out; omega
              have n3 : ((c : Int) != (p : Int)) = true := by rw [bne_iff_ne]; have := NP.out; omega
              have a1 : c < lb2 := A1.out
              have a2 : c < lw2 := A2.out
              have a1i : decide ((c : Int) < lb2) = true := decide_eq_true (by omega)
              have a2i : decide ((c : Int) < lw2) = true := decide_eq_true (by omega)
              have y0 := cell_of_row _ _ 0 _ _ _ (AR.out.heap OR.out)
              have y1 := cell_of_row _ _ 1 _ _ _ (AR.out.heap OR.out)
              have e0 := cell_of_row _ _ 0 _ _ _ (AR.out.heap ERW.out)
              have e2 := cell_of_row _ _ 2 _ _ _ (AR.out.heap ERW.out)
              obtain ⟨lb9, b9, o9, rfl, hb9, hx9⟩ := OB.out c A1.out
              have a1c : (c : Int) < lb2 := by omega
              go_upto_region 16 with fail
              clear y0 y1 e0 e2
              obtain ⟨UU, E1, hF1, hF2⟩ := cls v8
              have HU := hid hF2
              have HU1 := hid hF1
              have HV : Hid (∀ u, Ab v8 (E1 u)) := fun u => (hid (Ab.refl v8)).out.trans (hF1 u)
              have xs : ∀ u, (E1 u).cell? ⟨g, 0, none⟩ = some (.slice (some ⟨bB, 0, none⟩) M M) := fun u => cell_of_row _ _ 0 _ _ _ ((HV.out u).heap O2.out.2.1)
              have xa : ∀ u, (E1 u).cell? ⟨w.heap.size + 1, 0, none⟩ = some (.slice (some ⟨b9, o9, none⟩) lb2 cb2) := fun u => cell_of_row _ _ 0 _ _ _ ((AR.out.trans (HV.out u)).heap OR.out)
              have xb : ∀ u, (E1 u).cell? ⟨b9, o9 + c, none⟩ = some (.float .f64 (B2 c)) := fun u => (Below.cell (AW.out.trans (AR.out.trans (HV.out u))) hb9).trans hx9
              have DD0 := HU.out _ (Ab.refl v8).drew
              clear hF1 hF2
              refine region_tail 9 E1 (by kernel_rfl) (by kernel_rfl) (by kernel_rfl) DD0 ?_
              simp only [List.take_succ_cons, List.take_zero, List.drop_succ_cons, List.drop_zero]
              repeat (go_big_quiet_step (first
                | (with_reducible rfl)))
              refine wpQuiet_nil ?_
              intro z3 hwz
              obtain ⟨u0, hu⟩ := hwz
              have AZ3 : Hid (Ab v8 z3) := by rw [hu]; exact HV.out u0
              clear hu u0
              clear HU HU1 HV  DD0 xs xa xb
              clear E1 UU
              have O3a := hid (O2.out.to AZ3.out)
              have xc := O3a.out.2.2.1.cell HC.out
              have xf := O3a.out.2.2.1.frozen c
              clear AZ3 O2
              clear AR
              go_upto_region 17 with fail
              have O3 := hid (O3a.out.setB AP.out c (B2 c))
              clear xc xf O3a
              generalize World.setCell z3 _ _ = v9 at *
              have AR : Hid (Ab W v9) := O3.out.1
              have y0 := cell_of_row _ _ 0 _ _ _ (AR.out.heap OR.out)
              have y1 := cell_of_row _ _ 1 _ _ _ (AR.out.heap OR.out)
              have e0 := cell_of_row _ _ 0 _ _ _ (AR.out.heap ERW.out)
              have e2 := cell_of_row _ _ 2 _ _ _ (AR.out.heap ERW.out)
              obtain ⟨lw9, b8, o8, rfl, hb8, hx8⟩ := OA.out c A2.out
              have a2c : (c : Int) < lw2 := by omega
              go_upto_region 18 with fail
              clear y0 y1 e0 e2
              obtain ⟨UU, E1, hF1, hF2⟩ := cls v9
              have HU := hid hF2
              have HU1 := hid hF1
              have HV : Hid (∀ u, Ab v9 (E1 u)) := fun u => (hid (Ab.refl v9)).out.trans (hF1 u)
              have xs : ∀ u, (E1 u).cell? ⟨g, 1, none⟩ = some (.slice (some ⟨bW, 0, none⟩) M M) := fun u => cell_of_row _ _ 1 _ _ _ ((HV.out u).heap O3.out.2.1)
              have xa : ∀ u, (E1 u).cell? ⟨w.heap.size + 1, 1, none⟩ = some (.slice (some ⟨b8, o8, none⟩) lw2 cw2) := fun u => cell_of_row _ _ 1 _ _ _ ((AR.out.trans (HV.out u)).heap OR.out)
              have xb : ∀ u, (E1 u).cell? ⟨b8, o8 + c, none⟩ = some (.int .i64 (W2 c)) := fun u => (Below.cell (AW.out.trans (AR.out.trans (HV.out u))) hb8).trans hx8
              have DD0 := HU.out _ (Ab.refl v9).drew
              clear hF1 hF2
              refine region_tail 9 E1 (by kernel_rfl) (by kernel_rfl) (by kernel_rfl) DD0 ?_
              simp only [List.take_succ_cons, List.take_zero, List.drop_succ_cons, List.drop_zero]
              repeat (go_big_quiet_step (first
                | (with_reducible rfl)))
              refine wpQuiet_nil ?_
              intro z4 hwz
              obtain ⟨u0, hu⟩ := hwz
              have AZ4 : Hid (Ab v9 z4) := by rw [hu]; exact HV.out u0
              clear hu u0
              clear HU HU1 HV  DD0 xs xa xb
              clear E1 UU
              have O4a := hid (O3.out.to AZ4.out)
              have xc := O4a.out.2.2.2.cell HC.out
              have xf := O4a.out.2.2.2.frozen c
              clear AZ4 O3
              go_wp2
              refine ⟨⟨c + 1, by have := HC.out; omega, by simp, _, _, O4a.out.setW AP.out c (W2 c), ?_, ?_⟩, by simp [intOf]; have := HC.out; omega⟩
              · intro i hi
                have b := BD.out i hi
                have b1 := LB.out c HC.out
                have b2 := LW.out c HC.out
                rw [HBC.out] at b1
                rw [HWC.out] at b2
                have b3 := lb9
                have b4 := lw9
                refine ⟨?_, ?_⟩
                · by_cases e : i = c
                  · simp [e]; exact b3
                  · simp [e]; exact b.1
                · by_cases e : i = c
                  · simp only [e, if_true]; exact b4
                  · simp only [e, if_false]; exact b.2
              · intro j hj
                by_cases e : j = c
                · rw [e]
                  exact ⟨fun h => absurd h (by have := NL.out; have := NR.out; omega), fun h => absurd h (by have := NL.out; have := NR.out; have := NP.out; omega)⟩
                · have q := PS.out j (by omega)
                  simp only [e, if_false]
                  exact q
            · replace A2 := hid A2
              have n1 : ((c : Int) != (Lf : Int)) = true := by rw [bne_iff_ne]; have := NL.out; omega
              have n2 : ((c : Int) != (R : Int)) = true := by rw [bne_iff_ne]; have := NR.out; omega
              have n3 : ((c : Int) != (p : Int)) = true := by rw [bne_iff_ne]; have := NP.out; omega
              have a1 : c < lb2 := A1.out
              have a2 : ¬ c < lw2 := A2.out
              have a1i : decide ((c : Int) < lb2) = true := decide_eq_true (by omega)
              have a2i : decide ((c : Int) < lw2) = false := decide_eq_false (by omega)
              have y0 := cell_of_row _ _ 0 _ _ _ (AR.out.heap OR.out)
              have y1 := cell_of_row _ _ 1 _ _ _ (AR.out.heap OR.out)
              have e0 := cell_of_row _ _ 0 _ _ _ (AR.out.heap ERW.out)
              have e2 := cell_of_row _ _ 2 _ _ _ (AR.out.heap ERW.out)
              obtain ⟨lb9, b9, o9, rfl, hb9, hx9⟩ := OB.out c A1.out
              have a1c : (c : Int) < lb2 := by omega
              go_upto_region 16 with fail
              clear y0 y1 e0 e2
              obtain ⟨UU, E1, hF1, hF2⟩ := cls v8
              have HU := hid hF2
              have HU1 := hid hF1
              have HV : Hid (∀ u, Ab v8 (E1 u)) := fun u => (hid (Ab.refl v8)).out.trans (hF1 u)
              have xs : ∀ u, (E1 u).cell? ⟨g, 0, none⟩ = some (.slice (some ⟨bB, 0, none⟩) M M) := fun u => cell_of_row _ _ 0 _ _ _ ((HV.out u).heap O2.out.2.1)
              have xa : ∀ u, (E1 u).cell? ⟨w.heap.size + 1, 0, none⟩ = some (.slice (some ⟨b9, o9, none⟩) lb2 cb2) := fun u => cell_of_row _ _ 0 _ _ _ ((AR.out.trans (HV.out u)).heap OR.out)
              have xb : ∀ u, (E1 u).cell? ⟨b9, o9 + c, none⟩ = some (.float .f64 (B2 c)) := fun u => (Below.cell (AW.out.trans (AR.out.trans (HV.out u))) hb9).trans hx9
              have DD0 := HU.out _ (Ab.refl v8).drew
              clear hF1 hF2
              refine region_tail 9 E1 (by kernel_rfl) (by kernel_rfl) (by kernel_rfl) DD0 ?_
              simp only [List.take_succ_cons, List.take_zero, List.drop_succ_cons, List.drop_zero]
              repeat (go_big_quiet_step (first
                | (with_reducible rfl)))
              refine wpQuiet_nil ?_
              intro z3 hwz
              obtain ⟨u0, hu⟩ := hwz
              have AZ3 : Hid (Ab v8 z3) := by rw [hu]; exact HV.out u0
              clear hu u0
              clear HU HU1 HV  DD0 xs xa xb
              clear E1 UU
              have O3a := hid (O2.out.to AZ3.out)
              have xc := O3a.out.2.2.1.cell HC.out
              have xf := O3a.out.2.2.1.frozen c
              clear AZ3 O2
              clear AR
              go_upto_region 17 with fail
              have O3 := hid (O3a.out.setB AP.out c (B2 c))
              clear xc xf O3a
              generalize World.setCell z3 _ _ = v9 at *
              have AR : Hid (Ab W v9) := O3.out.1
              have y0 := cell_of_row _ _ 0 _ _ _ (AR.out.heap OR.out)
              have y1 := cell_of_row _ _ 1 _ _ _ (AR.out.heap OR.out)
              have e0 := cell_of_row _ _ 0 _ _ _ (AR.out.heap ERW.out)
              have e2 := cell_of_row _ _ 2 _ _ _ (AR.out.heap ERW.out)
              go_wp2
              refine ⟨⟨c + 1, by have := HC.out; omega, by simp, _, _, O3.out, ?_, ?_⟩, by simp [intOf]; have := HC.out; omega⟩
              · intro i hi
                have b := BD.out i hi
                have b1 := LB.out c HC.out
                have b2 := LW.out c HC.out
                rw [HBC.out] at b1
                rw [HWC.out] at b2
                have b3 := lb9
                refine ⟨?_, ?_⟩
                · by_cases e : i = c
                  · simp [e]; exact b3
                  · simp [e]; exact b.1
                · by_cases e : i = c
                  · simp only [e, if_true]; exact b2
                  · simp only [e, if_false]; exact b.2
              · intro j hj
                by_cases e : j = c
                · rw [e]
                  exact ⟨fun h => absurd h (by have := NL.out; have := NR.out; omega), fun h => absurd h (by have := NL.out; have := NR.out; have := NP.out; omega)⟩
                · have q := PS.out j (by omega)
                  simp only [e, if_false]
                  exact q
          · replace A1 := hid A1
            by_cases A2 : c < lw2
            · replace A2 := hid A2
              have n1 : ((c : Int) != (Lf : Int)) = true := by rw [bne_iff_ne]; have := NL.out; omega
              have n2 : ((c : Int) != (R : Int)) = true := by rw [bne_iff_ne]; have := NR.out; omega
              have n3 : ((c : Int) != (p : Int)) = true := by rw [bne_iff_ne]; have := NP.out; omega
              have a1 : ¬ c < lb2 := A1.out
              have a2 : c < lw2 := A2.out
              have a1i : decide ((c : Int) < lb2) = false := decide_eq_false (by omega)
              have a2i : decide ((c : Int) < lw2) = true := decide_eq_true (by omega)
              have y0 := cell_of_row _ _ 0 _ _ _ (AR.out.heap OR.out)
              have y1 := cell_of_row _ _ 1 _ _ _ (AR.out.heap OR.out)
              have e0 := cell_of_row _ _ 0 _ _ _ (AR.out.heap ERW.out)
              have e2 := cell_of_row _ _ 2 _ _ _ (AR.out.heap ERW.out)
              obtain ⟨lw9, b8, o8, rfl, hb8, hx8⟩ := OA.out c A2.out
              have a2c : (c : Int) < lw2 := by omega
              go_upto_region 18 with fail
              clear y0 y1 e0 e2
              obtain ⟨UU, E1, hF1, hF2⟩ := cls v8
              have HU := hid hF2
              have HU1 := hid hF1
              have HV : Hid (∀ u, Ab v8 (E1 u)) := fun u => (hid (Ab.refl v8)).out.trans (hF1 u)
              have xs : ∀ u, (E1 u).cell? ⟨g, 1, none⟩ = some (.slice (some ⟨bW, 0, none⟩) M M) := fun u => cell_of_row _ _ 1 _ _ _ ((HV.out u).heap O2.out.2.1)
              have xa : ∀ u, (E1 u).cell? ⟨w.heap.size + 1, 1, none⟩ = some (.slice (some ⟨b8, o8, none⟩) lw2 cw2) := fun u => cell_of_row _ _ 1 _ _ _ ((AR.out.trans (HV.out u)).heap OR.out)
              have xb : ∀ u, (E1 u).cell? ⟨b8, o8 + c, none⟩ = some (.int .i64 (W2 c)) := fun u => (Below.cell (AW.out.trans (AR.out.trans (HV.out u))) hb8).trans hx8
              have DD0 := HU.out _ (Ab.refl v8).drew
              clear hF1 hF2
              refine region_tail 9 E1 (by kernel_rfl) (by kernel_rfl) (by kernel_rfl) DD0 ?_
              simp only [List.take_succ_cons, List.take_zero, List.drop_succ_cons, List.drop_zero]
              repeat (go_big_quiet_step (first
                | (with_reducible rfl)))
              refine wpQuiet_nil ?_
              intro z4 hwz
              obtain ⟨u0, hu⟩ := hwz
              have AZ4 : Hid (Ab v8 z4) := by rw [hu]; exact HV.out u0
              clear hu u0
              clear HU HU1 HV  DD0 xs xa xb
              clear E1 UU
              have O4a := hid (O2.out.to AZ4.out)
              have xc := O4a.out.2.2.2.cell HC.out
              have xf := O4a.out.2.2.2.frozen c
              clear AZ4 O2
              go_wp2
              refine ⟨⟨c + 1, by have := HC.out; omega, by simp, _, _, O4a.out.setW AP.out c (W2 c), ?_, ?_⟩, by simp [intOf]; have := HC.out; omega⟩
              · intro i hi
                have b := BD.out i hi
                have b1 := LB.out c HC.out
                have b2 := LW.out c HC.out
                rw [HBC.out] at b1
                rw [HWC.out] at b2
                have b4 := lw9
                refine ⟨?_, ?_⟩
                · by_cases e : i = c
                  · simp [e]; exact b1
                  · simp [e]; exact b.1
                · by_cases e : i = c
                  · simp only [e, if_true]; exact b4
                  · simp only [e, if_false]; exact b.2
              · intro j hj
                by_cases e : j = c
                · rw [e]
                  exact ⟨fun h => absurd h (by have := NL.out; have := NR.out; omega), fun h => absurd h (by have := NL.out; have := NR.out; have := NP.out; omega)⟩
                · have q := PS.out j (by omega)
                  simp only [e, if_false]
                  exact q
            · replace A2 := hid A2
              have n1 : ((c : Int) != (Lf : Int)) = true := by rw [bne_iff_ne]; have := NL.out; omega
              have n2 : ((c : Int) != (R : Int)) = true := by rw [bne_iff_ne]; have := NR.out; omega
              have n3 : ((c : Int) != (p : Int)) = true := by rw [bne_iff_ne]; have := NP.out; omega
              have a1 : ¬ c < lb2 := A1.out
              have a2 : ¬ c < lw2 := A2.out
              have a1i : decide ((c : Int) < lb2) = false := decide_eq_false (by omega)
              have a2i : decide ((c : Int) < lw2) = false := decide_eq_false (by omega)
              have y0 := cell_of_row _ _ 0 _ _ _ (AR.out.heap OR.out)
              have y1 := cell_of_row _ _ 1 _ _ _ (AR.out.heap OR.out)
              have e0 := cell_of_row _ _ 0 _ _ _ (AR.out.heap ERW.out)
              have e2 := cell_of_row _ _ 2 _ _ _ (AR.out.heap ERW.out)
              go_wp2
              refine ⟨⟨c + 1, by have := HC.out; omega, by simp, _, _, O2.out, ?_, ?_⟩, by simp [intOf]; have := HC.out; omega⟩
              · intro i hi
                have b := BD.out i hi
                have b1 := LB.out c HC.out
                have b2 := LW.out c HC.out
                rw [HBC.out] at b1
                rw [HWC.out] at b2
                refine ⟨?_, ?_⟩
                · by_cases e : i = c
                  · simp [e]; exact b1
                  · simp [e]; exact b.1
                · by_cases e : i = c
                  · simp only [e, if_true]; exact b2
                  · simp only [e, if_false]; exact b.2
              · intro j hj
                by_cases e : j = c
                · rw [e]
                  exact ⟨fun h => absurd h (by have := NL.out; have := NR.out; omega), fun h => absurd h (by have := NL.out; have := NR.out; have := NP.out; omega)⟩
                · have q := PS.out j (by omega)
                  simp only [e, if_false]
                  exact q
      · have e6 : M = c := by omega
        subst e6
        clear hcM hc
        go_wp2_with fail
        refine (CC.out _ _ (GG.out.to AR.out)).mono ?_
        rintro e9 vq ⟨rfl, hvq⟩
        have hvq2 := hvq.symm
        subst hvq2
        have RO8 : Hid (wr.heap[w.heap.size]? = some (.cells #[.int .i64 side, .int .i64 lim, .slice (some ⟨bb, bo, none⟩) M cb, .slice (some ⟨wb, wo, none⟩) M cw, .slice pt lt ct, .slice ps ls cs, .int .i64 sky, .int .i64 st] 27)) := AR.out.heap RO.out
        have AW8 : Hid (Ab w wr) := AW.out.trans AR.out
        have G8 : Hid (GridOf n gb wr) := GG.out.to AR.out
        have I1 : Hid (IsFl wr (some ⟨bB, 0, none⟩) M fb) := rowIs.fl OW.out.2.2.1 (fun i hi => (BD.out i hi).1)
        have I2 : Hid (IsIn wr (some ⟨bW, 0, none⟩) M fw) := rowIs.in OW.out.2.2.2 (fun i hi => (BD.out i hi).2)
        have SR : Hid (wr.heap[g]? = some (.cells #[.slice (some ⟨bB, 0, none⟩) M M, .slice (some ⟨bW, 0, none⟩) M M, .slice none 0 0, .slice ps2 ls2 cs2, .int .i64 0, .int .i64 0] 25)) := OW.out.2.1
        go_upto_region 19 with fail
        obtain ⟨UU, E1, hF1, hF2⟩ := cls wr
        have HU := hid hF2
        have HU1 := hid hF1
        have HV : Hid (∀ u, Ab wr (E1 u)) := fun u => (hid (Ab.refl wr)).out.trans (hF1 u)
        have HG : Hid (∀ u, GridOf n gb (E1 u)) := fun u => G8.out.to (HV.out u)
        have HW : Hid (∀ u, Ab w (E1 u)) := fun u => AW8.out.trans (HV.out u)
        have x1 : ∀ u, (E1 u).cell? ⟨w.heap.size, 1, none⟩ = some (.int .i64 lim) := fun u => cell_of_row _ _ 1 _ _ _ ((HV.out u).heap RO8.out)
        have x2 : ∀ u, (E1 u).cell? ⟨w.heap.size, 2, none⟩ = some (.slice (some ⟨bb, bo, none⟩) M cb) := fun u => cell_of_row _ _ 2 _ _ _ ((HV.out u).heap RO8.out)
        have x3 : ∀ u, (E1 u).cell? ⟨w.heap.size, 3, none⟩ = some (.slice (some ⟨wb, wo, none⟩) M cw) := fun u => cell_of_row _ _ 3 _ _ _ ((HV.out u).heap RO8.out)
        have x4 : ∀ u, (E1 u).cell? ⟨w.heap.size, 4, none⟩ = some (.slice pt lt ct) := fun u => cell_of_row _ _ 4 _ _ _ ((HV.out u).heap RO8.out)
        have x5 : ∀ u, (E1 u).cell? ⟨w.heap.size, 5, none⟩ = some (.slice ps ls cs) := fun u => cell_of_row _ _ 5 _ _ _ ((HV.out u).heap RO8.out)
        have x6 : ∀ u, (E1 u).cell? ⟨w.heap.size, 6, none⟩ = some (.int .i64 sky) := fun u => cell_of_row _ _ 6 _ _ _ ((HV.out u).heap RO8.out)
        have x7 : ∀ u, (E1 u).cell? ⟨w.heap.size, 7, none⟩ = some (.int .i64 st) := fun u => cell_of_row _ _ 7 _ _ _ ((HV.out u).heap RO8.out)
        have y0 : ∀ u, (E1 u).cell? ⟨g, 0, none⟩ = some (.slice (some ⟨bB, 0, none⟩) M M) := fun u => cell_of_row _ _ 0 _ _ _ ((HV.out u).heap SR.out)
        have y1 : ∀ u, (E1 u).cell? ⟨g, 1, none⟩ = some (.slice (some ⟨bW, 0, none⟩) M M) := fun u => cell_of_row _ _ 1 _ _ _ ((HV.out u).heap SR.out)
        have y2 : ∀ u, (E1 u).cell? ⟨g, 2, none⟩ = some (.slice none 0 0) := fun u => cell_of_row _ _ 2 _ _ _ ((HV.out u).heap SR.out)
        have y3 : ∀ u, (E1 u).cell? ⟨g, 3, none⟩ = some (.slice ps2 ls2 cs2) := fun u => cell_of_row _ _ 3 _ _ _ ((HV.out u).heap SR.out)
        have y4 : ∀ u, (E1 u).cell? ⟨g, 4, none⟩ = some (.int .i64 0) := fun u => cell_of_row _ _ 4 _ _ _ ((HV.out u).heap SR.out)
        have y5 : ∀ u, (E1 u).cell? ⟨g, 5, none⟩ = some (.int .i64 0) := fun u => cell_of_row _ _ 5 _ _ _ ((HV.out u).heap SR.out)
        have DD0 := HU.out _ (Ab.refl wr).drew
        clear hF1 hF2
        refine region_cls E1 (by kernel_rfl) (by kernel_rfl) DD0 ?_
        repeat (go_big_quiet_step (first
          | (with_reducible rfl)
          | (go_at_call_of 14 pt; exact calls_cls HU HU1 (D0.out _ _ (HG.out _) (HW.out _)))
          | (go_at_call_of 14 ps2; exact calls_cls HU HU1 (D2.out bB bW fb fw _ _ (HG.out _) (HW.out _) (I1.out.below (HV.out _)) (I2.out.below (HV.out _)) PS.out))
          | (go_at_call 13; exact calls_cls HU HU1 (SS.out _ _))))
        refine wpQuiet_nil ?_
        intro z3 hwz
        obtain ⟨u0, hu⟩ := hwz
        have AZ3 : Hid (Ab wr z3) := by rw [hu]; exact HV.out u0
        clear hu u0
        clear HU HU1 HV HG HW DD0 x1 x2 x3 x4 x5 x6 x7 y0 y1 y2 y3 y4 y5
        clear E1 UU
        go_wp2
        go_ret
        exact ⟨rfl, AW8.out.trans AZ3.out⟩
end Go.Proofs.YtnbpchbiabpngaaDoor
