/-
  No more than stands above the higher bed, and no more than the depth put forward: the walk, of whatever program keeps to the depth over an edge.
-/
import Derived.Test.YtjgbaenihkplpaaDoorZ16
import Derived.Test.YtjgbaenihkplpaaDoorZ17
namespace Go.Proofs.YtjgbaenihkplpaaDoor
open Go.RowKit Tf Cu
attribute [local go_sem] run_bits run_from raw_feq raw_fne raw_flt raw_fgt run_neg run_store_float
/-- what is known of one way over the edge -/
structure Way (n : Nat) (w : World) (lim : Int) (bb bo wb wo M : Nat) (pt ps : Option Addr) (cb cw lt ct ls cs : Nat) (sky st : Int) (E u : Nat) (U D K : Nat) (wU wK wD aU aK aD : Int) (bU bD h hk hd x y s f vv l m d : Nat) : Prop where
  hU : ((U : Nat) : Int) < M
  hD : ((D : Nat) : Int) < M
  hK : ((K : Nat) : Int) < M
  FW : Hid (∀ v, Ab w v → v.cell? ⟨wb, wo + U, none⟩ = some (.int .i64 wU) ∧ v.cell? ⟨wb, wo + K, none⟩ = some (.int .i64 wK) ∧ v.cell? ⟨wb, wo + D, none⟩ = some (.int .i64 wD) ∧ v.cell? ⟨bb, bo + U, none⟩ = some (.float .f64 bU) ∧ v.cell? ⟨bb, bo + D, none⟩ = some (.float .f64 bD))
  AU : Hid (∀ gb v, GridOf n gb v → Calls Tryd.prog 17 #[.pointer (some ⟨gb, 0, none⟩), .int .i64 (U : Nat)] v fun e w' => e = .returned (.int .i64 aU) ∧ Below v.heap.size v w')
  AK : Hid (∀ gb v, GridOf n gb v → Calls Tryd.prog 17 #[.pointer (some ⟨gb, 0, none⟩), .int .i64 (K : Nat)] v fun e w' => e = .returned (.int .i64 aK) ∧ Below v.heap.size v w')
  AD : Hid (∀ gb v, GridOf n gb v → Calls Tryd.prog 17 #[.pointer (some ⟨gb, 0, none⟩), .int .i64 (D : Nat)] v fun e w' => e = .returned (.int .i64 aD) ∧ Below v.heap.size v w')
  DU : Hid (∀ v : World, Calls Tryd.prog 16 #[.int .i64 wU, .int .i64 aU] v fun e w' => e = .returned (.float .f64 h) ∧ Below v.heap.size v w')
  DK : Hid (∀ v : World, Calls Tryd.prog 16 #[.int .i64 wK, .int .i64 aK] v fun e w' => e = .returned (.float .f64 hk) ∧ Below v.heap.size v w')
  DD : Hid (∀ v : World, Calls Tryd.prog 16 #[.int .i64 wD, .int .i64 aD] v fun e w' => e = .returned (.float .f64 hd) ∧ Below v.heap.size v w')
  hx : (∀ (t : TypeId) (w : World), (binOp .sub t (.float .f64 h) (.float .f64 hk)).run Tryd.prog w = .ok (.float .f64 x) w)
  hy : (∀ (t : TypeId) (w : World), (binOp .sub t (.float .f64 hd) (.float .f64 h)).run Tryd.prog w = .ok (.float .f64 y) w)
  CS : Hid (∀ v : World, Calls Tryd.prog 18 #[.int .i64 lim, .float .f64 x, .float .f64 y] v fun e w' => e = .returned (.float .f64 s) ∧ Below v.heap.size v w')
  hm : (∀ (t : TypeId) (w : World), (binOp .mul t (.float .f64 4602678819172646912) (.float .f64 s)).run Tryd.prog w = .ok (.float .f64 f) w)
  hv : (∀ (t : TypeId) (w : World), (binOp .add t (.float .f64 h) (.float .f64 f)).run Tryd.prog w = .ok (.float .f64 vv) w)
  CL : Hid (∀ v : World, Calls Tryd.prog 19 #[.float .f64 bU, .int .i64 wU, .int .i64 aU] v fun e w' => e = .returned (.float .f64 l) ∧ Below v.heap.size v w')
  CM : Hid (∀ v : World, Calls Tryd.prog 20 #[.float .f64 bU, .float .f64 bD] v fun e w' => e = .returned (.float .f64 m) ∧ Below v.heap.size v w')
  CD : Hid (∀ gb v, GridOf n gb v → Ab w v → Calls Tryd.prog 11 #[.pointer (some ⟨gb, 0, none⟩), .int .i64 lim, .agg #[.slice (some ⟨bb, bo, none⟩) M cb, .slice (some ⟨wb, wo, none⟩) M cw, .slice pt lt ct, .slice ps ls cs, .int .i64 sky, .int .i64 st], .int .i64 (E : Nat), .float .f64 u] v fun e w' => e = .returned (.float .f64 d) ∧ Below v.heap.size v w')
  GT : Hid ((∃ g, (∀ (t : TypeId) (w : World), (binOp .sub t (.float .f64 l) (.float .f64 m)).run Tryd.prog w = .ok (.float .f64 g) w) ∧ ((fgt d 0 = true ∧ fgt d vv = false ∧ fgt d g = false ∧ (feq d vv = true ∨ (feq d vv = false ∧ feq d g = true))) ∨ (fgt d 0 = false ∧ (fgt vv 0 = false ∨ (fgt vv 0 = true ∧ fgt g 0 = false))))) ∨
    ((∀ (t : TypeId) (w : World), (binOp .sub t (.float .f64 l) (.float .f64 m)).run Tryd.prog w = .ok (.float .f64 (nanOf w l m)) (w.drewN 1)) ∧ (∀ w : World, fgt (nanOf w l m) 0 = false) ∧ fgt d 0 = false ∧ (fgt vv 0 = false ∨ fgt vv 0 = true)))
set_option maxRecDepth 100000 in
set_option maxHeartbeats 4000000 in
theorem gate12_no (side lim : Int) (pb pw pt ps : Option Addr) (lb cb lw cw lt ct ls cs : Nat) (sky st : Int) (e : Int) (w : World)
    (AWK : Hid (∀ v, Ab w v → Calls Tryd.prog 7 #[] v fun e w' => e = .returned (.bool true) ∧ Below v.heap.size v w'))
    (NT : Hid (∀ v, Ab w v → Calls Tryd.prog 8 #[.agg #[.int .i64 side, .int .i64 lim, .slice pb lb cb, .slice pw lw cw, .slice pt lt ct, .slice ps ls cs, .int .i64 sky, .int .i64 st]] v fun e' w' => ∃ gp, e' = .returned (.tuple #[gp, .bool false]) ∧ Below v.heap.size v w')) :
    Calls Tryd.prog 4 #[.agg #[.int .i64 side, .int .i64 lim, .slice pb lb cb, .slice pw lw cw, .slice pt lt ct, .slice ps ls cs, .int .i64 sky, .int .i64 st], .int .i64 e] w fun e w' => e = .returned (.bool true) ∧ Below w.heap.size w w' := by
  have A0 : Hid (Ab w (w.alloc (.cells #[.int .i64 side, .int .i64 lim, .slice pb lb cb, .slice pw lw cw, .slice pt lt ct, .slice ps ls cs, .int .i64 sky, .int .i64 st] 27))) := bl1 _ _
  have RO0 : Hid ((w.alloc (.cells #[.int .i64 side, .int .i64 lim, .slice pb lb cb, .slice pw lw cw, .slice pt lt ct, .slice ps ls cs, .int .i64 sky, .int .i64 st] 27)).heap[w.heap.size]? = some (.cells #[.int .i64 side, .int .i64 lim, .slice pb lb cb, .slice pw lw cw, .slice pt lt ct, .slice ps ls cs, .int .i64 sky, .int .i64 st] 27)) := heap_alloc_new _ _
  go_enter Tryd.func4, Tryd.ntmps4
  go_wp2_with fail
  refine (AWK.out _ A0.out).mono ?_
  rintro e9 v1 ⟨rfl, k1⟩
  have A1 : Hid (Ab w v1) := A0.out.call k1
  have RO1 : Hid (v1.heap[w.heap.size]? = some (.cells #[.int .i64 side, .int .i64 lim, .slice pb lb cb, .slice pw lw cw, .slice pt lt ct, .slice ps ls cs, .int .i64 sky, .int .i64 st] 27)) := Ab.heap k1 RO0.out
  clear k1 RO0 A0
  have c0 := cell_of_row _ _ 0 _ _ _ (RO1.out)
  have c1 := cell_of_row _ _ 1 _ _ _ (RO1.out)
  have c2 := cell_of_row _ _ 2 _ _ _ (RO1.out)
  have c3 := cell_of_row _ _ 3 _ _ _ (RO1.out)
  have c4 := cell_of_row _ _ 4 _ _ _ (RO1.out)
  have c5 := cell_of_row _ _ 5 _ _ _ (RO1.out)
  have c6 := cell_of_row _ _ 6 _ _ _ (RO1.out)
  have c7 := cell_of_row _ _ 7 _ _ _ (RO1.out)
  go_wp2_with fail
  refine (NT.out _ A1.out).mono ?_
  rintro e9 v2 ⟨gp, rfl, k2⟩
  have A2 : Hid (Ab w v2) := A1.out.call k2
  clear k2
  clear c0 c1 c2 c3 c4 c5 c6 c7
  go_wp2
  go_ret
  exact ⟨rfl, A2.out⟩
set_option maxRecDepth 100000 in
set_option maxHeartbeats 16000000 in
theorem gate12_go (side lim : Int) (bb bo wb wo M : Nat) (pt ps : Option Addr) (cb cw lt ct ls cs : Nat) (sky st : Int) (e : Int) (n N E L S R Q p q : Nat) (wU0 wU1 wK0 wK1 wD0 wD1 aU0 aU1 aK0 aK1 aD0 aD1 : Int) (bU0 bU1 bD0 bD1 h0 h1 hk0 hk1 hd0 hd1 x0 x1 y0 y1 s0 s1 f0 f1 vv0 vv1 l0 l1 m0 m1 d0 d1 : Nat) (w : World)
    (AWK : Hid (∀ v, Ab w v → Calls Tryd.prog 7 #[] v fun e w' => e = .returned (.bool true) ∧ Below v.heap.size v w'))
    (NT : Hid (∀ v, Ab w v → Calls Tryd.prog 8 #[.agg #[.int .i64 side, .int .i64 lim, .slice (some ⟨bb, bo, none⟩) M cb, .slice (some ⟨wb, wo, none⟩) M cw, .slice pt lt ct, .slice ps ls cs, .int .i64 sky, .int .i64 st]] v fun e' w' => ∃ gb, e' = .returned (.tuple #[.pointer (some ⟨gb, 0, none⟩), .bool true]) ∧ Below v.heap.size v w' ∧ GridOf n gb w'))
    (CE : Hid (∀ gb v, GridOf n gb v → Calls Tryd.prog 10 #[.pointer (some ⟨gb, 0, none⟩)] v fun e w' => e = .returned (.int .i64 (N : Nat)) ∧ Below v.heap.size v w'))
    (CW : Hid (∀ v : World, Calls Tryd.prog 9 #[.int .i64 e, .int .i64 (N : Nat)] v fun e w' => e = .returned (.int .i64 (E : Nat)) ∧ Below v.heap.size v w'))
    (CX : Hid (∀ gb v, GridOf n gb v → Calls Tryd.prog 14 #[.pointer (some ⟨gb, 0, none⟩), .int .i64 (E : Nat)] v fun e w' => e = .returned (.tuple #[.agg #[.int .i64 (L : Nat), .int .i64 (S : Nat), .int .i64 (R : Nat), .int .i64 (Q : Nat)], .bool true]) ∧ Below v.heap.size v w'))
    (CB : Hid (∀ gb v, GridOf n gb v → Calls Tryd.prog 15 #[.pointer (some ⟨gb, 0, none⟩), .int .i64 (E : Nat)] v fun e w' => e = .returned (.tuple #[.int .i64 (p : Nat), .int .i64 (q : Nat), .bool true]) ∧ Below v.heap.size v w'))
    (Y0 : Hid (Way n w lim bb bo wb wo M pt ps cb cw lt ct ls cs sky st E 4607182418800017408 L R p wU0 wK0 wD0 aU0 aK0 aD0 bU0 bD0 h0 hk0 hd0 x0 y0 s0 f0 vv0 l0 m0 d0)) (Y1 : Hid (Way n w lim bb bo wb wo M pt ps cb cw lt ct ls cs sky st E 13830554455654793216 R L q wU1 wK1 wD1 aU1 aK1 aD1 bU1 bD1 h1 hk1 hd1 x1 y1 s1 f1 vv1 l1 m1 d1)) :
    Calls Tryd.prog 4 #[.agg #[.int .i64 side, .int .i64 lim, .slice (some ⟨bb, bo, none⟩) M cb, .slice (some ⟨wb, wo, none⟩) M cw, .slice pt lt ct, .slice ps ls cs, .int .i64 sky, .int .i64 st], .int .i64 e] w fun e w' => e = .returned (.bool true) ∧ Below w.heap.size w w' := by
  have A0 : Hid (Ab w (w.alloc (.cells #[.int .i64 side, .int .i64 lim, .slice (some ⟨bb, bo, none⟩) M cb, .slice (some ⟨wb, wo, none⟩) M cw, .slice pt lt ct, .slice ps ls cs, .int .i64 sky, .int .i64 st] 27))) := bl1 _ _
  have RO0 : Hid ((w.alloc (.cells #[.int .i64 side, .int .i64 lim, .slice (some ⟨bb, bo, none⟩) M cb, .slice (some ⟨wb, wo, none⟩) M cw, .slice pt lt ct, .slice ps ls cs, .int .i64 sky, .int .i64 st] 27)).heap[w.heap.size]? = some (.cells #[.int .i64 side, .int .i64 lim, .slice (some ⟨bb, bo, none⟩) M cb, .slice (some ⟨wb, wo, none⟩) M cw, .slice pt lt ct, .slice ps ls cs, .int .i64 sky, .int .i64 st] 27)) := heap_alloc_new _ _
  go_enter Tryd.func4, Tryd.ntmps4
  go_wp2_with fail
  refine (AWK.out _ A0.out).mono ?_
  rintro e9 v1 ⟨rfl, k1⟩
  have A1 : Hid (Ab w v1) := A0.out.call k1
  have RO1 : Hid (v1.heap[w.heap.size]? = some (.cells #[.int .i64 side, .int .i64 lim, .slice (some ⟨bb, bo, none⟩) M cb, .slice (some ⟨wb, wo, none⟩) M cw, .slice pt lt ct, .slice ps ls cs, .int .i64 sky, .int .i64 st] 27)) := Ab.heap k1 RO0.out
  clear k1 RO0 A0
  have c0 := cell_of_row _ _ 0 _ _ _ (RO1.out)
  have c1 := cell_of_row _ _ 1 _ _ _ (RO1.out)
  have c2 := cell_of_row _ _ 2 _ _ _ (RO1.out)
  have c3 := cell_of_row _ _ 3 _ _ _ (RO1.out)
  have c4 := cell_of_row _ _ 4 _ _ _ (RO1.out)
  have c5 := cell_of_row _ _ 5 _ _ _ (RO1.out)
  have c6 := cell_of_row _ _ 6 _ _ _ (RO1.out)
  have c7 := cell_of_row _ _ 7 _ _ _ (RO1.out)
  go_wp2_with fail
  refine (NT.out _ A1.out).mono ?_
  rintro e9 Wa ⟨gb, rfl, k2, g2⟩
  have AWa : Hid (Ab w Wa) := A1.out.call k2
  have ROa : Hid (Wa.heap[w.heap.size]? = some (.cells #[.int .i64 side, .int .i64 lim, .slice (some ⟨bb, bo, none⟩) M cb, .slice (some ⟨wb, wo, none⟩) M cw, .slice pt lt ct, .slice ps ls cs, .int .i64 sky, .int .i64 st] 27)) := Ab.heap k2 RO1.out
  have GGa := hid g2
  clear k2 g2 RO1 A1
  clear c0 c1 c2 c3 c4 c5 c6 c7
  go_wp2_with fail
  refine (CE.out _ _ GGa.out).mono ?_
  rintro e9 v3 ⟨rfl, k3⟩
  have A3 : Hid (Ab Wa v3) := k3
  clear k3
  go_wp2_with fail
  refine (CW.out _).mono ?_
  rintro e9 v4 ⟨rfl, k4⟩
  have A4 : Hid (Ab Wa v4) := A3.out.call k4
  clear k4 A3
  go_wp2_with fail
  refine (CX.out _ _ (GGa.out.to A4.out)).mono ?_
  rintro e9 v5 ⟨rfl, k5⟩
  have A5 : Hid (Ab Wa (v5.alloc (.cells #[.int .i64 (L : Nat), .int .i64 (S : Nat), .int .i64 (R : Nat), .int .i64 (Q : Nat)] 41))) := (A4.out.call k5).alloc _
  have ER5 : Hid ((v5.alloc (.cells #[.int .i64 (L : Nat), .int .i64 (S : Nat), .int .i64 (R : Nat), .int .i64 (Q : Nat)] 41)).heap[v5.heap.size]? = some (.cells #[.int .i64 (L : Nat), .int .i64 (S : Nat), .int .i64 (R : Nat), .int .i64 (Q : Nat)] 41)) := heap_alloc_new _ _
  clear k5 A4
  go_wp2_with fail
  refine (CB.out _ _ (GGa.out.to A5.out)).mono ?_
  rintro e9 W ⟨rfl, k6⟩
  obtain ⟨ge, hge⟩ : ∃ g, v5.heap.size = g := ⟨_, rfl⟩
  have AW : Hid (Ab w W) := AWa.out.trans (A5.out.call k6)
  have RO : Hid (W.heap[w.heap.size]? = some (.cells #[.int .i64 side, .int .i64 lim, .slice (some ⟨bb, bo, none⟩) M cb, .slice (some ⟨wb, wo, none⟩) M cw, .slice pt lt ct, .slice ps ls cs, .int .i64 sky, .int .i64 st] 27)) := (A5.out.call k6).heap ROa.out
  have GG : Hid (GridOf n gb W) := GGa.out.to (A5.out.call k6)
  have ER : Hid (W.heap[ge]? = some (.cells #[.int .i64 (L : Nat), .int .i64 (S : Nat), .int .i64 (R : Nat), .int .i64 (Q : Nat)] 41)) := by rw [← hge]; exact Ab.heap k6 ER5.out
  clear k6 A5 ER5 AWa ROa GGa
  rw [hge]
  clear hge
  go_wp2
  go_loopw [13] (fun iv wr => ∃ c : Nat, c ≤ 2 ∧ iv = .int .i64 (c : Nat) ∧ Ab W wr) (fun iv _ => 2 - (intOf iv).toNat)
  case atStart => exact ⟨0, by omega, rfl, Ab.refl W⟩
  case round =>
    obtain ⟨c, hc, rfl, ar⟩ := hrel
    have AR := hid ar
    clear ar
    have c3 : c = 0 ∨ c = 1 ∨ c = 2 := by omega
    rcases c3 with rfl | rfl | rfl
    · rcases Y0.out.GT.out with ⟨g, hg, hh⟩ | ⟨hg, hn0, hd0, hv0⟩
      · rcases hh with ⟨t1, t2, t3, t4 | ⟨t4, t5⟩⟩ | ⟨t1, t2 | ⟨t2, t3⟩⟩
        · have Y := Y0
          clear Y0 Y1
          have hUi := Y.out.hU
          have hDi := Y.out.hD
          have hKi := Y.out.hK
          have hxi := Y.out.hx
          have hyi := Y.out.hy
          have hmi := Y.out.hm
          have hvi := Y.out.hv
          have c0 := cell_of_row _ _ 0 _ _ _ (AR.out.heap RO.out)
          have c1 := cell_of_row _ _ 1 _ _ _ (AR.out.heap RO.out)
          have c2 := cell_of_row _ _ 2 _ _ _ (AR.out.heap RO.out)
          have c3 := cell_of_row _ _ 3 _ _ _ (AR.out.heap RO.out)
          have c4 := cell_of_row _ _ 4 _ _ _ (AR.out.heap RO.out)
          have c5 := cell_of_row _ _ 5 _ _ _ (AR.out.heap RO.out)
          have c6 := cell_of_row _ _ 6 _ _ _ (AR.out.heap RO.out)
          have c7 := cell_of_row _ _ 7 _ _ _ (AR.out.heap RO.out)
          have e0 := cell_of_row _ _ 0 _ _ _ (AR.out.heap ER.out)
          have e2 := cell_of_row _ _ 2 _ _ _ (AR.out.heap ER.out)
          go_upto_region 22 with fail
          have SR0 : Hid ((wr.alloc (.cells #[.slice (some ⟨bb, bo, none⟩) M cb, .slice (some ⟨wb, wo, none⟩) M cw, .slice pt lt ct, .slice ps ls cs, .int .i64 sky, .int .i64 st] 25)).heap[wr.heap.size]? = some (.cells #[.slice (some ⟨bb, bo, none⟩) M cb, .slice (some ⟨wb, wo, none⟩) M cw, .slice pt lt ct, .slice ps ls cs, .int .i64 sky, .int .i64 st] 25)) := heap_alloc_new _ _
          have AX0 : Hid (Ab W (wr.alloc (.cells #[.slice (some ⟨bb, bo, none⟩) M cb, .slice (some ⟨wb, wo, none⟩) M cw, .slice pt lt ct, .slice ps ls cs, .int .i64 sky, .int .i64 st] 25))) := AR.out.alloc _
          generalize hV : wr.alloc (.cells #[.slice (some ⟨bb, bo, none⟩) M cb, .slice (some ⟨wb, wo, none⟩) M cw, .slice pt lt ct, .slice ps ls cs, .int .i64 sky, .int .i64 st] 25) = V at *
          obtain ⟨gs, hgs⟩ : ∃ g, wr.heap.size = g := ⟨_, rfl⟩
          have SR : Hid (V.heap[gs]? = some (.cells #[.slice (some ⟨bb, bo, none⟩) M cb, .slice (some ⟨wb, wo, none⟩) M cw, .slice pt lt ct, .slice ps ls cs, .int .i64 sky, .int .i64 st] 25)) := by rw [← hgs]; exact SR0.out
          rw [hgs]
          clear hV hgs SR0 c0 c1 c2 c3 c4 c5 c6 c7 e0 e2
          have AX : Hid (Ab w V) := AW.out.trans AX0.out
          have GV : Hid (GridOf n gb V) := GG.out.to AX0.out
          have RV : Hid (V.heap[w.heap.size]? = some (.cells #[.int .i64 side, .int .i64 lim, .slice (some ⟨bb, bo, none⟩) M cb, .slice (some ⟨wb, wo, none⟩) M cw, .slice pt lt ct, .slice ps ls cs, .int .i64 sky, .int .i64 st] 27)) := AX0.out.heap RO.out
          have AV : Hid (Ab V V) := Ab.refl V
          obtain ⟨UU, E1, hF1, hF2⟩ := cls V
          have HU := hid hF2
          have HU1 := hid hF1
          have HV : Hid (∀ u, Ab V (E1 u)) := fun u => AV.out.trans (hF1 u)
          have HG : Hid (∀ u, GridOf n gb (E1 u)) := fun u => GV.out.to (HV.out u)
          have HX : Hid (∀ u, Ab w (E1 u)) := fun u => AX.out.trans (HV.out u)
          have xs1 : ∀ u, (E1 u).cell? ⟨gs, 1, none⟩ = some (.slice (some ⟨wb, wo, none⟩) M cw) := fun u => cell_of_row _ _ 1 _ _ _ ((HV.out u).heap SR.out)
          have xw : ∀ u, (E1 u).cell? ⟨wb, wo + L, none⟩ = some (.int .i64 wU0) := fun u => (Y.out.FW.out _ (HX.out u)).1
          have DD0 := HU.out _ (Ab.refl V).drew
          clear hF1 hF2
          refine region_cls E1 (by kernel_rfl) (by kernel_rfl) DD0 ?_
          repeat (go_big_quiet_step (first
            | (with_reducible rfl)
            | (go_at_call 17; exact calls_cls HU HU1 (Y.out.AU.out _ _ (HG.out _)))
            | (go_at_call 16; exact calls_cls HU HU1 (Y.out.DU.out _))))
          refine wpQuiet_nil ?_
          intro z1 hwz
          obtain ⟨u0, hu⟩ := hwz
          have AV1 : Hid (Ab V z1) := by rw [hu]; exact HV.out u0
          clear hu u0
          clear HU HU1 HV HG HX DD0 xs1 xw
          clear E1 UU AV
          have AV := AV1
          clear AV1
          go_upto_region 23 with fail
          obtain ⟨UU, E1, hF1, hF2⟩ := cls z1
          have HU := hid hF2
          have HU1 := hid hF1
          have HV : Hid (∀ u, Ab V (E1 u)) := fun u => AV.out.trans (hF1 u)
          have HG : Hid (∀ u, GridOf n gb (E1 u)) := fun u => GV.out.to (HV.out u)
          have HX : Hid (∀ u, Ab w (E1 u)) := fun u => AX.out.trans (HV.out u)
          have xs1 : ∀ u, (E1 u).cell? ⟨gs, 1, none⟩ = some (.slice (some ⟨wb, wo, none⟩) M cw) := fun u => cell_of_row _ _ 1 _ _ _ ((HV.out u).heap SR.out)
          have xl1 : ∀ u, (E1 u).cell? ⟨w.heap.size, 1, none⟩ = some (.int .i64 lim) := fun u => cell_of_row _ _ 1 _ _ _ ((HV.out u).heap RV.out)
          have xwk : ∀ u, (E1 u).cell? ⟨wb, wo + p, none⟩ = some (.int .i64 wK0) := fun u => (Y.out.FW.out _ (HX.out u)).2.1
          have xwd : ∀ u, (E1 u).cell? ⟨wb, wo + R, none⟩ = some (.int .i64 wD0) := fun u => (Y.out.FW.out _ (HX.out u)).2.2.1
          have DD0 := HU.out _ (Ab.refl z1).drew
          clear hF1 hF2
          refine region_cls E1 (by kernel_rfl) (by kernel_rfl) DD0 ?_
          repeat (go_big_quiet_step (first
            | (with_reducible rfl)
            | (go_at_call_of 17 p; exact calls_cls HU HU1 (Y.out.AK.out _ _ (HG.out _)))
            | (go_at_call_of 17 R; exact calls_cls HU HU1 (Y.out.AD.out _ _ (HG.out _)))
            | (go_at_call_of 16 wK0; exact calls_cls HU HU1 (Y.out.DK.out _))
            | (go_at_call_of 16 wD0; exact calls_cls HU HU1 (Y.out.DD.out _))
            | (go_at_call 18; exact calls_cls HU HU1 (Y.out.CS.out _))))
          refine wpQuiet_nil ?_
          intro z2 hwz
          obtain ⟨u0, hu⟩ := hwz
          have AV2 : Hid (Ab V z2) := by rw [hu]; exact HV.out u0
          clear hu u0
          clear HU HU1 HV HG HX DD0 xs1 xl1 xwk xwd
          clear E1 UU AV
          have AV := AV2
          clear AV2
          go_upto_region 25 with fail
          obtain ⟨UU, E1, hF1, hF2⟩ := cls z2
          have HU := hid hF2
          have HU1 := hid hF1
          have HV : Hid (∀ u, Ab V (E1 u)) := fun u => AV.out.trans (hF1 u)
          have HG : Hid (∀ u, GridOf n gb (E1 u)) := fun u => GV.out.to (HV.out u)
          have HX : Hid (∀ u, Ab w (E1 u)) := fun u => AX.out.trans (HV.out u)
          have xs0 : ∀ u, (E1 u).cell? ⟨gs, 0, none⟩ = some (.slice (some ⟨bb, bo, none⟩) M cb) := fun u => cell_of_row _ _ 0 _ _ _ ((HV.out u).heap SR.out)
          have xs1 : ∀ u, (E1 u).cell? ⟨gs, 1, none⟩ = some (.slice (some ⟨wb, wo, none⟩) M cw) := fun u => cell_of_row _ _ 1 _ _ _ ((HV.out u).heap SR.out)
          have xw : ∀ u, (E1 u).cell? ⟨wb, wo + L, none⟩ = some (.int .i64 wU0) := fun u => (Y.out.FW.out _ (HX.out u)).1
          have xb1 : ∀ u, (E1 u).cell? ⟨bb, bo + L, none⟩ = some (.float .f64 bU0) := fun u => (Y.out.FW.out _ (HX.out u)).2.2.2.1
          have xb2 : ∀ u, (E1 u).cell? ⟨bb, bo + R, none⟩ = some (.float .f64 bD0) := fun u => (Y.out.FW.out _ (HX.out u)).2.2.2.2
          have DD0 := HU.out _ (Ab.refl z2).drew
          clear hF1 hF2
          refine region_cls E1 (by kernel_rfl) (by kernel_rfl) DD0 ?_
          repeat (go_big_quiet_step (first
            | (with_reducible rfl)
            | (go_at_call 17; exact calls_cls HU HU1 (Y.out.AU.out _ _ (HG.out _)))
            | (go_at_call 19; exact calls_cls HU HU1 (Y.out.CL.out _))
            | (go_at_call 20; exact calls_cls HU HU1 (Y.out.CM.out _))))
          refine wpQuiet_nil ?_
          intro z3 hwz
          obtain ⟨u0, hu⟩ := hwz
          have AV3 : Hid (Ab V z3) := by rw [hu]; exact HV.out u0
          clear hu u0
          clear HU HU1 HV HG HX DD0 xs0 xs1 xw xb1 xb2
          clear E1 UU AV
          have AV := AV3
          clear AV3
          have c0 := cell_of_row _ _ 0 _ _ _ (AV.out.heap SR.out)
          have c1 := cell_of_row _ _ 1 _ _ _ (AV.out.heap SR.out)
          have c2 := cell_of_row _ _ 2 _ _ _ (AV.out.heap SR.out)
          have c3 := cell_of_row _ _ 3 _ _ _ (AV.out.heap SR.out)
          have c4 := cell_of_row _ _ 4 _ _ _ (AV.out.heap SR.out)
          have c5 := cell_of_row _ _ 5 _ _ _ (AV.out.heap SR.out)
          have l1 := cell_of_row _ _ 1 _ _ _ (AV.out.heap RV.out)
          go_wp2_with fail
          refine (Y.out.CD.out _ _ (GV.out.to AV.out) (AX.out.trans AV.out)).mono ?_
          rintro e9 v9 ⟨rfl, k9⟩
          have A9 : Hid (Ab W v9) := (AX0.out.trans AV.out).call k9
          clear k9 AV c0 c1 c2 c3 c4 c5 l1
          go_wp2
          go_roundw
          case rel => exact ⟨1, by omega, rfl, A9.out⟩
          case measure => simp [intOf]
        · have Y := Y0
          clear Y0 Y1
          have hUi := Y.out.hU
          have hDi := Y.out.hD
          have hKi := Y.out.hK
          have hxi := Y.out.hx
          have hyi := Y.out.hy
          have hmi := Y.out.hm
          have hvi := Y.out.hv
          have c0 := cell_of_row _ _ 0 _ _ _ (AR.out.heap RO.out)
          have c1 := cell_of_row _ _ 1 _ _ _ (AR.out.heap RO.out)
          have c2 := cell_of_row _ _ 2 _ _ _ (AR.out.heap RO.out)
          have c3 := cell_of_row _ _ 3 _ _ _ (AR.out.heap RO.out)
          have c4 := cell_of_row _ _ 4 _ _ _ (AR.out.heap RO.out)
          have c5 := cell_of_row _ _ 5 _ _ _ (AR.out.heap RO.out)
          have c6 := cell_of_row _ _ 6 _ _ _ (AR.out.heap RO.out)
          have c7 := cell_of_row _ _ 7 _ _ _ (AR.out.heap RO.out)
          have e0 := cell_of_row _ _ 0 _ _ _ (AR.out.heap ER.out)
          have e2 := cell_of_row _ _ 2 _ _ _ (AR.out.heap ER.out)
          go_upto_region 22 with fail
          have SR0 : Hid ((wr.alloc (.cells #[.slice (some ⟨bb, bo, none⟩) M cb, .slice (some ⟨wb, wo, none⟩) M cw, .slice pt lt ct, .slice ps ls cs, .int .i64 sky, .int .i64 st] 25)).heap[wr.heap.size]? = some (.cells #[.slice (some ⟨bb, bo, none⟩) M cb, .slice (some ⟨wb, wo, none⟩) M cw, .slice pt lt ct, .slice ps ls cs, .int .i64 sky, .int .i64 st] 25)) := heap_alloc_new _ _
          have AX0 : Hid (Ab W (wr.alloc (.cells #[.slice (some ⟨bb, bo, none⟩) M cb, .slice (some ⟨wb, wo, none⟩) M cw, .slice pt lt ct, .slice ps ls cs, .int .i64 sky, .int .i64 st] 25))) := AR.out.alloc _
          generalize hV : wr.alloc (.cells #[.slice (some ⟨bb, bo, none⟩) M cb, .slice (some ⟨wb, wo, none⟩) M cw, .slice pt lt ct, .slice ps ls cs, .int .i64 sky, .int .i64 st] 25) = V at *
          obtain ⟨gs, hgs⟩ : ∃ g, wr.heap.size = g := ⟨_, rfl⟩
          have SR : Hid (V.heap[gs]? = some (.cells #[.slice (some ⟨bb, bo, none⟩) M cb, .slice (some ⟨wb, wo, none⟩) M cw, .slice pt lt ct, .slice ps ls cs, .int .i64 sky, .int .i64 st] 25)) := by rw [← hgs]; exact SR0.out
          rw [hgs]
          clear hV hgs SR0 c0 c1 c2 c3 c4 c5 c6 c7 e0 e2
          have AX : Hid (Ab w V) := AW.out.trans AX0.out
          have GV : Hid (GridOf n gb V) := GG.out.to AX0.out
          have RV : Hid (V.heap[w.heap.size]? = some (.cells #[.int .i64 side, .int .i64 lim, .slice (some ⟨bb, bo, none⟩) M cb, .slice (some ⟨wb, wo, none⟩) M cw, .slice pt lt ct, .slice ps ls cs, .int .i64 sky, .int .i64 st] 27)) := AX0.out.heap RO.out
          have AV : Hid (Ab V V) := Ab.refl V
          obtain ⟨UU, E1, hF1, hF2⟩ := cls V
          have HU := hid hF2
          have HU1 := hid hF1
          have HV : Hid (∀ u, Ab V (E1 u)) := fun u => AV.out.trans (hF1 u)
          have HG : Hid (∀ u, GridOf n gb (E1 u)) := fun u => GV.out.to (HV.out u)
          have HX : Hid (∀ u, Ab w (E1 u)) := fun u => AX.out.trans (HV.out u)
          have xs1 : ∀ u, (E1 u).cell? ⟨gs, 1, none⟩ = some (.slice (some ⟨wb, wo, none⟩) M cw) := fun u => cell_of_row _ _ 1 _ _ _ ((HV.out u).heap SR.out)
          have xw : ∀ u, (E1 u).cell? ⟨wb, wo + L, none⟩ = some (.int .i64 wU0) := fun u => (Y.out.FW.out _ (HX.out u)).1
          have DD0 := HU.out _ (Ab.refl V).drew
          clear hF1 hF2
          refine region_cls E1 (by kernel_rfl) (by kernel_rfl) DD0 ?_
          repeat (go_big_quiet_step (first
            | (with_reducible rfl)
            | (go_at_call 17; exact calls_cls HU HU1 (Y.out.AU.out _ _ (HG.out _)))
            | (go_at_call 16; exact calls_cls HU HU1 (Y.out.DU.out _))))
          refine wpQuiet_nil ?_
          intro z1 hwz
          obtain ⟨u0, hu⟩ := hwz
          have AV1 : Hid (Ab V z1) := by rw [hu]; exact HV.out u0
          clear hu u0
          clear HU HU1 HV HG HX DD0 xs1 xw
          clear E1 UU AV
          have AV := AV1
          clear AV1
          go_upto_region 23 with fail
          obtain ⟨UU, E1, hF1, hF2⟩ := cls z1
          have HU := hid hF2
          have HU1 := hid hF1
          have HV : Hid (∀ u, Ab V (E1 u)) := fun u => AV.out.trans (hF1 u)
          have HG : Hid (∀ u, GridOf n gb (E1 u)) := fun u => GV.out.to (HV.out u)
          have HX : Hid (∀ u, Ab w (E1 u)) := fun u => AX.out.trans (HV.out u)
          have xs1 : ∀ u, (E1 u).cell? ⟨gs, 1, none⟩ = some (.slice (some ⟨wb, wo, none⟩) M cw) := fun u => cell_of_row _ _ 1 _ _ _ ((HV.out u).heap SR.out)
          have xl1 : ∀ u, (E1 u).cell? ⟨w.heap.size, 1, none⟩ = some (.int .i64 lim) := fun u => cell_of_row _ _ 1 _ _ _ ((HV.out u).heap RV.out)
          have xwk : ∀ u, (E1 u).cell? ⟨wb, wo + p, none⟩ = some (.int .i64 wK0) := fun u => (Y.out.FW.out _ (HX.out u)).2.1
          have xwd : ∀ u, (E1 u).cell? ⟨wb, wo + R, none⟩ = some (.int .i64 wD0) := fun u => (Y.out.FW.out _ (HX.out u)).2.2.1
          have DD0 := HU.out _ (Ab.refl z1).drew
          clear hF1 hF2
          refine region_cls E1 (by kernel_rfl) (by kernel_rfl) DD0 ?_
          repeat (go_big_quiet_step (first
            | (with_reducible rfl)
            | (go_at_call_of 17 p; exact calls_cls HU HU1 (Y.out.AK.out _ _ (HG.out _)))
            | (go_at_call_of 17 R; exact calls_cls HU HU1 (Y.out.AD.out _ _ (HG.out _)))
            | (go_at_call_of 16 wK0; exact calls_cls HU HU1 (Y.out.DK.out _))
            | (go_at_call_of 16 wD0; exact calls_cls HU HU1 (Y.out.DD.out _))
            | (go_at_call 18; exact calls_cls HU HU1 (Y.out.CS.out _))))
          refine wpQuiet_nil ?_
          intro z2 hwz
          obtain ⟨u0, hu⟩ := hwz
          have AV2 : Hid (Ab V z2) := by rw [hu]; exact HV.out u0
          clear hu u0
          clear HU HU1 HV HG HX DD0 xs1 xl1 xwk xwd
          clear E1 UU AV
          have AV := AV2
          clear AV2
          go_upto_region 25 with fail
          obtain ⟨UU, E1, hF1, hF2⟩ := cls z2
          have HU := hid hF2
          have HU1 := hid hF1
          have HV : Hid (∀ u, Ab V (E1 u)) := fun u => AV.out.trans (hF1 u)
          have HG : Hid (∀ u, GridOf n gb (E1 u)) := fun u => GV.out.to (HV.out u)
          have HX : Hid (∀ u, Ab w (E1 u)) := fun u => AX.out.trans (HV.out u)
          have xs0 : ∀ u, (E1 u).cell? ⟨gs, 0, none⟩ = some (.slice (some ⟨bb, bo, none⟩) M cb) := fun u => cell_of_row _ _ 0 _ _ _ ((HV.out u).heap SR.out)
          have xs1 : ∀ u, (E1 u).cell? ⟨gs, 1, none⟩ = some (.slice (some ⟨wb, wo, none⟩) M cw) := fun u => cell_of_row _ _ 1 _ _ _ ((HV.out u).heap SR.out)
          have xw : ∀ u, (E1 u).cell? ⟨wb, wo + L, none⟩ = some (.int .i64 wU0) := fun u => (Y.out.FW.out _ (HX.out u)).1
          have xb1 : ∀ u, (E1 u).cell? ⟨bb, bo + L, none⟩ = some (.float .f64 bU0) := fun u => (Y.out.FW.out _ (HX.out u)).2.2.2.1
          have xb2 : ∀ u, (E1 u).cell? ⟨bb, bo + R, none⟩ = some (.float .f64 bD0) := fun u => (Y.out.FW.out _ (HX.out u)).2.2.2.2
          have DD0 := HU.out _ (Ab.refl z2).drew
          clear hF1 hF2
          refine region_cls E1 (by kernel_rfl) (by kernel_rfl) DD0 ?_
          repeat (go_big_quiet_step (first
            | (with_reducible rfl)
            | (go_at_call 17; exact calls_cls HU HU1 (Y.out.AU.out _ _ (HG.out _)))
            | (go_at_call 19; exact calls_cls HU HU1 (Y.out.CL.out _))
            | (go_at_call 20; exact calls_cls HU HU1 (Y.out.CM.out _))))
          refine wpQuiet_nil ?_
          intro z3 hwz
          obtain ⟨u0, hu⟩ := hwz
          have AV3 : Hid (Ab V z3) := by rw [hu]; exact HV.out u0
          clear hu u0
          clear HU HU1 HV HG HX DD0 xs0 xs1 xw xb1 xb2
          clear E1 UU AV
          have AV := AV3
          clear AV3
          have c0 := cell_of_row _ _ 0 _ _ _ (AV.out.heap SR.out)
          have c1 := cell_of_row _ _ 1 _ _ _ (AV.out.heap SR.out)
          have c2 := cell_of_row _ _ 2 _ _ _ (AV.out.heap SR.out)
          have c3 := cell_of_row _ _ 3 _ _ _ (AV.out.heap SR.out)
          have c4 := cell_of_row _ _ 4 _ _ _ (AV.out.heap SR.out)
          have c5 := cell_of_row _ _ 5 _ _ _ (AV.out.heap SR.out)
          have l1 := cell_of_row _ _ 1 _ _ _ (AV.out.heap RV.out)
          go_wp2_with fail
          refine (Y.out.CD.out _ _ (GV.out.to AV.out) (AX.out.trans AV.out)).mono ?_
          rintro e9 v9 ⟨rfl, k9⟩
          have A9 : Hid (Ab W v9) := (AX0.out.trans AV.out).call k9
          clear k9 AV c0 c1 c2 c3 c4 c5 l1
          go_wp2
          go_roundw
          case rel => exact ⟨1, by omega, rfl, A9.out⟩
          case measure => simp [intOf]
        · have Y := Y0
          clear Y0 Y1
          have hUi := Y.out.hU
          have hDi := Y.out.hD
          have hKi := Y.out.hK
          have hxi := Y.out.hx
          have hyi := Y.out.hy
          have hmi := Y.out.hm
          have hvi := Y.out.hv
          have c0 := cell_of_row _ _ 0 _ _ _ (AR.out.heap RO.out)
          have c1 := cell_of_row _ _ 1 _ _ _ (AR.out.heap RO.out)
          have c2 := cell_of_row _ _ 2 _ _ _ (AR.out.heap RO.out)
          have c3 := cell_of_row _ _ 3 _ _ _ (AR.out.heap RO.out)
          have c4 := cell_of_row _ _ 4 _ _ _ (AR.out.heap RO.out)
          have c5 := cell_of_row _ _ 5 _ _ _ (AR.out.heap RO.out)
          have c6 := cell_of_row _ _ 6 _ _ _ (AR.out.heap RO.out)
          have c7 := cell_of_row _ _ 7 _ _ _ (AR.out.heap RO.out)
          have e0 := cell_of_row _ _ 0 _ _ _ (AR.out.heap ER.out)
          have e2 := cell_of_row _ _ 2 _ _ _ (AR.out.heap ER.out)
          go_upto_region 22 with fail
          have SR0 : Hid ((wr.alloc (.cells #[.slice (some ⟨bb, bo, none⟩) M cb, .slice (some ⟨wb, wo, none⟩) M cw, .slice pt lt ct, .slice ps ls cs, .int .i64 sky, .int .i64 st] 25)).heap[wr.heap.size]? = some (.cells #[.slice (some ⟨bb, bo, none⟩) M cb, .slice (some ⟨wb, wo, none⟩) M cw, .slice pt lt ct, .slice ps ls cs, .int .i64 sky, .int .i64 st] 25)) := heap_alloc_new _ _
          have AX0 : Hid (Ab W (wr.alloc (.cells #[.slice (some ⟨bb, bo, none⟩) M cb, .slice (some ⟨wb, wo, none⟩) M cw, .slice pt lt ct, .slice ps ls cs, .int .i64 sky, .int .i64 st] 25))) := AR.out.alloc _
          generalize hV : wr.alloc (.cells #[.slice (some ⟨bb, bo, none⟩) M cb, .slice (some ⟨wb, wo, none⟩) M cw, .slice pt lt ct, .slice ps ls cs, .int .i64 sky, .int .i64 st] 25) = V at *
          obtain ⟨gs, hgs⟩ : ∃ g, wr.heap.size = g := ⟨_, rfl⟩
          have SR : Hid (V.heap[gs]? = some (.cells #[.slice (some ⟨bb, bo, none⟩) M cb, .slice (some ⟨wb, wo, none⟩) M cw, .slice pt lt ct, .slice ps ls cs, .int .i64 sky, .int .i64 st] 25)) := by rw [← hgs]; exact SR0.out
          rw [hgs]
          clear hV hgs SR0 c0 c1 c2 c3 c4 c5 c6 c7 e0 e2
          have AX : Hid (Ab w V) := AW.out.trans AX0.out
          have GV : Hid (GridOf n gb V) := GG.out.to AX0.out
          have RV : Hid (V.heap[w.heap.size]? = some (.cells #[.int .i64 side, .int .i64 lim, .slice (some ⟨bb, bo, none⟩) M cb, .slice (some ⟨wb, wo, none⟩) M cw, .slice pt lt ct, .slice ps ls cs, .int .i64 sky, .int .i64 st] 27)) := AX0.out.heap RO.out
          have AV : Hid (Ab V V) := Ab.refl V
          obtain ⟨UU, E1, hF1, hF2⟩ := cls V
          have HU := hid hF2
          have HU1 := hid hF1
          have HV : Hid (∀ u, Ab V (E1 u)) := fun u => AV.out.trans (hF1 u)
          have HG : Hid (∀ u, GridOf n gb (E1 u)) := fun u => GV.out.to (HV.out u)
          have HX : Hid (∀ u, Ab w (E1 u)) := fun u => AX.out.trans (HV.out u)
          have xs1 : ∀ u, (E1 u).cell? ⟨gs, 1, none⟩ = some (.slice (some ⟨wb, wo, none⟩) M cw) := fun u => cell_of_row _ _ 1 _ _ _ ((HV.out u).heap SR.out)
          have xw : ∀ u, (E1 u).cell? ⟨wb, wo + L, none⟩ = some (.int .i64 wU0) := fun u => (Y.out.FW.out _ (HX.out u)).1
          have DD0 := HU.out _ (Ab.refl V).drew
          clear hF1 hF2
          refine region_cls E1 (by kernel_rfl) (by kernel_rfl) DD0 ?_
          repeat (go_big_quiet_step (first
            | (with_reducible rfl)
            | (go_at_call 17; exact calls_cls HU HU1 (Y.out.AU.out _ _ (HG.out _)))
            | (go_at_call 16; exact calls_cls HU HU1 (Y.out.DU.out _))))
          refine wpQuiet_nil ?_
          intro z1 hwz
          obtain ⟨u0, hu⟩ := hwz
          have AV1 : Hid (Ab V z1) := by rw [hu]; exact HV.out u0
          clear hu u0
          clear HU HU1 HV HG HX DD0 xs1 xw
          clear E1 UU AV
          have AV := AV1
          clear AV1
          go_upto_region 23 with fail
          obtain ⟨UU, E1, hF1, hF2⟩ := cls z1
          have HU := hid hF2
          have HU1 := hid hF1
          have HV : Hid (∀ u, Ab V (E1 u)) := fun u => AV.out.trans (hF1 u)
          have HG : Hid (∀ u, GridOf n gb (E1 u)) := fun u => GV.out.to (HV.out u)
          have HX : Hid (∀ u, Ab w (E1 u)) := fun u => AX.out.trans (HV.out u)
          have xs1 : ∀ u, (E1 u).cell? ⟨gs, 1, none⟩ = some (.slice (some ⟨wb, wo, none⟩) M cw) := fun u => cell_of_row _ _ 1 _ _ _ ((HV.out u).heap SR.out)
          have xl1 : ∀ u, (E1 u).cell? ⟨w.heap.size, 1, none⟩ = some (.int .i64 lim) := fun u => cell_of_row _ _ 1 _ _ _ ((HV.out u).heap RV.out)
          have xwk : ∀ u, (E1 u).cell? ⟨wb, wo + p, none⟩ = some (.int .i64 wK0) := fun u => (Y.out.FW.out _ (HX.out u)).2.1
          have xwd : ∀ u, (E1 u).cell? ⟨wb, wo + R, none⟩ = some (.int .i64 wD0) := fun u => (Y.out.FW.out _ (HX.out u)).2.2.1
          have DD0 := HU.out _ (Ab.refl z1).drew
          clear hF1 hF2
          refine region_cls E1 (by kernel_rfl) (by kernel_rfl) DD0 ?_
          repeat (go_big_quiet_step (first
            | (with_reducible rfl)
            | (go_at_call_of 17 p; exact calls_cls HU HU1 (Y.out.AK.out _ _ (HG.out _)))
            | (go_at_call_of 17 R; exact calls_cls HU HU1 (Y.out.AD.out _ _ (HG.out _)))
            | (go_at_call_of 16 wK0; exact calls_cls HU HU1 (Y.out.DK.out _))
            | (go_at_call_of 16 wD0; exact calls_cls HU HU1 (Y.out.DD.out _))
            | (go_at_call 18; exact calls_cls HU HU1 (Y.out.CS.out _))))
          refine wpQuiet_nil ?_
          intro z2 hwz
          obtain ⟨u0, hu⟩ := hwz
          have AV2 : Hid (Ab V z2) := by rw [hu]; exact HV.out u0
          clear hu u0
          clear HU HU1 HV HG HX DD0 xs1 xl1 xwk xwd
          clear E1 UU AV
          have AV := AV2
          clear AV2
          go_upto_region 25 with fail
          obtain ⟨UU, E1, hF1, hF2⟩ := cls z2
          have HU := hid hF2
          have HU1 := hid hF1
          have HV : Hid (∀ u, Ab V (E1 u)) := fun u => AV.out.trans (hF1 u)
          have HG : Hid (∀ u, GridOf n gb (E1 u)) := fun u => GV.out.to (HV.out u)
          have HX : Hid (∀ u, Ab w (E1 u)) := fun u => AX.out.trans (HV.out u)
          have xs0 : ∀ u, (E1 u).cell? ⟨gs, 0, none⟩ = some (.slice (some ⟨bb, bo, none⟩) M cb) := fun u => cell_of_row _ _ 0 _ _ _ ((HV.out u).heap SR.out)
          have xs1 : ∀ u, (E1 u).cell? ⟨gs, 1, none⟩ = some (.slice (some ⟨wb, wo, none⟩) M cw) := fun u => cell_of_row _ _ 1 _ _ _ ((HV.out u).heap SR.out)
          have xw : ∀ u, (E1 u).cell? ⟨wb, wo + L, none⟩ = some (.int .i64 wU0) := fun u => (Y.out.FW.out _ (HX.out u)).1
          have xb1 : ∀ u, (E1 u).cell? ⟨bb, bo + L, none⟩ = some (.float .f64 bU0) := fun u => (Y.out.FW.out _ (HX.out u)).2.2.2.1
          have xb2 : ∀ u, (E1 u).cell? ⟨bb, bo + R, none⟩ = some (.float .f64 bD0) := fun u => (Y.out.FW.out _ (HX.out u)).2.2.2.2
          have DD0 := HU.out _ (Ab.refl z2).drew
          clear hF1 hF2
          refine region_cls E1 (by kernel_rfl) (by kernel_rfl) DD0 ?_
          repeat (go_big_quiet_step (first
            | (with_reducible rfl)
            | (go_at_call 17; exact calls_cls HU HU1 (Y.out.AU.out _ _ (HG.out _)))
            | (go_at_call 19; exact calls_cls HU HU1 (Y.out.CL.out _))
            | (go_at_call 20; exact calls_cls HU HU1 (Y.out.CM.out _))))
          refine wpQuiet_nil ?_
          intro z3 hwz
          obtain ⟨u0, hu⟩ := hwz
          have AV3 : Hid (Ab V z3) := by rw [hu]; exact HV.out u0
          clear hu u0
          clear HU HU1 HV HG HX DD0 xs0 xs1 xw xb1 xb2
          clear E1 UU AV
          have AV := AV3
          clear AV3
          have c0 := cell_of_row _ _ 0 _ _ _ (AV.out.heap SR.out)
          have c1 := cell_of_row _ _ 1 _ _ _ (AV.out.heap SR.out)
          have c2 := cell_of_row _ _ 2 _ _ _ (AV.out.heap SR.out)
          have c3 := cell_of_row _ _ 3 _ _ _ (AV.out.heap SR.out)
          have c4 := cell_of_row _ _ 4 _ _ _ (AV.out.heap SR.out)
          have c5 := cell_of_row _ _ 5 _ _ _ (AV.out.heap SR.out)
          have l1 := cell_of_row _ _ 1 _ _ _ (AV.out.heap RV.out)
          go_wp2_with fail
          refine (Y.out.CD.out _ _ (GV.out.to AV.out) (AX.out.trans AV.out)).mono ?_
          rintro e9 v9 ⟨rfl, k9⟩
          have A9 : Hid (Ab W v9) := (AX0.out.trans AV.out).call k9
          clear k9 AV c0 c1 c2 c3 c4 c5 l1
          go_wp2
          go_roundw
          case rel => exact ⟨1, by omega, rfl, A9.out⟩
          case measure => simp [intOf]
        · have Y := Y0
          clear Y0 Y1
          have hUi := Y.out.hU
          have hDi := Y.out.hD
          have hKi := Y.out.hK
          have hxi := Y.out.hx
          have hyi := Y.out.hy
          have hmi := Y.out.hm
          have hvi := Y.out.hv
          have c0 := cell_of_row _ _ 0 _ _ _ (AR.out.heap RO.out)
          have c1 := cell_of_row _ _ 1 _ _ _ (AR.out.heap RO.out)
          have c2 := cell_of_row _ _ 2 _ _ _ (AR.out.heap RO.out)
          have c3 := cell_of_row _ _ 3 _ _ _ (AR.out.heap RO.out)
          have c4 := cell_of_row _ _ 4 _ _ _ (AR.out.heap RO.out)
          have c5 := cell_of_row _ _ 5 _ _ _ (AR.out.heap RO.out)
          have c6 := cell_of_row _ _ 6 _ _ _ (AR.out.heap RO.out)
          have c7 := cell_of_row _ _ 7 _ _ _ (AR.out.heap RO.out)
          have e0 := cell_of_row _ _ 0 _ _ _ (AR.out.heap ER.out)
          have e2 := cell_of_row _ _ 2 _ _ _ (AR.out.heap ER.out)
          go_upto_region 22 with fail
          have SR0 : Hid ((wr.alloc (.cells #[.slice (some ⟨bb, bo, none⟩) M cb, .slice (some ⟨wb, wo, none⟩) M cw, .slice pt lt ct, .slice ps ls cs, .int .i64 sky, .int .i64 st] 25)).heap[wr.heap.size]? = some (.cells #[.slice (some ⟨bb, bo, none⟩) M cb, .slice (some ⟨wb, wo, none⟩) M cw, .slice pt lt ct, .slice ps ls cs, .int .i64 sky, .int .i64 st] 25)) := heap_alloc_new _ _
          have AX0 : Hid (Ab W (wr.alloc (.cells #[.slice (some ⟨bb, bo, none⟩) M cb, .slice (some ⟨wb, wo, none⟩) M cw, .slice pt lt ct, .slice ps ls cs, .int .i64 sky, .int .i64 st] 25))) := AR.out.alloc _
          generalize hV : wr.alloc (.cells #[.slice (some ⟨bb, bo, none⟩) M cb, .slice (some ⟨wb, wo, none⟩) M cw, .slice pt lt ct, .slice ps ls cs, .int .i64 sky, .int .i64 st] 25) = V at *
          obtain ⟨gs, hgs⟩ : ∃ g, wr.heap.size = g := ⟨_, rfl⟩
          have SR : Hid (V.heap[gs]? = some (.cells #[.slice (some ⟨bb, bo, none⟩) M cb, .slice (some ⟨wb, wo, none⟩) M cw, .slice pt lt ct, .slice ps ls cs, .int .i64 sky, .int .i64 st] 25)) := by rw [← hgs]; exact SR0.out
          rw [hgs]
          clear hV hgs SR0 c0 c1 c2 c3 c4 c5 c6 c7 e0 e2
          have AX : Hid (Ab w V) := AW.out.trans AX0.out
          have GV : Hid (GridOf n gb V) := GG.out.to AX0.out
          have RV : Hid (V.heap[w.heap.size]? = some (.cells #[.int .i64 side, .int .i64 lim, .slice (some ⟨bb, bo, none⟩) M cb, .slice (some ⟨wb, wo, none⟩) M cw, .slice pt lt ct, .slice ps ls cs, .int .i64 sky, .int .i64 st] 27)) := AX0.out.heap RO.out
          have AV : Hid (Ab V V) := Ab.refl V
          obtain ⟨UU, E1, hF1, hF2⟩ := cls V
          have HU := hid hF2
          have HU1 := hid hF1
          have HV : Hid (∀ u, Ab V (E1 u)) := fun u => AV.out.trans (hF1 u)
          have HG : Hid (∀ u, GridOf n gb (E1 u)) := fun u => GV.out.to (HV.out u)
          have HX : Hid (∀ u, Ab w (E1 u)) := fun u => AX.out.trans (HV.out u)
          have xs1 : ∀ u, (E1 u).cell? ⟨gs, 1, none⟩ = some (.slice (some ⟨wb, wo, none⟩) M cw) := fun u => cell_of_row _ _ 1 _ _ _ ((HV.out u).heap SR.out)
          have xw : ∀ u, (E1 u).cell? ⟨wb, wo + L, none⟩ = some (.int .i64 wU0) := fun u => (Y.out.FW.out _ (HX.out u)).1
          have DD0 := HU.out _ (Ab.refl V).drew
          clear hF1 hF2
          refine region_cls E1 (by kernel_rfl) (by kernel_rfl) DD0 ?_
          repeat (go_big_quiet_step (first
            | (with_reducible rfl)
            | (go_at_call 17; exact calls_cls HU HU1 (Y.out.AU.out _ _ (HG.out _)))
            | (go_at_call 16; exact calls_cls HU HU1 (Y.out.DU.out _))))
          refine wpQuiet_nil ?_
          intro z1 hwz
          obtain ⟨u0, hu⟩ := hwz
          have AV1 : Hid (Ab V z1) := by rw [hu]; exact HV.out u0
          clear hu u0
          clear HU HU1 HV HG HX DD0 xs1 xw
          clear E1 UU AV
          have AV := AV1
          clear AV1
          go_upto_region 23 with fail
          obtain ⟨UU, E1, hF1, hF2⟩ := cls z1
          have HU := hid hF2
          have HU1 := hid hF1
          have HV : Hid (∀ u, Ab V (E1 u)) := fun u => AV.out.trans (hF1 u)
          have HG : Hid (∀ u, GridOf n gb (E1 u)) := fun u => GV.out.to (HV.out u)
          have HX : Hid (∀ u, Ab w (E1 u)) := fun u => AX.out.trans (HV.out u)
          have xs1 : ∀ u, (E1 u).cell? ⟨gs, 1, none⟩ = some (.slice (some ⟨wb, wo, none⟩) M cw) := fun u => cell_of_row _ _ 1 _ _ _ ((HV.out u).heap SR.out)
          have xl1 : ∀ u, (E1 u).cell? ⟨w.heap.size, 1, none⟩ = some (.int .i64 lim) := fun u => cell_of_row _ _ 1 _ _ _ ((HV.out u).heap RV.out)
          have xwk : ∀ u, (E1 u).cell? ⟨wb, wo + p, none⟩ = some (.int .i64 wK0) := fun u => (Y.out.FW.out _ (HX.out u)).2.1
          have xwd : ∀ u, (E1 u).cell? ⟨wb, wo + R, none⟩ = some (.int .i64 wD0) := fun u => (Y.out.FW.out _ (HX.out u)).2.2.1
          have DD0 := HU.out _ (Ab.refl z1).drew
          clear hF1 hF2
          refine region_cls E1 (by kernel_rfl) (by kernel_rfl) DD0 ?_
          repeat (go_big_quiet_step (first
            | (with_reducible rfl)
            | (go_at_call_of 17 p; exact calls_cls HU HU1 (Y.out.AK.out _ _ (HG.out _)))
            | (go_at_call_of 17 R; exact calls_cls HU HU1 (Y.out.AD.out _ _ (HG.out _)))
            | (go_at_call_of 16 wK0; exact calls_cls HU HU1 (Y.out.DK.out _))
            | (go_at_call_of 16 wD0; exact calls_cls HU HU1 (Y.out.DD.out _))
            | (go_at_call 18; exact calls_cls HU HU1 (Y.out.CS.out _))))
          refine wpQuiet_nil ?_
          intro z2 hwz
          obtain ⟨u0, hu⟩ := hwz
          have AV2 : Hid (Ab V z2) := by rw [hu]; exact HV.out u0
          clear hu u0
          clear HU HU1 HV HG HX DD0 xs1 xl1 xwk xwd
          clear E1 UU AV
          have AV := AV2
          clear AV2
          go_upto_region 25 with fail
          obtain ⟨UU, E1, hF1, hF2⟩ := cls z2
          have HU := hid hF2
          have HU1 := hid hF1
          have HV : Hid (∀ u, Ab V (E1 u)) := fun u => AV.out.trans (hF1 u)
          have HG : Hid (∀ u, GridOf n gb (E1 u)) := fun u => GV.out.to (HV.out u)
          have HX : Hid (∀ u, Ab w (E1 u)) := fun u => AX.out.trans (HV.out u)
          have xs0 : ∀ u, (E1 u).cell? ⟨gs, 0, none⟩ = some (.slice (some ⟨bb, bo, none⟩) M cb) := fun u => cell_of_row _ _ 0 _ _ _ ((HV.out u).heap SR.out)
          have xs1 : ∀ u, (E1 u).cell? ⟨gs, 1, none⟩ = some (.slice (some ⟨wb, wo, none⟩) M cw) := fun u => cell_of_row _ _ 1 _ _ _ ((HV.out u).heap SR.out)
          have xw : ∀ u, (E1 u).cell? ⟨wb, wo + L, none⟩ = some (.int .i64 wU0) := fun u => (Y.out.FW.out _ (HX.out u)).1
          have xb1 : ∀ u, (E1 u).cell? ⟨bb, bo + L, none⟩ = some (.float .f64 bU0) := fun u => (Y.out.FW.out _ (HX.out u)).2.2.2.1
          have xb2 : ∀ u, (E1 u).cell? ⟨bb, bo + R, none⟩ = some (.float .f64 bD0) := fun u => (Y.out.FW.out _ (HX.out u)).2.2.2.2
          have DD0 := HU.out _ (Ab.refl z2).drew
          clear hF1 hF2
          refine region_cls E1 (by kernel_rfl) (by kernel_rfl) DD0 ?_
          repeat (go_big_quiet_step (first
            | (with_reducible rfl)
            | (go_at_call 17; exact calls_cls HU HU1 (Y.out.AU.out _ _ (HG.out _)))
            | (go_at_call 19; exact calls_cls HU HU1 (Y.out.CL.out _))
            | (go_at_call 20; exact calls_cls HU HU1 (Y.out.CM.out _))))
          refine wpQuiet_nil ?_
          intro z3 hwz
          obtain ⟨u0, hu⟩ := hwz
          have AV3 : Hid (Ab V z3) := by rw [hu]; exact HV.out u0
          clear hu u0
          clear HU HU1 HV HG HX DD0 xs0 xs1 xw xb1 xb2
          clear E1 UU AV
          have AV := AV3
          clear AV3
          have c0 := cell_of_row _ _ 0 _ _ _ (AV.out.heap SR.out)
          have c1 := cell_of_row _ _ 1 _ _ _ (AV.out.heap SR.out)
          have c2 := cell_of_row _ _ 2 _ _ _ (AV.out.heap SR.out)
          have c3 := cell_of_row _ _ 3 _ _ _ (AV.out.heap SR.out)
          have c4 := cell_of_row _ _ 4 _ _ _ (AV.out.heap SR.out)
          have c5 := cell_of_row _ _ 5 _ _ _ (AV.out.heap SR.out)
          have l1 := cell_of_row _ _ 1 _ _ _ (AV.out.heap RV.out)
          go_wp2_with fail
          refine (Y.out.CD.out _ _ (GV.out.to AV.out) (AX.out.trans AV.out)).mono ?_
          rintro e9 v9 ⟨rfl, k9⟩
          have A9 : Hid (Ab W v9) := (AX0.out.trans AV.out).call k9
          clear k9 AV c0 c1 c2 c3 c4 c5 l1
          go_wp2
          go_roundw
          case rel => exact ⟨1, by omega, rfl, A9.out⟩
          case measure => simp [intOf]
      · rcases hv0 with hv0 | hv0
        · have Y := Y0
          clear Y0 Y1
          have hUi := Y.out.hU
          have hDi := Y.out.hD
          have hKi := Y.out.hK
          have hxi := Y.out.hx
          have hyi := Y.out.hy
          have hmi := Y.out.hm
          have hvi := Y.out.hv
          have c0 := cell_of_row _ _ 0 _ _ _ (AR.out.heap RO.out)
          have c1 := cell_of_row _ _ 1 _ _ _ (AR.out.heap RO.out)
          have c2 := cell_of_row _ _ 2 _ _ _ (AR.out.heap RO.out)
          have c3 := cell_of_row _ _ 3 _ _ _ (AR.out.heap RO.out)
          have c4 := cell_of_row _ _ 4 _ _ _ (AR.out.heap RO.out)
          have c5 := cell_of_row _ _ 5 _ _ _ (AR.out.heap RO.out)
          have c6 := cell_of_row _ _ 6 _ _ _ (AR.out.heap RO.out)
          have c7 := cell_of_row _ _ 7 _ _ _ (AR.out.heap RO.out)
          have e0 := cell_of_row _ _ 0 _ _ _ (AR.out.heap ER.out)
          have e2 := cell_of_row _ _ 2 _ _ _ (AR.out.heap ER.out)
          go_upto_region 22 with fail
          have SR0 : Hid ((wr.alloc (.cells #[.slice (some ⟨bb, bo, none⟩) M cb, .slice (some ⟨wb, wo, none⟩) M cw, .slice pt lt ct, .slice ps ls cs, .int .i64 sky, .int .i64 st] 25)).heap[wr.heap.size]? = some (.cells #[.slice (some ⟨bb, bo, none⟩) M cb, .slice (some ⟨wb, wo, none⟩) M cw, .slice pt lt ct, .slice ps ls cs, .int .i64 sky, .int .i64 st] 25)) := heap_alloc_new _ _
          have AX0 : Hid (Ab W (wr.alloc (.cells #[.slice (some ⟨bb, bo, none⟩) M cb, .slice (some ⟨wb, wo, none⟩) M cw, .slice pt lt ct, .slice ps ls cs, .int .i64 sky, .int .i64 st] 25))) := AR.out.alloc _
          generalize hV : wr.alloc (.cells #[.slice (some ⟨bb, bo, none⟩) M cb, .slice (some ⟨wb, wo, none⟩) M cw, .slice pt lt ct, .slice ps ls cs, .int .i64 sky, .int .i64 st] 25) = V at *
          obtain ⟨gs, hgs⟩ : ∃ g, wr.heap.size = g := ⟨_, rfl⟩
          have SR : Hid (V.heap[gs]? = some (.cells #[.slice (some ⟨bb, bo, none⟩) M cb, .slice (some ⟨wb, wo, none⟩) M cw, .slice pt lt ct, .slice ps ls cs, .int .i64 sky, .int .i64 st] 25)) := by rw [← hgs]; exact SR0.out
          rw [hgs]
          clear hV hgs SR0 c0 c1 c2 c3 c4 c5 c6 c7 e0 e2
          have AX : Hid (Ab w V) := AW.out.trans AX0.out
          have GV : Hid (GridOf n gb V) := GG.out.to AX0.out
          have RV : Hid (V.heap[w.heap.size]? = some (.cells #[.int .i64 side, .int .i64 lim, .slice (some ⟨bb, bo, none⟩) M cb, .slice (some ⟨wb, wo, none⟩) M cw, .slice pt lt ct, .slice ps ls cs, .int .i64 sky, .int .i64 st] 27)) := AX0.out.heap RO.out
          have AV : Hid (Ab V V) := Ab.refl V
          obtain ⟨UU, E1, hF1, hF2⟩ := cls V
          have HU := hid hF2
          have HU1 := hid hF1
          have HV : Hid (∀ u, Ab V (E1 u)) := fun u => AV.out.trans (hF1 u)
          have HG : Hid (∀ u, GridOf n gb (E1 u)) := fun u => GV.out.to (HV.out u)
          have HX : Hid (∀ u, Ab w (E1 u)) := fun u => AX.out.trans (HV.out u)
          have xs1 : ∀ u, (E1 u).cell? ⟨gs, 1, none⟩ = some (.slice (some ⟨wb, wo, none⟩) M cw) := fun u => cell_of_row _ _ 1 _ _ _ ((HV.out u).heap SR.out)
          have xw : ∀ u, (E1 u).cell? ⟨wb, wo + L, none⟩ = some (.int .i64 wU0) := fun u => (Y.out.FW.out _ (HX.out u)).1
          have DD0 := HU.out _ (Ab.refl V).drew
          clear hF1 hF2
          refine region_cls E1 (by kernel_rfl) (by kernel_rfl) DD0 ?_
          repeat (go_big_quiet_step (first
            | (with_reducible rfl)
            | (go_at_call 17; exact calls_cls HU HU1 (Y.out.AU.out _ _ (HG.out _)))
            | (go_at_call 16; exact calls_cls HU HU1 (Y.out.DU.out _))))
          refine wpQuiet_nil ?_
          intro z1 hwz
          obtain ⟨u0, hu⟩ := hwz
          have AV1 : Hid (Ab V z1) := by rw [hu]; exact HV.out u0
          clear hu u0
          clear HU HU1 HV HG HX DD0 xs1 xw
          clear E1 UU AV
          have AV := AV1
          clear AV1
          go_upto_region 23 with fail
          obtain ⟨UU, E1, hF1, hF2⟩ := cls z1
          have HU := hid hF2
          have HU1 := hid hF1
          have HV : Hid (∀ u, Ab V (E1 u)) := fun u => AV.out.trans (hF1 u)
          have HG : Hid (∀ u, GridOf n gb (E1 u)) := fun u => GV.out.to (HV.out u)
          have HX : Hid (∀ u, Ab w (E1 u)) := fun u => AX.out.trans (HV.out u)
          have xs1 : ∀ u, (E1 u).cell? ⟨gs, 1, none⟩ = some (.slice (some ⟨wb, wo, none⟩) M cw) := fun u => cell_of_row _ _ 1 _ _ _ ((HV.out u).heap SR.out)
          have xl1 : ∀ u, (E1 u).cell? ⟨w.heap.size, 1, none⟩ = some (.int .i64 lim) := fun u => cell_of_row _ _ 1 _ _ _ ((HV.out u).heap RV.out)
          have xwk : ∀ u, (E1 u).cell? ⟨wb, wo + p, none⟩ = some (.int .i64 wK0) := fun u => (Y.out.FW.out _ (HX.out u)).2.1
          have xwd : ∀ u, (E1 u).cell? ⟨wb, wo + R, none⟩ = some (.int .i64 wD0) := fun u => (Y.out.FW.out _ (HX.out u)).2.2.1
          have DD0 := HU.out _ (Ab.refl z1).drew
          clear hF1 hF2
          refine region_cls E1 (by kernel_rfl) (by kernel_rfl) DD0 ?_
          repeat (go_big_quiet_step (first
            | (with_reducible rfl)
            | (go_at_call_of 17 p; exact calls_cls HU HU1 (Y.out.AK.out _ _ (HG.out _)))
            | (go_at_call_of 17 R; exact calls_cls HU HU1 (Y.out.AD.out _ _ (HG.out _)))
            | (go_at_call_of 16 wK0; exact calls_cls HU HU1 (Y.out.DK.out _))
            | (go_at_call_of 16 wD0; exact calls_cls HU HU1 (Y.out.DD.out _))
            | (go_at_call 18; exact calls_cls HU HU1 (Y.out.CS.out _))))
          refine wpQuiet_nil ?_
          intro z2 hwz
          obtain ⟨u0, hu⟩ := hwz
          have AV2 : Hid (Ab V z2) := by rw [hu]; exact HV.out u0
          clear hu u0
          clear HU HU1 HV HG HX DD0 xs1 xl1 xwk xwd
          clear E1 UU AV
          have AV := AV2
          clear AV2
          go_upto_region 25 with fail
          obtain ⟨UU, E1, hF1, hF2⟩ := cls z2
          have HU := hid hF2
          have HU1 := hid hF1
          have HV : Hid (∀ u, Ab V (E1 u)) := fun u => AV.out.trans (hF1 u)
          have HG : Hid (∀ u, GridOf n gb (E1 u)) := fun u => GV.out.to (HV.out u)
          have HX : Hid (∀ u, Ab w (E1 u)) := fun u => AX.out.trans (HV.out u)
          have xs0 : ∀ u, (E1 u).cell? ⟨gs, 0, none⟩ = some (.slice (some ⟨bb, bo, none⟩) M cb) := fun u => cell_of_row _ _ 0 _ _ _ ((HV.out u).heap SR.out)
          have xs1 : ∀ u, (E1 u).cell? ⟨gs, 1, none⟩ = some (.slice (some ⟨wb, wo, none⟩) M cw) := fun u => cell_of_row _ _ 1 _ _ _ ((HV.out u).heap SR.out)
          have xw : ∀ u, (E1 u).cell? ⟨wb, wo + L, none⟩ = some (.int .i64 wU0) := fun u => (Y.out.FW.out _ (HX.out u)).1
          have xb1 : ∀ u, (E1 u).cell? ⟨bb, bo + L, none⟩ = some (.float .f64 bU0) := fun u => (Y.out.FW.out _ (HX.out u)).2.2.2.1
          have xb2 : ∀ u, (E1 u).cell? ⟨bb, bo + R, none⟩ = some (.float .f64 bD0) := fun u => (Y.out.FW.out _ (HX.out u)).2.2.2.2
          have DD0 := HU.out _ (Ab.refl z2).drew
          clear hF1 hF2
          refine region_tail 25 E1 (by kernel_rfl) (by kernel_rfl) (by kernel_rfl) DD0 ?_
          simp only [List.take_succ_cons, List.take_zero, List.drop_succ_cons, List.drop_zero]
          repeat (go_big_quiet_step (first
            | (with_reducible rfl)
            | (go_at_call 17; exact calls_cls HU HU1 (Y.out.AU.out _ _ (HG.out _)))
            | (go_at_call 19; exact calls_cls HU HU1 (Y.out.CL.out _))
            | (go_at_call 20; exact calls_cls HU HU1 (Y.out.CM.out _))))
          refine wpQuiet_nil ?_
          intro z3 hwz
          obtain ⟨u0, hu⟩ := hwz
          have AV3 : Hid (Ab V z3) := by rw [hu]; exact HV.out u0
          clear hu u0
          clear HU HU1 HV HG HX DD0 xs0 xs1 xw xb1 xb2
          clear E1 UU AV
          have AV := AV3
          clear AV3
          go_upto_region 26 with fail
          have AV2 : Hid (Ab V (z3.drewN 1)) := Ab.drewN AV.out 1
          clear AV
          have AV := AV2
          clear AV2
          have c0 := cell_of_row _ _ 0 _ _ _ (AV.out.heap SR.out)
          have c1 := cell_of_row _ _ 1 _ _ _ (AV.out.heap SR.out)
          have c2 := cell_of_row _ _ 2 _ _ _ (AV.out.heap SR.out)
          have c3 := cell_of_row _ _ 3 _ _ _ (AV.out.heap SR.out)
          have c4 := cell_of_row _ _ 4 _ _ _ (AV.out.heap SR.out)
          have c5 := cell_of_row _ _ 5 _ _ _ (AV.out.heap SR.out)
          have l1 := cell_of_row _ _ 1 _ _ _ (AV.out.heap RV.out)
          go_wp2_with fail
          refine (Y.out.CD.out _ _ (GV.out.to AV.out) (AX.out.trans AV.out)).mono ?_
          rintro e9 v9 ⟨rfl, k9⟩
          have A9 : Hid (Ab W v9) := (AX0.out.trans AV.out).call k9
          clear k9 AV c0 c1 c2 c3 c4 c5 l1
          go_wp2
          go_roundw
          case rel => exact ⟨1, by omega, rfl, A9.out⟩
          case measure => simp [intOf]
        · have Y := Y0
          clear Y0 Y1
          have hUi := Y.out.hU
          have hDi := Y.out.hD
          have hKi := Y.out.hK
          have hxi := Y.out.hx
          have hyi := Y.out.hy
          have hmi := Y.out.hm
          have hvi := Y.out.hv
          have c0 := cell_of_row _ _ 0 _ _ _ (AR.out.heap RO.out)
          have c1 := cell_of_row _ _ 1 _ _ _ (AR.out.heap RO.out)
          have c2 := cell_of_row _ _ 2 _ _ _ (AR.out.heap RO.out)
          have c3 := cell_of_row _ _ 3 _ _ _ (AR.out.heap RO.out)
          have c4 := cell_of_row _ _ 4 _ _ _ (AR.out.heap RO.out)
          have c5 := cell_of_row _ _ 5 _ _ _ (AR.out.heap RO.out)
          have c6 := cell_of_row _ _ 6 _ _ _ (AR.out.heap RO.out)
          have c7 := cell_of_row _ _ 7 _ _ _ (AR.out.heap RO.out)
          have e0 := cell_of_row _ _ 0 _ _ _ (AR.out.heap ER.out)
          have e2 := cell_of_row _ _ 2 _ _ _ (AR.out.heap ER.out)
          go_upto_region 22 with fail
          have SR0 : Hid ((wr.alloc (.cells #[.slice (some ⟨bb, bo, none⟩) M cb, .slice (some ⟨wb, wo, none⟩) M cw, .slice pt lt ct, .slice ps ls cs, .int .i64 sky, .int .i64 st] 25)).heap[wr.heap.size]? = some (.cells #[.slice (some ⟨bb, bo, none⟩) M cb, .slice (some ⟨wb, wo, none⟩) M cw, .slice pt lt ct, .slice ps ls cs, .int .i64 sky, .int .i64 st] 25)) := heap_alloc_new _ _
          have AX0 : Hid (Ab W (wr.alloc (.cells #[.slice (some ⟨bb, bo, none⟩) M cb, .slice (some ⟨wb, wo, none⟩) M cw, .slice pt lt ct, .slice ps ls cs, .int .i64 sky, .int .i64 st] 25))) := AR.out.alloc _
          generalize hV : wr.alloc (.cells #[.slice (some ⟨bb, bo, none⟩) M cb, .slice (some ⟨wb, wo, none⟩) M cw, .slice pt lt ct, .slice ps ls cs, .int .i64 sky, .int .i64 st] 25) = V at *
          obtain ⟨gs, hgs⟩ : ∃ g, wr.heap.size = g := ⟨_, rfl⟩
          have SR : Hid (V.heap[gs]? = some (.cells #[.slice (some ⟨bb, bo, none⟩) M cb, .slice (some ⟨wb, wo, none⟩) M cw, .slice pt lt ct, .slice ps ls cs, .int .i64 sky, .int .i64 st] 25)) := by rw [← hgs]; exact SR0.out
          rw [hgs]
          clear hV hgs SR0 c0 c1 c2 c3 c4 c5 c6 c7 e0 e2
          have AX : Hid (Ab w V) := AW.out.trans AX0.out
          have GV : Hid (GridOf n gb V) := GG.out.to AX0.out
          have RV : Hid (V.heap[w.heap.size]? = some (.cells #[.int .i64 side, .int .i64 lim, .slice (some ⟨bb, bo, none⟩) M cb, .slice (some ⟨wb, wo, none⟩) M cw, .slice pt lt ct, .slice ps ls cs, .int .i64 sky, .int .i64 st] 27)) := AX0.out.heap RO.out
          have AV : Hid (Ab V V) := Ab.refl V
          obtain ⟨UU, E1, hF1, hF2⟩ := cls V
          have HU := hid hF2
          have HU1 := hid hF1
          have HV : Hid (∀ u, Ab V (E1 u)) := fun u => AV.out.trans (hF1 u)
          have HG : Hid (∀ u, GridOf n gb (E1 u)) := fun u => GV.out.to (HV.out u)
          have HX : Hid (∀ u, Ab w (E1 u)) := fun u => AX.out.trans (HV.out u)
          have xs1 : ∀ u, (E1 u).cell? ⟨gs, 1, none⟩ = some (.slice (some ⟨wb, wo, none⟩) M cw) := fun u => cell_of_row _ _ 1 _ _ _ ((HV.out u).heap SR.out)
          have xw : ∀ u, (E1 u).cell? ⟨wb, wo + L, none⟩ = some (.int .i64 wU0) := fun u => (Y.out.FW.out _ (HX.out u)).1
          have DD0 := HU.out _ (Ab.refl V).drew
          clear hF1 hF2
          refine region_cls E1 (by kernel_rfl) (by kernel_rfl) DD0 ?_
          repeat (go_big_quiet_step (first
            | (with_reducible rfl)
            | (go_at_call 17; exact calls_cls HU HU1 (Y.out.AU.out _ _ (HG.out _)))
            | (go_at_call 16; exact calls_cls HU HU1 (Y.out.DU.out _))))
          refine wpQuiet_nil ?_
          intro z1 hwz
          obtain ⟨u0, hu⟩ := hwz
          have AV1 : Hid (Ab V z1) := by rw [hu]; exact HV.out u0
          clear hu u0
          clear HU HU1 HV HG HX DD0 xs1 xw
          clear E1 UU AV
          have AV := AV1
          clear AV1
          go_upto_region 23 with fail
          obtain ⟨UU, E1, hF1, hF2⟩ := cls z1
          have HU := hid hF2
          have HU1 := hid hF1
          have HV : Hid (∀ u, Ab V (E1 u)) := fun u => AV.out.trans (hF1 u)
          have HG : Hid (∀ u, GridOf n gb (E1 u)) := fun u => GV.out.to (HV.out u)
          have HX : Hid (∀ u, Ab w (E1 u)) := fun u => AX.out.trans (HV.out u)
          have xs1 : ∀ u, (E1 u).cell? ⟨gs, 1, none⟩ = some (.slice (some ⟨wb, wo, none⟩) M cw) := fun u => cell_of_row _ _ 1 _ _ _ ((HV.out u).heap SR.out)
          have xl1 : ∀ u, (E1 u).cell? ⟨w.heap.size, 1, none⟩ = some (.int .i64 lim) := fun u => cell_of_row _ _ 1 _ _ _ ((HV.out u).heap RV.out)
          have xwk : ∀ u, (E1 u).cell? ⟨wb, wo + p, none⟩ = some (.int .i64 wK0) := fun u => (Y.out.FW.out _ (HX.out u)).2.1
          have xwd : ∀ u, (E1 u).cell? ⟨wb, wo + R, none⟩ = some (.int .i64 wD0) := fun u => (Y.out.FW.out _ (HX.out u)).2.2.1
          have DD0 := HU.out _ (Ab.refl z1).drew
          clear hF1 hF2
          refine region_cls E1 (by kernel_rfl) (by kernel_rfl) DD0 ?_
          repeat (go_big_quiet_step (first
            | (with_reducible rfl)
            | (go_at_call_of 17 p; exact calls_cls HU HU1 (Y.out.AK.out _ _ (HG.out _)))
            | (go_at_call_of 17 R; exact calls_cls HU HU1 (Y.out.AD.out _ _ (HG.out _)))
            | (go_at_call_of 16 wK0; exact calls_cls HU HU1 (Y.out.DK.out _))
            | (go_at_call_of 16 wD0; exact calls_cls HU HU1 (Y.out.DD.out _))
            | (go_at_call 18; exact calls_cls HU HU1 (Y.out.CS.out _))))
          refine wpQuiet_nil ?_
          intro z2 hwz
          obtain ⟨u0, hu⟩ := hwz
          have AV2 : Hid (Ab V z2) := by rw [hu]; exact HV.out u0
          clear hu u0
          clear HU HU1 HV HG HX DD0 xs1 xl1 xwk xwd
          clear E1 UU AV
          have AV := AV2
          clear AV2
          go_upto_region 25 with fail
          obtain ⟨UU, E1, hF1, hF2⟩ := cls z2
          have HU := hid hF2
          have HU1 := hid hF1
          have HV : Hid (∀ u, Ab V (E1 u)) := fun u => AV.out.trans (hF1 u)
          have HG : Hid (∀ u, GridOf n gb (E1 u)) := fun u => GV.out.to (HV.out u)
          have HX : Hid (∀ u, Ab w (E1 u)) := fun u => AX.out.trans (HV.out u)
          have xs0 : ∀ u, (E1 u).cell? ⟨gs, 0, none⟩ = some (.slice (some ⟨bb, bo, none⟩) M cb) := fun u => cell_of_row _ _ 0 _ _ _ ((HV.out u).heap SR.out)
          have xs1 : ∀ u, (E1 u).cell? ⟨gs, 1, none⟩ = some (.slice (some ⟨wb, wo, none⟩) M cw) := fun u => cell_of_row _ _ 1 _ _ _ ((HV.out u).heap SR.out)
          have xw : ∀ u, (E1 u).cell? ⟨wb, wo + L, none⟩ = some (.int .i64 wU0) := fun u => (Y.out.FW.out _ (HX.out u)).1
          have xb1 : ∀ u, (E1 u).cell? ⟨bb, bo + L, none⟩ = some (.float .f64 bU0) := fun u => (Y.out.FW.out _ (HX.out u)).2.2.2.1
          have xb2 : ∀ u, (E1 u).cell? ⟨bb, bo + R, none⟩ = some (.float .f64 bD0) := fun u => (Y.out.FW.out _ (HX.out u)).2.2.2.2
          have DD0 := HU.out _ (Ab.refl z2).drew
          clear hF1 hF2
          refine region_tail 25 E1 (by kernel_rfl) (by kernel_rfl) (by kernel_rfl) DD0 ?_
          simp only [List.take_succ_cons, List.take_zero, List.drop_succ_cons, List.drop_zero]
          repeat (go_big_quiet_step (first
            | (with_reducible rfl)
            | (go_at_call 17; exact calls_cls HU HU1 (Y.out.AU.out _ _ (HG.out _)))
            | (go_at_call 19; exact calls_cls HU HU1 (Y.out.CL.out _))
            | (go_at_call 20; exact calls_cls HU HU1 (Y.out.CM.out _))))
          refine wpQuiet_nil ?_
          intro z3 hwz
          obtain ⟨u0, hu⟩ := hwz
          have AV3 : Hid (Ab V z3) := by rw [hu]; exact HV.out u0
          clear hu u0
          clear HU HU1 HV HG HX DD0 xs0 xs1 xw xb1 xb2
          clear E1 UU AV
          have AV := AV3
          clear AV3
          go_upto_region 26 with fail
          have AV2 : Hid (Ab V (z3.drewN 1)) := Ab.drewN AV.out 1
          clear AV
          have AV := AV2
          clear AV2
          have c0 := cell_of_row _ _ 0 _ _ _ (AV.out.heap SR.out)
          have c1 := cell_of_row _ _ 1 _ _ _ (AV.out.heap SR.out)
          have c2 := cell_of_row _ _ 2 _ _ _ (AV.out.heap SR.out)
          have c3 := cell_of_row _ _ 3 _ _ _ (AV.out.heap SR.out)
          have c4 := cell_of_row _ _ 4 _ _ _ (AV.out.heap SR.out)
          have c5 := cell_of_row _ _ 5 _ _ _ (AV.out.heap SR.out)
          have l1 := cell_of_row _ _ 1 _ _ _ (AV.out.heap RV.out)
          go_wp2_with fail
          refine (Y.out.CD.out _ _ (GV.out.to AV.out) (AX.out.trans AV.out)).mono ?_
          rintro e9 v9 ⟨rfl, k9⟩
          have A9 : Hid (Ab W v9) := (AX0.out.trans AV.out).call k9
          clear k9 AV c0 c1 c2 c3 c4 c5 l1
          go_wp2
          go_roundw
          case rel => exact ⟨1, by omega, rfl, A9.out⟩
          case measure => simp [intOf]
    · rcases Y1.out.GT.out with ⟨g, hg, hh⟩ | ⟨hg, hn0, hd0, hv0⟩
      · rcases hh with ⟨t1, t2, t3, t4 | ⟨t4, t5⟩⟩ | ⟨t1, t2 | ⟨t2, t3⟩⟩
        · have Y := Y1
          clear Y0 Y1
          have hUi := Y.out.hU
          have hDi := Y.out.hD
          have hKi := Y.out.hK
          have hxi := Y.out.hx
          have hyi := Y.out.hy
          have hmi := Y.out.hm
          have hvi := Y.out.hv
          have c0 := cell_of_row _ _ 0 _ _ _ (AR.out.heap RO.out)
          have c1 := cell_of_row _ _ 1 _ _ _ (AR.out.heap RO.out)
          have c2 := cell_of_row _ _ 2 _ _ _ (AR.out.heap RO.out)
          have c3 := cell_of_row _ _ 3 _ _ _ (AR.out.heap RO.out)
          have c4 := cell_of_row _ _ 4 _ _ _ (AR.out.heap RO.out)
          have c5 := cell_of_row _ _ 5 _ _ _ (AR.out.heap RO.out)
          have c6 := cell_of_row _ _ 6 _ _ _ (AR.out.heap RO.out)
          have c7 := cell_of_row _ _ 7 _ _ _ (AR.out.heap RO.out)
          have e0 := cell_of_row _ _ 0 _ _ _ (AR.out.heap ER.out)
          have e2 := cell_of_row _ _ 2 _ _ _ (AR.out.heap ER.out)
          go_upto_region 22 with fail
          have SR0 : Hid ((wr.alloc (.cells #[.slice (some ⟨bb, bo, none⟩) M cb, .slice (some ⟨wb, wo, none⟩) M cw, .slice pt lt ct, .slice ps ls cs, .int .i64 sky, .int .i64 st] 25)).heap[wr.heap.size]? = some (.cells #[.slice (some ⟨bb, bo, none⟩) M cb, .slice (some ⟨wb, wo, none⟩) M cw, .slice pt lt ct, .slice ps ls cs, .int .i64 sky, .int .i64 st] 25)) := heap_alloc_new _ _
          have AX0 : Hid (Ab W (wr.alloc (.cells #[.slice (some ⟨bb, bo, none⟩) M cb, .slice (some ⟨wb, wo, none⟩) M cw, .slice pt lt ct, .slice ps ls cs, .int .i64 sky, .int .i64 st] 25))) := AR.out.alloc _
          generalize hV : wr.alloc (.cells #[.slice (some ⟨bb, bo, none⟩) M cb, .slice (some ⟨wb, wo, none⟩) M cw, .slice pt lt ct, .slice ps ls cs, .int .i64 sky, .int .i64 st] 25) = V at *
          obtain ⟨gs, hgs⟩ : ∃ g, wr.heap.size = g := ⟨_, rfl⟩
          have SR : Hid (V.heap[gs]? = some (.cells #[.slice (some ⟨bb, bo, none⟩) M cb, .slice (some ⟨wb, wo, none⟩) M cw, .slice pt lt ct, .slice ps ls cs, .int .i64 sky, .int .i64 st] 25)) := by rw [← hgs]; exact SR0.out
          rw [hgs]
          clear hV hgs SR0 c0 c1 c2 c3 c4 c5 c6 c7 e0 e2
          have AX : Hid (Ab w V) := AW.out.trans AX0.out
          have GV : Hid (GridOf n gb V) := GG.out.to AX0.out
          have RV : Hid (V.heap[w.heap.size]? = some (.cells #[.int .i64 side, .int .i64 lim, .slice (some ⟨bb, bo, none⟩) M cb, .slice (some ⟨wb, wo, none⟩) M cw, .slice pt lt ct, .slice ps ls cs, .int .i64 sky, .int .i64 st] 27)) := AX0.out.heap RO.out
          have AV : Hid (Ab V V) := Ab.refl V
          obtain ⟨UU, E1, hF1, hF2⟩ := cls V
          have HU := hid hF2
          have HU1 := hid hF1
          have HV : Hid (∀ u, Ab V (E1 u)) := fun u => AV.out.trans (hF1 u)
          have HG : Hid (∀ u, GridOf n gb (E1 u)) := fun u => GV.out.to (HV.out u)
          have HX : Hid (∀ u, Ab w (E1 u)) := fun u => AX.out.trans (HV.out u)
          have xs1 : ∀ u, (E1 u).cell? ⟨gs, 1, none⟩ = some (.slice (some ⟨wb, wo, none⟩) M cw) := fun u => cell_of_row _ _ 1 _ _ _ ((HV.out u).heap SR.out)
          have xw : ∀ u, (E1 u).cell? ⟨wb, wo + R, none⟩ = some (.int .i64 wU1) := fun u => (Y.out.FW.out _ (HX.out u)).1
          have DD0 := HU.out _ (Ab.refl V).drew
          clear hF1 hF2
          refine region_cls E1 (by kernel_rfl) (by kernel_rfl) DD0 ?_
          repeat (go_big_quiet_step (first
            | (with_reducible rfl)
            | (go_at_call 17; exact calls_cls HU HU1 (Y.out.AU.out _ _ (HG.out _)))
            | (go_at_call 16; exact calls_cls HU HU1 (Y.out.DU.out _))))
          refine wpQuiet_nil ?_
          intro z1 hwz
          obtain ⟨u0, hu⟩ := hwz
          have AV1 : Hid (Ab V z1) := by rw [hu]; exact HV.out u0
          clear hu u0
          clear HU HU1 HV HG HX DD0 xs1 xw
          clear E1 UU AV
          have AV := AV1
          clear AV1
          go_upto_region 23 with fail
          obtain ⟨UU, E1, hF1, hF2⟩ := cls z1
          have HU := hid hF2
          have HU1 := hid hF1
          have HV : Hid (∀ u, Ab V (E1 u)) := fun u => AV.out.trans (hF1 u)
          have HG : Hid (∀ u, GridOf n gb (E1 u)) := fun u => GV.out.to (HV.out u)
          have HX : Hid (∀ u, Ab w (E1 u)) := fun u => AX.out.trans (HV.out u)
          have xs1 : ∀ u, (E1 u).cell? ⟨gs, 1, none⟩ = some (.slice (some ⟨wb, wo, none⟩) M cw) := fun u => cell_of_row _ _ 1 _ _ _ ((HV.out u).heap SR.out)
          have xl1 : ∀ u, (E1 u).cell? ⟨w.heap.size, 1, none⟩ = some (.int .i64 lim) := fun u => cell_of_row _ _ 1 _ _ _ ((HV.out u).heap RV.out)
          have xwk : ∀ u, (E1 u).cell? ⟨wb, wo + q, none⟩ = some (.int .i64 wK1) := fun u => (Y.out.FW.out _ (HX.out u)).2.1
          have xwd : ∀ u, (E1 u).cell? ⟨wb, wo + L, none⟩ = some (.int .i64 wD1) := fun u => (Y.out.FW.out _ (HX.out u)).2.2.1
          have DD0 := HU.out _ (Ab.refl z1).drew
          clear hF1 hF2
          refine region_cls E1 (by kernel_rfl) (by kernel_rfl) DD0 ?_
          repeat (go_big_quiet_step (first
            | (with_reducible rfl)
            | (go_at_call_of 17 q; exact calls_cls HU HU1 (Y.out.AK.out _ _ (HG.out _)))
            | (go_at_call_of 17 L; exact calls_cls HU HU1 (Y.out.AD.out _ _ (HG.out _)))
            | (go_at_call_of 16 wK1; exact calls_cls HU HU1 (Y.out.DK.out _))
            | (go_at_call_of 16 wD1; exact calls_cls HU HU1 (Y.out.DD.out _))
            | (go_at_call 18; exact calls_cls HU HU1 (Y.out.CS.out _))))
          refine wpQuiet_nil ?_
          intro z2 hwz
          obtain ⟨u0, hu⟩ := hwz
          have AV2 : Hid (Ab V z2) := by rw [hu]; exact HV.out u0
          clear hu u0
          clear HU HU1 HV HG HX DD0 xs1 xl1 xwk xwd
          clear E1 UU AV
          have AV := AV2
          clear AV2
          go_upto_region 25 with fail
          obtain ⟨UU, E1, hF1, hF2⟩ := cls z2
          have HU := hid hF2
          have HU1 := hid hF1
          have HV : Hid (∀ u, Ab V (E1 u)) := fun u => AV.out.trans (hF1 u)
          have HG : Hid (∀ u, GridOf n gb (E1 u)) := fun u => GV.out.to (HV.out u)
          have HX : Hid (∀ u, Ab w (E1 u)) := fun u => AX.out.trans (HV.out u)
          have xs0 : ∀ u, (E1 u).cell? ⟨gs, 0, none⟩ = some (.slice (some ⟨bb, bo, none⟩) M cb) := fun u => cell_of_row _ _ 0 _ _ _ ((HV.out u).heap SR.out)
          have xs1 : ∀ u, (E1 u).cell? ⟨gs, 1, none⟩ = some (.slice (some ⟨wb, wo, none⟩) M cw) := fun u => cell_of_row _ _ 1 _ _ _ ((HV.out u).heap SR.out)
          have xw : ∀ u, (E1 u).cell? ⟨wb, wo + R, none⟩ = some (.int .i64 wU1) := fun u => (Y.out.FW.out _ (HX.out u)).1
          have xb1 : ∀ u, (E1 u).cell? ⟨bb, bo + R, none⟩ = some (.float .f64 bU1) := fun u => (Y.out.FW.out _ (HX.out u)).2.2.2.1
          have xb2 : ∀ u, (E1 u).cell? ⟨bb, bo + L, none⟩ = some (.float .f64 bD1) := fun u => (Y.out.FW.out _ (HX.out u)).2.2.2.2
          have DD0 := HU.out _ (Ab.refl z2).drew
          clear hF1 hF2
          refine region_cls E1 (by kernel_rfl) (by kernel_rfl) DD0 ?_
          repeat (go_big_quiet_step (first
            | (with_reducible rfl)
            | (go_at_call 17; exact calls_cls HU HU1 (Y.out.AU.out _ _ (HG.out _)))
            | (go_at_call 19; exact calls_cls HU HU1 (Y.out.CL.out _))
            | (go_at_call 20; exact calls_cls HU HU1 (Y.out.CM.out _))))
          refine wpQuiet_nil ?_
          intro z3 hwz
          obtain ⟨u0, hu⟩ := hwz
          have AV3 : Hid (Ab V z3) := by rw [hu]; exact HV.out u0
          clear hu u0
          clear HU HU1 HV HG HX DD0 xs0 xs1 xw xb1 xb2
          clear E1 UU AV
          have AV := AV3
          clear AV3
          have c0 := cell_of_row _ _ 0 _ _ _ (AV.out.heap SR.out)
          have c1 := cell_of_row _ _ 1 _ _ _ (AV.out.heap SR.out)
          have c2 := cell_of_row _ _ 2 _ _ _ (AV.out.heap SR.out)
          have c3 := cell_of_row _ _ 3 _ _ _ (AV.out.heap SR.out)
          have c4 := cell_of_row _ _ 4 _ _ _ (AV.out.heap SR.out)
          have c5 := cell_of_row _ _ 5 _ _ _ (AV.out.heap SR.out)
          have l1 := cell_of_row _ _ 1 _ _ _ (AV.out.heap RV.out)
          go_wp2_with fail
          refine (Y.out.CD.out _ _ (GV.out.to AV.out) (AX.out.trans AV.out)).mono ?_
          rintro e9 v9 ⟨rfl, k9⟩
          have A9 : Hid (Ab W v9) := (AX0.out.trans AV.out).call k9
          clear k9 AV c0 c1 c2 c3 c4 c5 l1
          go_wp2
          go_roundw
          case rel => exact ⟨2, by omega, rfl, A9.out⟩
          case measure => simp [intOf]
        · have Y := Y1
          clear Y0 Y1
          have hUi := Y.out.hU
          have hDi := Y.out.hD
          have hKi := Y.out.hK
          have hxi := Y.out.hx
          have hyi := Y.out.hy
          have hmi := Y.out.hm
          have hvi := Y.out.hv
          have c0 := cell_of_row _ _ 0 _ _ _ (AR.out.heap RO.out)
          have c1 := cell_of_row _ _ 1 _ _ _ (AR.out.heap RO.out)
          have c2 := cell_of_row _ _ 2 _ _ _ (AR.out.heap RO.out)
          have c3 := cell_of_row _ _ 3 _ _ _ (AR.out.heap RO.out)
          have c4 := cell_of_row _ _ 4 _ _ _ (AR.out.heap RO.out)
          have c5 := cell_of_row _ _ 5 _ _ _ (AR.out.heap RO.out)
          have c6 := cell_of_row _ _ 6 _ _ _ (AR.out.heap RO.out)
          have c7 := cell_of_row _ _ 7 _ _ _ (AR.out.heap RO.out)
          have e0 := cell_of_row _ _ 0 _ _ _ (AR.out.heap ER.out)
          have e2 := cell_of_row _ _ 2 _ _ _ (AR.out.heap ER.out)
          go_upto_region 22 with fail
          have SR0 : Hid ((wr.alloc (.cells #[.slice (some ⟨bb, bo, none⟩) M cb, .slice (some ⟨wb, wo, none⟩) M cw, .slice pt lt ct, .slice ps ls cs, .int .i64 sky, .int .i64 st] 25)).heap[wr.heap.size]? = some (.cells #[.slice (some ⟨bb, bo, none⟩) M cb, .slice (some ⟨wb, wo, none⟩) M cw, .slice pt lt ct, .slice ps ls cs, .int .i64 sky, .int .i64 st] 25)) := heap_alloc_new _ _
          have AX0 : Hid (Ab W (wr.alloc (.cells #[.slice (some ⟨bb, bo, none⟩) M cb, .slice (some ⟨wb, wo, none⟩) M cw, .slice pt lt ct, .slice ps ls cs, .int .i64 sky, .int .i64 st] 25))) := AR.out.alloc _
          generalize hV : wr.alloc (.cells #[.slice (some ⟨bb, bo, none⟩) M cb, .slice (some ⟨wb, wo, none⟩) M cw, .slice pt lt ct, .slice ps ls cs, .int .i64 sky, .int .i64 st] 25) = V at *
          obtain ⟨gs, hgs⟩ : ∃ g, wr.heap.size = g := ⟨_, rfl⟩
          have SR : Hid (V.heap[gs]? = some (.cells #[.slice (some ⟨bb, bo, none⟩) M cb, .slice (some ⟨wb, wo, none⟩) M cw, .slice pt lt ct, .slice ps ls cs, .int .i64 sky, .int .i64 st] 25)) := by rw [← hgs]; exact SR0.out
          rw [hgs]
          clear hV hgs SR0 c0 c1 c2 c3 c4 c5 c6 c7 e0 e2
          have AX : Hid (Ab w V) := AW.out.trans AX0.out
          have GV : Hid (GridOf n gb V) := GG.out.to AX0.out
          have RV : Hid (V.heap[w.heap.size]? = some (.cells #[.int .i64 side, .int .i64 lim, .slice (some ⟨bb, bo, none⟩) M cb, .slice (some ⟨wb, wo, none⟩) M cw, .slice pt lt ct, .slice ps ls cs, .int .i64 sky, .int .i64 st] 27)) := AX0.out.heap RO.out
          have AV : Hid (Ab V V) := Ab.refl V
          obtain ⟨UU, E1, hF1, hF2⟩ := cls V
          have HU := hid hF2
          have HU1 := hid hF1
          have HV : Hid (∀ u, Ab V (E1 u)) := fun u => AV.out.trans (hF1 u)
          have HG : Hid (∀ u, GridOf n gb (E1 u)) := fun u => GV.out.to (HV.out u)
          have HX : Hid (∀ u, Ab w (E1 u)) := fun u => AX.out.trans (HV.out u)
          have xs1 : ∀ u, (E1 u).cell? ⟨gs, 1, none⟩ = some (.slice (some ⟨wb, wo, none⟩) M cw) := fun u => cell_of_row _ _ 1 _ _ _ ((HV.out u).heap SR.out)
          have xw : ∀ u, (E1 u).cell? ⟨wb, wo + R, none⟩ = some (.int .i64 wU1) := fun u => (Y.out.FW.out _ (HX.out u)).1
          have DD0 := HU.out _ (Ab.refl V).drew
          clear hF1 hF2
          refine region_cls E1 (by kernel_rfl) (by kernel_rfl) DD0 ?_
          repeat (go_big_quiet_step (first
            | (with_reducible rfl)
            | (go_at_call 17; exact calls_cls HU HU1 (Y.out.AU.out _ _ (HG.out _)))
            | (go_at_call 16; exact calls_cls HU HU1 (Y.out.DU.out _))))
          refine wpQuiet_nil ?_
          intro z1 hwz
          obtain ⟨u0, hu⟩ := hwz
          have AV1 : Hid (Ab V z1) := by rw [hu]; exact HV.out u0
          clear hu u0
          clear HU HU1 HV HG HX DD0 xs1 xw
          clear E1 UU AV
          have AV := AV1
          clear AV1
          go_upto_region 23 with fail
          obtain ⟨UU, E1, hF1, hF2⟩ := cls z1
          have HU := hid hF2
          have HU1 := hid hF1
          have HV : Hid (∀ u, Ab V (E1 u)) := fun u => AV.out.trans (hF1 u)
          have HG : Hid (∀ u, GridOf n gb (E1 u)) := fun u => GV.out.to (HV.out u)
          have HX : Hid (∀ u, Ab w (E1 u)) := fun u => AX.out.trans (HV.out u)
          have xs1 : ∀ u, (E1 u).cell? ⟨gs, 1, none⟩ = some (.slice (some ⟨wb, wo, none⟩) M cw) := fun u => cell_of_row _ _ 1 _ _ _ ((HV.out u).heap SR.out)
          have xl1 : ∀ u, (E1 u).cell? ⟨w.heap.size, 1, none⟩ = some (.int .i64 lim) := fun u => cell_of_row _ _ 1 _ _ _ ((HV.out u).heap RV.out)
          have xwk : ∀ u, (E1 u).cell? ⟨wb, wo + q, none⟩ = some (.int .i64 wK1) := fun u => (Y.out.FW.out _ (HX.out u)).2.1
          have xwd : ∀ u, (E1 u).cell? ⟨wb, wo + L, none⟩ = some (.int .i64 wD1) := fun u => (Y.out.FW.out _ (HX.out u)).2.2.1
          have DD0 := HU.out _ (Ab.refl z1).drew
          clear hF1 hF2
          refine region_cls E1 (by kernel_rfl) (by kernel_rfl) DD0 ?_
          repeat (go_big_quiet_step (first
            | (with_reducible rfl)
            | (go_at_call_of 17 q; exact calls_cls HU HU1 (Y.out.AK.out _ _ (HG.out _)))
            | (go_at_call_of 17 L; exact calls_cls HU HU1 (Y.out.AD.out _ _ (HG.out _)))
            | (go_at_call_of 16 wK1; exact calls_cls HU HU1 (Y.out.DK.out _))
            | (go_at_call_of 16 wD1; exact calls_cls HU HU1 (Y.out.DD.out _))
            | (go_at_call 18; exact calls_cls HU HU1 (Y.out.CS.out _))))
          refine wpQuiet_nil ?_
          intro z2 hwz
          obtain ⟨u0, hu⟩ := hwz
          have AV2 : Hid (Ab V z2) := by rw [hu]; exact HV.out u0
          clear hu u0
          clear HU HU1 HV HG HX DD0 xs1 xl1 xwk xwd
          clear E1 UU AV
          have AV := AV2
          clear AV2
          go_upto_region 25 with fail
          obtain ⟨UU, E1, hF1, hF2⟩ := cls z2
          have HU := hid hF2
          have HU1 := hid hF1
          have HV : Hid (∀ u, Ab V (E1 u)) := fun u => AV.out.trans (hF1 u)
          have HG : Hid (∀ u, GridOf n gb (E1 u)) := fun u => GV.out.to (HV.out u)
          have HX : Hid (∀ u, Ab w (E1 u)) := fun u => AX.out.trans (HV.out u)
          have xs0 : ∀ u, (E1 u).cell? ⟨gs, 0, none⟩ = some (.slice (some ⟨bb, bo, none⟩) M cb) := fun u => cell_of_row _ _ 0 _ _ _ ((HV.out u).heap SR.out)
          have xs1 : ∀ u, (E1 u).cell? ⟨gs, 1, none⟩ = some (.slice (some ⟨wb, wo, none⟩) M cw) := fun u => cell_of_row _ _ 1 _ _ _ ((HV.out u).heap SR.out)
          have xw : ∀ u, (E1 u).cell? ⟨wb, wo + R, none⟩ = some (.int .i64 wU1) := fun u => (Y.out.FW.out _ (HX.out u)).1
          have xb1 : ∀ u, (E1 u).cell? ⟨bb, bo + R, none⟩ = some (.float .f64 bU1) := fun u => (Y.out.FW.out _ (HX.out u)).2.2.2.1
          have xb2 : ∀ u, (E1 u).cell? ⟨bb, bo + L, none⟩ = some (.float .f64 bD1) := fun u => (Y.out.FW.out _ (HX.out u)).2.2.2.2
          have DD0 := HU.out _ (Ab.refl z2).drew
          clear hF1 hF2
          refine region_cls E1 (by kernel_rfl) (by kernel_rfl) DD0 ?_
          repeat (go_big_quiet_step (first
            | (with_reducible rfl)
            | (go_at_call 17; exact calls_cls HU HU1 (Y.out.AU.out _ _ (HG.out _)))
            | (go_at_call 19; exact calls_cls HU HU1 (Y.out.CL.out _))
            | (go_at_call 20; exact calls_cls HU HU1 (Y.out.CM.out _))))
          refine wpQuiet_nil ?_
          intro z3 hwz
          obtain ⟨u0, hu⟩ := hwz
          have AV3 : Hid (Ab V z3) := by rw [hu]; exact HV.out u0
          clear hu u0
          clear HU HU1 HV HG HX DD0 xs0 xs1 xw xb1 xb2
          clear E1 UU AV
          have AV := AV3
          clear AV3
          have c0 := cell_of_row _ _ 0 _ _ _ (AV.out.heap SR.out)
          have c1 := cell_of_row _ _ 1 _ _ _ (AV.out.heap SR.out)
          have c2 := cell_of_row _ _ 2 _ _ _ (AV.out.heap SR.out)
          have c3 := cell_of_row _ _ 3 _ _ _ (AV.out.heap SR.out)
          have c4 := cell_of_row _ _ 4 _ _ _ (AV.out.heap SR.out)
          have c5 := cell_of_row _ _ 5 _ _ _ (AV.out.heap SR.out)
          have l1 := cell_of_row _ _ 1 _ _ _ (AV.out.heap RV.out)
          go_wp2_with fail
          refine (Y.out.CD.out _ _ (GV.out.to AV.out) (AX.out.trans AV.out)).mono ?_
          rintro e9 v9 ⟨rfl, k9⟩
          have A9 : Hid (Ab W v9) := (AX0.out.trans AV.out).call k9
          clear k9 AV c0 c1 c2 c3 c4 c5 l1
          go_wp2
          go_roundw
          case rel => exact ⟨2, by omega, rfl, A9.out⟩
          case measure => simp [intOf]
        · have Y := Y1
          clear Y0 Y1
          have hUi := Y.out.hU
          have hDi := Y.out.hD
          have hKi := Y.out.hK
          have hxi := Y.out.hx
          have hyi := Y.out.hy
          have hmi := Y.out.hm
          have hvi := Y.out.hv
          have c0 := cell_of_row _ _ 0 _ _ _ (AR.out.heap RO.out)
          have c1 := cell_of_row _ _ 1 _ _ _ (AR.out.heap RO.out)
          have c2 := cell_of_row _ _ 2 _ _ _ (AR.out.heap RO.out)
          have c3 := cell_of_row _ _ 3 _ _ _ (AR.out.heap RO.out)
          have c4 := cell_of_row _ _ 4 _ _ _ (AR.out.heap RO.out)
          have c5 := cell_of_row _ _ 5 _ _ _ (AR.out.heap RO.out)
          have c6 := cell_of_row _ _ 6 _ _ _ (AR.out.heap RO.out)
          have c7 := cell_of_row _ _ 7 _ _ _ (AR.out.heap RO.out)
          have e0 := cell_of_row _ _ 0 _ _ _ (AR.out.heap ER.out)
          have e2 := cell_of_row _ _ 2 _ _ _ (AR.out.heap ER.out)
          go_upto_region 22 with fail
          have SR0 : Hid ((wr.alloc (.cells #[.slice (some ⟨bb, bo, none⟩) M cb, .slice (some ⟨wb, wo, none⟩) M cw, .slice pt lt ct, .slice ps ls cs, .int .i64 sky, .int .i64 st] 25)).heap[wr.heap.size]? = some (.cells #[.slice (some ⟨bb, bo, none⟩) M cb, .slice (some ⟨wb, wo, none⟩) M cw, .slice pt lt ct, .slice ps ls cs, .int .i64 sky, .int .i64 st] 25)) := heap_alloc_new _ _
          have AX0 : Hid (Ab W (wr.alloc (.cells #[.slice (some ⟨bb, bo, none⟩) M cb, .slice (some ⟨wb, wo, none⟩) M cw, .slice pt lt ct, .slice ps ls cs, .int .i64 sky, .int .i64 st] 25))) := AR.out.alloc _
          generalize hV : wr.alloc (.cells #[.slice (some ⟨bb, bo, none⟩) M cb, .slice (some ⟨wb, wo, none⟩) M cw, .slice pt lt ct, .slice ps ls cs, .int .i64 sky, .int .i64 st] 25) = V at *
          obtain ⟨gs, hgs⟩ : ∃ g, wr.heap.size = g := ⟨_, rfl⟩
          have SR : Hid (V.heap[gs]? = some (.cells #[.slice (some ⟨bb, bo, none⟩) M cb, .slice (some ⟨wb, wo, none⟩) M cw, .slice pt lt ct, .slice ps ls cs, .int .i64 sky, .int .i64 st] 25)) := by rw [← hgs]; exact SR0.out
          rw [hgs]
          clear hV hgs SR0 c0 c1 c2 c3 c4 c5 c6 c7 e0 e2
          have AX : Hid (Ab w V) := AW.out.trans AX0.out
          have GV : Hid (GridOf n gb V) := GG.out.to AX0.out
          have RV : Hid (V.heap[w.heap.size]? = some (.cells #[.int .i64 side, .int .i64 lim, .slice (some ⟨bb, bo, none⟩) M cb, .slice (some ⟨wb, wo, none⟩) M cw, .slice pt lt ct, .slice ps ls cs, .int .i64 sky, .int .i64 st] 27)) := AX0.out.heap RO.out
          have AV : Hid (Ab V V) := Ab.refl V
          obtain ⟨UU, E1, hF1, hF2⟩ := cls V
          have HU := hid hF2
          have HU1 := hid hF1
          have HV : Hid (∀ u, Ab V (E1 u)) := fun u => AV.out.trans (hF1 u)
          have HG : Hid (∀ u, GridOf n gb (E1 u)) := fun u => GV.out.to (HV.out u)
          have HX : Hid (∀ u, Ab w (E1 u)) := fun u => AX.out.trans (HV.out u)
          have xs1 : ∀ u, (E1 u).cell? ⟨gs, 1, none⟩ = some (.slice (some ⟨wb, wo, none⟩) M cw) := fun u => cell_of_row _ _ 1 _ _ _ ((HV.out u).heap SR.out)
          have xw : ∀ u, (E1 u).cell? ⟨wb, wo + R, none⟩ = some (.int .i64 wU1) := fun u => (Y.out.FW.out _ (HX.out u)).1
          have DD0 := HU.out _ (Ab.refl V).drew
          clear hF1 hF2
          refine region_cls E1 (by kernel_rfl) (by kernel_rfl) DD0 ?_
          repeat (go_big_quiet_step (first
            | (with_reducible rfl)
            | (go_at_call 17; exact calls_cls HU HU1 (Y.out.AU.out _ _ (HG.out _)))
            | (go_at_call 16; exact calls_cls HU HU1 (Y.out.DU.out _))))
          refine wpQuiet_nil ?_
          intro z1 hwz
          obtain ⟨u0, hu⟩ := hwz
          have AV1 : Hid (Ab V z1) := by rw [hu]; exact HV.out u0
          clear hu u0
          clear HU HU1 HV HG HX DD0 xs1 xw
          clear E1 UU AV
          have AV := AV1
          clear AV1
          go_upto_region 23 with fail
          obtain ⟨UU, E1, hF1, hF2⟩ := cls z1
          have HU := hid hF2
          have HU1 := hid hF1
          have HV : Hid (∀ u, Ab V (E1 u)) := fun u => AV.out.trans (hF1 u)
          have HG : Hid (∀ u, GridOf n gb (E1 u)) := fun u => GV.out.to (HV.out u)
          have HX : Hid (∀ u, Ab w (E1 u)) := fun u => AX.out.trans (HV.out u)
          have xs1 : ∀ u, (E1 u).cell? ⟨gs, 1, none⟩ = some (.slice (some ⟨wb, wo, none⟩) M cw) := fun u => cell_of_row _ _ 1 _ _ _ ((HV.out u).heap SR.out)
          have xl1 : ∀ u, (E1 u).cell? ⟨w.heap.size, 1, none⟩ = some (.int .i64 lim) := fun u => cell_of_row _ _ 1 _ _ _ ((HV.out u).heap RV.out)
          have xwk : ∀ u, (E1 u).cell? ⟨wb, wo + q, none⟩ = some (.int .i64 wK1) := fun u => (Y.out.FW.out _ (HX.out u)).2.1
          have xwd : ∀ u, (E1 u).cell? ⟨wb, wo + L, none⟩ = some (.int .i64 wD1) := fun u => (Y.out.FW.out _ (HX.out u)).2.2.1
          have DD0 := HU.out _ (Ab.refl z1).drew
          clear hF1 hF2
          refine region_cls E1 (by kernel_rfl) (by kernel_rfl) DD0 ?_
          repeat (go_big_quiet_step (first
            | (with_reducible rfl)
            | (go_at_call_of 17 q; exact calls_cls HU HU1 (Y.out.AK.out _ _ (HG.out _)))
            | (go_at_call_of 17 L; exact calls_cls HU HU1 (Y.out.AD.out _ _ (HG.out _)))
            | (go_at_call_of 16 wK1; exact calls_cls HU HU1 (Y.out.DK.out _))
            | (go_at_call_of 16 wD1; exact calls_cls HU HU1 (Y.out.DD.out _))
            | (go_at_call 18; exact calls_cls HU HU1 (Y.out.CS.out _))))
          refine wpQuiet_nil ?_
          intro z2 hwz
          obtain ⟨u0, hu⟩ := hwz
          have AV2 : Hid (Ab V z2) := by rw [hu]; exact HV.out u0
          clear hu u0
          clear HU HU1 HV HG HX DD0 xs1 xl1 xwk xwd
          clear E1 UU AV
          have AV := AV2
          clear AV2
          go_upto_region 25 with fail
          obtain ⟨UU, E1, hF1, hF2⟩ := cls z2
          have HU := hid hF2
          have HU1 := hid hF1
          have HV : Hid (∀ u, Ab V (E1 u)) := fun u => AV.out.trans (hF1 u)
          have HG : Hid (∀ u, GridOf n gb (E1 u)) := fun u => GV.out.to (HV.out u)
          have HX : Hid (∀ u, Ab w (E1 u)) := fun u => AX.out.trans (HV.out u)
          have xs0 : ∀ u, (E1 u).cell? ⟨gs, 0, none⟩ = some (.slice (some ⟨bb, bo, none⟩) M cb) := fun u => cell_of_row _ _ 0 _ _ _ ((HV.out u).heap SR.out)
          have xs1 : ∀ u, (E1 u).cell? ⟨gs, 1, none⟩ = some (.slice (some ⟨wb, wo, none⟩) M cw) := fun u => cell_of_row _ _ 1 _ _ _ ((HV.out u).heap SR.out)
          have xw : ∀ u, (E1 u).cell? ⟨wb, wo + R, none⟩ = some (.int .i64 wU1) := fun u => (Y.out.FW.out _ (HX.out u)).1
          have xb1 : ∀ u, (E1 u).cell? ⟨bb, bo + R, none⟩ = some (.float .f64 bU1) := fun u => (Y.out.FW.out _ (HX.out u)).2.2.2.1
          have xb2 : ∀ u, (E1 u).cell? ⟨bb, bo + L, none⟩ = some (.float .f64 bD1) := fun u => (Y.out.FW.out _ (HX.out u)).2.2.2.2
          have DD0 := HU.out _ (Ab.refl z2).drew
          clear hF1 hF2
          refine region_cls E1 (by kernel_rfl) (by kernel_rfl) DD0 ?_
          repeat (go_big_quiet_step (first
            | (with_reducible rfl)
            | (go_at_call 17; exact calls_cls HU HU1 (Y.out.AU.out _ _ (HG.out _)))
            | (go_at_call 19; exact calls_cls HU HU1 (Y.out.CL.out _))
            | (go_at_call 20; exact calls_cls HU HU1 (Y.out.CM.out _))))
          refine wpQuiet_nil ?_
          intro z3 hwz
          obtain ⟨u0, hu⟩ := hwz
          have AV3 : Hid (Ab V z3) := by rw [hu]; exact HV.out u0
          clear hu u0
          clear HU HU1 HV HG HX DD0 xs0 xs1 xw xb1 xb2
          clear E1 UU AV
          have AV := AV3
          clear AV3
          have c0 := cell_of_row _ _ 0 _ _ _ (AV.out.heap SR.out)
          have c1 := cell_of_row _ _ 1 _ _ _ (AV.out.heap SR.out)
          have c2 := cell_of_row _ _ 2 _ _ _ (AV.out.heap SR.out)
          have c3 := cell_of_row _ _ 3 _ _ _ (AV.out.heap SR.out)
          have c4 := cell_of_row _ _ 4 _ _ _ (AV.out.heap SR.out)
          have c5 := cell_of_row _ _ 5 _ _ _ (AV.out.heap SR.out)
          have l1 := cell_of_row _ _ 1 _ _ _ (AV.out.heap RV.out)
          go_wp2_with fail
          refine (Y.out.CD.out _ _ (GV.out.to AV.out) (AX.out.trans AV.out)).mono ?_
          rintro e9 v9 ⟨rfl, k9⟩
          have A9 : Hid (Ab W v9) := (AX0.out.trans AV.out).call k9
          clear k9 AV c0 c1 c2 c3 c4 c5 l1
          go_wp2
          go_roundw
          case rel => exact ⟨2, by omega, rfl, A9.out⟩
          case measure => simp [intOf]
        · have Y := Y1
          clear Y0 Y1
          have hUi := Y.out.hU
          have hDi := Y.out.hD
          have hKi := Y.out.hK
          have hxi := Y.out.hx
          have hyi := Y.out.hy
          have hmi := Y.out.hm
          have hvi := Y.out.hv
          have c0 := cell_of_row _ _ 0 _ _ _ (AR.out.heap RO.out)
          have c1 := cell_of_row _ _ 1 _ _ _ (AR.out.heap RO.out)
          have c2 := cell_of_row _ _ 2 _ _ _ (AR.out.heap RO.out)
          have c3 := cell_of_row _ _ 3 _ _ _ (AR.out.heap RO.out)
          have c4 := cell_of_row _ _ 4 _ _ _ (AR.out.heap RO.out)
          have c5 := cell_of_row _ _ 5 _ _ _ (AR.out.heap RO.out)
          have c6 := cell_of_row _ _ 6 _ _ _ (AR.out.heap RO.out)
          have c7 := cell_of_row _ _ 7 _ _ _ (AR.out.heap RO.out)
          have e0 := cell_of_row _ _ 0 _ _ _ (AR.out.heap ER.out)
          have e2 := cell_of_row _ _ 2 _ _ _ (AR.out.heap ER.out)
          go_upto_region 22 with fail
          have SR0 : Hid ((wr.alloc (.cells #[.slice (some ⟨bb, bo, none⟩) M cb, .slice (some ⟨wb, wo, none⟩) M cw, .slice pt lt ct, .slice ps ls cs, .int .i64 sky, .int .i64 st] 25)).heap[wr.heap.size]? = some (.cells #[.slice (some ⟨bb, bo, none⟩) M cb, .slice (some ⟨wb, wo, none⟩) M cw, .slice pt lt ct, .slice ps ls cs, .int .i64 sky, .int .i64 st] 25)) := heap_alloc_new _ _
          have AX0 : Hid (Ab W (wr.alloc (.cells #[.slice (some ⟨bb, bo, none⟩) M cb, .slice (some ⟨wb, wo, none⟩) M cw, .slice pt lt ct, .slice ps ls cs, .int .i64 sky, .int .i64 st] 25))) := AR.out.alloc _
          generalize hV : wr.alloc (.cells #[.slice (some ⟨bb, bo, none⟩) M cb, .slice (some ⟨wb, wo, none⟩) M cw, .slice pt lt ct, .slice ps ls cs, .int .i64 sky, .int .i64 st] 25) = V at *
          obtain ⟨gs, hgs⟩ : ∃ g, wr.heap.size = g := ⟨_, rfl⟩
          have SR : Hid (V.heap[gs]? = some (.cells #[.slice (some ⟨bb, bo, none⟩) M cb, .slice (some ⟨wb, wo, none⟩) M cw, .slice pt lt ct, .slice ps ls cs, .int .i64 sky, .int .i64 st] 25)) := by rw [← hgs]; exact SR0.out
          rw [hgs]
          clear hV hgs SR0 c0 c1 c2 c3 c4 c5 c6 c7 e0 e2
          have AX : Hid (Ab w V) := AW.out.trans AX0.out
          have GV : Hid (GridOf n gb V) := GG.out.to AX0.out
          have RV : Hid (V.heap[w.heap.size]? = some (.cells #[.int .i64 side, .int .i64 lim, .slice (some ⟨bb, bo, none⟩) M cb, .slice (some ⟨wb, wo, none⟩) M cw, .slice pt lt ct, .slice ps ls cs, .int .i64 sky, .int .i64 st] 27)) := AX0.out.heap RO.out
          have AV : Hid (Ab V V) := Ab.refl V
          obtain ⟨UU, E1, hF1, hF2⟩ := cls V
          have HU := hid hF2
          have HU1 := hid hF1
          have HV : Hid (∀ u, Ab V (E1 u)) := fun u => AV.out.trans (hF1 u)
          have HG : Hid (∀ u, GridOf n gb (E1 u)) := fun u => GV.out.to (HV.out u)
          have HX : Hid (∀ u, Ab w (E1 u)) := fun u => AX.out.trans (HV.out u)
          have xs1 : ∀ u, (E1 u).cell? ⟨gs, 1, none⟩ = some (.slice (some ⟨wb, wo, none⟩) M cw) := fun u => cell_of_row _ _ 1 _ _ _ ((HV.out u).heap SR.out)
          have xw : ∀ u, (E1 u).cell? ⟨wb, wo + R, none⟩ = some (.int .i64 wU1) := fun u => (Y.out.FW.out _ (HX.out u)).1
          have DD0 := HU.out _ (Ab.refl V).drew
          clear hF1 hF2
          refine region_cls E1 (by kernel_rfl) (by kernel_rfl) DD0 ?_
          repeat (go_big_quiet_step (first
            | (with_reducible rfl)
            | (go_at_call 17; exact calls_cls HU HU1 (Y.out.AU.out _ _ (HG.out _)))
            | (go_at_call 16; exact calls_cls HU HU1 (Y.out.DU.out _))))
          refine wpQuiet_nil ?_
          intro z1 hwz
          obtain ⟨u0, hu⟩ := hwz
          have AV1 : Hid (Ab V z1) := by rw [hu]; exact HV.out u0
          clear hu u0
          clear HU HU1 HV HG HX DD0 xs1 xw
          clear E1 UU AV
          have AV := AV1
          clear AV1
          go_upto_region 23 with fail
          obtain ⟨UU, E1, hF1, hF2⟩ := cls z1
          have HU := hid hF2
          have HU1 := hid hF1
          have HV : Hid (∀ u, Ab V (E1 u)) := fun u => AV.out.trans (hF1 u)
          have HG : Hid (∀ u, GridOf n gb (E1 u)) := fun u => GV.out.to (HV.out u)
          have HX : Hid (∀ u, Ab w (E1 u)) := fun u => AX.out.trans (HV.out u)
          have xs1 : ∀ u, (E1 u).cell? ⟨gs, 1, none⟩ = some (.slice (some ⟨wb, wo, none⟩) M cw) := fun u => cell_of_row _ _ 1 _ _ _ ((HV.out u).heap SR.out)
          have xl1 : ∀ u, (E1 u).cell? ⟨w.heap.size, 1, none⟩ = some (.int .i64 lim) := fun u => cell_of_row _ _ 1 _ _ _ ((HV.out u).heap RV.out)
          have xwk : ∀ u, (E1 u).cell? ⟨wb, wo + q, none⟩ = some (.int .i64 wK1) := fun u => (Y.out.FW.out _ (HX.out u)).2.1
          have xwd : ∀ u, (E1 u).cell? ⟨wb, wo + L, none⟩ = some (.int .i64 wD1) := fun u => (Y.out.FW.out _ (HX.out u)).2.2.1
          have DD0 := HU.out _ (Ab.refl z1).drew
          clear hF1 hF2
          refine region_cls E1 (by kernel_rfl) (by kernel_rfl) DD0 ?_
          repeat (go_big_quiet_step (first
            | (with_reducible rfl)
            | (go_at_call_of 17 q; exact calls_cls HU HU1 (Y.out.AK.out _ _ (HG.out _)))
            | (go_at_call_of 17 L; exact calls_cls HU HU1 (Y.out.AD.out _ _ (HG.out _)))
            | (go_at_call_of 16 wK1; exact calls_cls HU HU1 (Y.out.DK.out _))
            | (go_at_call_of 16 wD1; exact calls_cls HU HU1 (Y.out.DD.out _))
            | (go_at_call 18; exact calls_cls HU HU1 (Y.out.CS.out _))))
          refine wpQuiet_nil ?_
          intro z2 hwz
          obtain ⟨u0, hu⟩ := hwz
          have AV2 : Hid (Ab V z2) := by rw [hu]; exact HV.out u0
          clear hu u0
          clear HU HU1 HV HG HX DD0 xs1 xl1 xwk xwd
          clear E1 UU AV
          have AV := AV2
          clear AV2
          go_upto_region 25 with fail
          obtain ⟨UU, E1, hF1, hF2⟩ := cls z2
          have HU := hid hF2
          have HU1 := hid hF1
          have HV : Hid (∀ u, Ab V (E1 u)) := fun u => AV.out.trans (hF1 u)
          have HG : Hid (∀ u, GridOf n gb (E1 u)) := fun u => GV.out.to (HV.out u)
          have HX : Hid (∀ u, Ab w (E1 u)) := fun u => AX.out.trans (HV.out u)
          have xs0 : ∀ u, (E1 u).cell? ⟨gs, 0, none⟩ = some (.slice (some ⟨bb, bo, none⟩) M cb) := fun u => cell_of_row _ _ 0 _ _ _ ((HV.out u).heap SR.out)
          have xs1 : ∀ u, (E1 u).cell? ⟨gs, 1, none⟩ = some (.slice (some ⟨wb, wo, none⟩) M cw) := fun u => cell_of_row _ _ 1 _ _ _ ((HV.out u).heap SR.out)
          have xw : ∀ u, (E1 u).cell? ⟨wb, wo + R, none⟩ = some (.int .i64 wU1) := fun u => (Y.out.FW.out _ (HX.out u)).1
          have xb1 : ∀ u, (E1 u).cell? ⟨bb, bo + R, none⟩ = some (.float .f64 bU1) := fun u => (Y.out.FW.out _ (HX.out u)).2.2.2.1
          have xb2 : ∀ u, (E1 u).cell? ⟨bb, bo + L, none⟩ = some (.float .f64 bD1) := fun u => (Y.out.FW.out _ (HX.out u)).2.2.2.2
          have DD0 := HU.out _ (Ab.refl z2).drew
          clear hF1 hF2
          refine region_cls E1 (by kernel_rfl) (by kernel_rfl) DD0 ?_
          repeat (go_big_quiet_step (first
            | (with_reducible rfl)
            | (go_at_call 17; exact calls_cls HU HU1 (Y.out.AU.out _ _ (HG.out _)))
            | (go_at_call 19; exact calls_cls HU HU1 (Y.out.CL.out _))
            | (go_at_call 20; exact calls_cls HU HU1 (Y.out.CM.out _))))
          refine wpQuiet_nil ?_
          intro z3 hwz
          obtain ⟨u0, hu⟩ := hwz
          have AV3 : Hid (Ab V z3) := by rw [hu]; exact HV.out u0
          clear hu u0
          clear HU HU1 HV HG HX DD0 xs0 xs1 xw xb1 xb2
          clear E1 UU AV
          have AV := AV3
          clear AV3
          have c0 := cell_of_row _ _ 0 _ _ _ (AV.out.heap SR.out)
          have c1 := cell_of_row _ _ 1 _ _ _ (AV.out.heap SR.out)
          have c2 := cell_of_row _ _ 2 _ _ _ (AV.out.heap SR.out)
          have c3 := cell_of_row _ _ 3 _ _ _ (AV.out.heap SR.out)
          have c4 := cell_of_row _ _ 4 _ _ _ (AV.out.heap SR.out)
          have c5 := cell_of_row _ _ 5 _ _ _ (AV.out.heap SR.out)
          have l1 := cell_of_row _ _ 1 _ _ _ (AV.out.heap RV.out)
          go_wp2_with fail
          refine (Y.out.CD.out _ _ (GV.out.to AV.out) (AX.out.trans AV.out)).mono ?_
          rintro e9 v9 ⟨rfl, k9⟩
          have A9 : Hid (Ab W v9) := (AX0.out.trans AV.out).call k9
          clear k9 AV c0 c1 c2 c3 c4 c5 l1
          go_wp2
          go_roundw
          case rel => exact ⟨2, by omega, rfl, A9.out⟩
          case measure => simp [intOf]
      · rcases hv0 with hv0 | hv0
        · have Y := Y1
          clear Y0 Y1
          have hUi := Y.out.hU
          have hDi := Y.out.hD
          have hKi := Y.out.hK
          have hxi := Y.out.hx
          have hyi := Y.out.hy
          have hmi := Y.out.hm
          have hvi := Y.out.hv
          have c0 := cell_of_row _ _ 0 _ _ _ (AR.out.heap RO.out)
          have c1 := cell_of_row _ _ 1 _ _ _ (AR.out.heap RO.out)
          have c2 := cell_of_row _ _ 2 _ _ _ (AR.out.heap RO.out)
          have c3 := cell_of_row _ _ 3 _ _ _ (AR.out.heap RO.out)
          have c4 := cell_of_row _ _ 4 _ _ _ (AR.out.heap RO.out)
          have c5 := cell_of_row _ _ 5 _ _ _ (AR.out.heap RO.out)
          have c6 := cell_of_row _ _ 6 _ _ _ (AR.out.heap RO.out)
          have c7 := cell_of_row _ _ 7 _ _ _ (AR.out.heap RO.out)
          have e0 := cell_of_row _ _ 0 _ _ _ (AR.out.heap ER.out)
          have e2 := cell_of_row _ _ 2 _ _ _ (AR.out.heap ER.out)
          go_upto_region 22 with fail
          have SR0 : Hid ((wr.alloc (.cells #[.slice (some ⟨bb, bo, none⟩) M cb, .slice (some ⟨wb, wo, none⟩) M cw, .slice pt lt ct, .slice ps ls cs, .int .i64 sky, .int .i64 st] 25)).heap[wr.heap.size]? = some (.cells #[.slice (some ⟨bb, bo, none⟩) M cb, .slice (some ⟨wb, wo, none⟩) M cw, .slice pt lt ct, .slice ps ls cs, .int .i64 sky, .int .i64 st] 25)) := heap_alloc_new _ _
          have AX0 : Hid (Ab W (wr.alloc (.cells #[.slice (some ⟨bb, bo, none⟩) M cb, .slice (some ⟨wb, wo, none⟩) M cw, .slice pt lt ct, .slice ps ls cs, .int .i64 sky, .int .i64 st] 25))) := AR.out.alloc _
          generalize hV : wr.alloc (.cells #[.slice (some ⟨bb, bo, none⟩) M cb, .slice (some ⟨wb, wo, none⟩) M cw, .slice pt lt ct, .slice ps ls cs, .int .i64 sky, .int .i64 st] 25) = V at *
          obtain ⟨gs, hgs⟩ : ∃ g, wr.heap.size = g := ⟨_, rfl⟩
          have SR : Hid (V.heap[gs]? = some (.cells #[.slice (some ⟨bb, bo, none⟩) M cb, .slice (some ⟨wb, wo, none⟩) M cw, .slice pt lt ct, .slice ps ls cs, .int .i64 sky, .int .i64 st] 25)) := by rw [← hgs]; exact SR0.out
          rw [hgs]
          clear hV hgs SR0 c0 c1 c2 c3 c4 c5 c6 c7 e0 e2
          have AX : Hid (Ab w V) := AW.out.trans AX0.out
          have GV : Hid (GridOf n gb V) := GG.out.to AX0.out
          have RV : Hid (V.heap[w.heap.size]? = some (.cells #[.int .i64 side, .int .i64 lim, .slice (some ⟨bb, bo, none⟩) M cb, .slice (some ⟨wb, wo, none⟩) M cw, .slice pt lt ct, .slice ps ls cs, .int .i64 sky, .int .i64 st] 27)) := AX0.out.heap RO.out
          have AV : Hid (Ab V V) := Ab.refl V
          obtain ⟨UU, E1, hF1, hF2⟩ := cls V
          have HU := hid hF2
          have HU1 := hid hF1
          have HV : Hid (∀ u, Ab V (E1 u)) := fun u => AV.out.trans (hF1 u)
          have HG : Hid (∀ u, GridOf n gb (E1 u)) := fun u => GV.out.to (HV.out u)
          have HX : Hid (∀ u, Ab w (E1 u)) := fun u => AX.out.trans (HV.out u)
          have xs1 : ∀ u, (E1 u).cell? ⟨gs, 1, none⟩ = some (.slice (some ⟨wb, wo, none⟩) M cw) := fun u => cell_of_row _ _ 1 _ _ _ ((HV.out u).heap SR.out)
          have xw : ∀ u, (E1 u).cell? ⟨wb, wo + R, none⟩ = some (.int .i64 wU1) := fun u => (Y.out.FW.out _ (HX.out u)).1
          have DD0 := HU.out _ (Ab.refl V).drew
          clear hF1 hF2
          refine region_cls E1 (by kernel_rfl) (by kernel_rfl) DD0 ?_
          repeat (go_big_quiet_step (first
            | (with_reducible rfl)
            | (go_at_call 17; exact calls_cls HU HU1 (Y.out.AU.out _ _ (HG.out _)))
            | (go_at_call 16; exact calls_cls HU HU1 (Y.out.DU.out _))))
          refine wpQuiet_nil ?_
          intro z1 hwz
          obtain ⟨u0, hu⟩ := hwz
          have AV1 : Hid (Ab V z1) := by rw [hu]; exact HV.out u0
          clear hu u0
          clear HU HU1 HV HG HX DD0 xs1 xw
          clear E1 UU AV
          have AV := AV1
          clear AV1
          go_upto_region 23 with fail
          obtain ⟨UU, E1, hF1, hF2⟩ := cls z1
          have HU := hid hF2
          have HU1 := hid hF1
          have HV : Hid (∀ u, Ab V (E1 u)) := fun u => AV.out.trans (hF1 u)
          have HG : Hid (∀ u, GridOf n gb (E1 u)) := fun u => GV.out.to (HV.out u)
          have HX : Hid (∀ u, Ab w (E1 u)) := fun u => AX.out.trans (HV.out u)
          have xs1 : ∀ u, (E1 u).cell? ⟨gs, 1, none⟩ = some (.slice (some ⟨wb, wo, none⟩) M cw) := fun u => cell_of_row _ _ 1 _ _ _ ((HV.out u).heap SR.out)
          have xl1 : ∀ u, (E1 u).cell? ⟨w.heap.size, 1, none⟩ = some (.int .i64 lim) := fun u => cell_of_row _ _ 1 _ _ _ ((HV.out u).heap RV.out)
          have xwk : ∀ u, (E1 u).cell? ⟨wb, wo + q, none⟩ = some (.int .i64 wK1) := fun u => (Y.out.FW.out _ (HX.out u)).2.1
          have xwd : ∀ u, (E1 u).cell? ⟨wb, wo + L, none⟩ = some (.int .i64 wD1) := fun u => (Y.out.FW.out _ (HX.out u)).2.2.1
          have DD0 := HU.out _ (Ab.refl z1).drew
          clear hF1 hF2
          refine region_cls E1 (by kernel_rfl) (by kernel_rfl) DD0 ?_
          repeat (go_big_quiet_step (first
            | (with_reducible rfl)
            | (go_at_call_of 17 q; exact calls_cls HU HU1 (Y.out.AK.out _ _ (HG.out _)))
            | (go_at_call_of 17 L; exact calls_cls HU HU1 (Y.out.AD.out _ _ (HG.out _)))
            | (go_at_call_of 16 wK1; exact calls_cls HU HU1 (Y.out.DK.out _))
            | (go_at_call_of 16 wD1; exact calls_cls HU HU1 (Y.out.DD.out _))
            | (go_at_call 18; exact calls_cls HU HU1 (Y.out.CS.out _))))
          refine wpQuiet_nil ?_
          intro z2 hwz
          obtain ⟨u0, hu⟩ := hwz
          have AV2 : Hid (Ab V z2) := by rw [hu]; exact HV.out u0
          clear hu u0
          clear HU HU1 HV HG HX DD0 xs1 xl1 xwk xwd
          clear E1 UU AV
          have AV := AV2
          clear AV2
          go_upto_region 25 with fail
          obtain ⟨UU, E1, hF1, hF2⟩ := cls z2
          have HU := hid hF2
          have HU1 := hid hF1
          have HV : Hid (∀ u, Ab V (E1 u)) := fun u => AV.out.trans (hF1 u)
          have HG : Hid (∀ u, GridOf n gb (E1 u)) := fun u => GV.out.to (HV.out u)
          have HX : Hid (∀ u, Ab w (E1 u)) := fun u => AX.out.trans (HV.out u)
          have xs0 : ∀ u, (E1 u).cell? ⟨gs, 0, none⟩ = some (.slice (some ⟨bb, bo, none⟩) M cb) := fun u => cell_of_row _ _ 0 _ _ _ ((HV.out u).heap SR.out)
          have xs1 : ∀ u, (E1 u).cell? ⟨gs, 1, none⟩ = some (.slice (some ⟨wb, wo, none⟩) M cw) := fun u => cell_of_row _ _ 1 _ _ _ ((HV.out u).heap SR.out)
          have xw : ∀ u, (E1 u).cell? ⟨wb, wo + R, none⟩ = some (.int .i64 wU1) := fun u => (Y.out.FW.out _ (HX.out u)).1
          have xb1 : ∀ u, (E1 u).cell? ⟨bb, bo + R, none⟩ = some (.float .f64 bU1) := fun u => (Y.out.FW.out _ (HX.out u)).2.2.2.1
          have xb2 : ∀ u, (E1 u).cell? ⟨bb, bo + L, none⟩ = some (.float .f64 bD1) := fun u => (Y.out.FW.out _ (HX.out u)).2.2.2.2
          have DD0 := HU.out _ (Ab.refl z2).drew
          clear hF1 hF2
          refine region_tail 25 E1 (by kernel_rfl) (by kernel_rfl) (by kernel_rfl) DD0 ?_
          simp only [List.take_succ_cons, List.take_zero, List.drop_succ_cons, List.drop_zero]
          repeat (go_big_quiet_step (first
            | (with_reducible rfl)
            | (go_at_call 17; exact calls_cls HU HU1 (Y.out.AU.out _ _ (HG.out _)))
            | (go_at_call 19; exact calls_cls HU HU1 (Y.out.CL.out _))
            | (go_at_call 20; exact calls_cls HU HU1 (Y.out.CM.out _))))
          refine wpQuiet_nil ?_
          intro z3 hwz
          obtain ⟨u0, hu⟩ := hwz
          have AV3 : Hid (Ab V z3) := by rw [hu]; exact HV.out u0
          clear hu u0
          clear HU HU1 HV HG HX DD0 xs0 xs1 xw xb1 xb2
          clear E1 UU AV
          have AV := AV3
          clear AV3
          go_upto_region 26 with fail
          have AV2 : Hid (Ab V (z3.drewN 1)) := Ab.drewN AV.out 1
          clear AV
          have AV := AV2
          clear AV2
          have c0 := cell_of_row _ _ 0 _ _ _ (AV.out.heap SR.out)
          have c1 := cell_of_row _ _ 1 _ _ _ (AV.out.heap SR.out)
          have c2 := cell_of_row _ _ 2 _ _ _ (AV.out.heap SR.out)
          have c3 := cell_of_row _ _ 3 _ _ _ (AV.out.heap SR.out)
          have c4 := cell_of_row _ _ 4 _ _ _ (AV.out.heap SR.out)
          have c5 := cell_of_row _ _ 5 _ _ _ (AV.out.heap SR.out)
          have l1 := cell_of_row _ _ 1 _ _ _ (AV.out.heap RV.out)
          go_wp2_with fail
          refine (Y.out.CD.out _ _ (GV.out.to AV.out) (AX.out.trans AV.out)).mono ?_
          rintro e9 v9 ⟨rfl, k9⟩
          have A9 : Hid (Ab W v9) := (AX0.out.trans AV.out).call k9
          clear k9 AV c0 c1 c2 c3 c4 c5 l1
          go_wp2
          go_roundw
          case rel => exact ⟨2, by omega, rfl, A9.out⟩
          case measure => simp [intOf]
        · have Y := Y1
          clear Y0 Y1
          have hUi := Y.out.hU
          have hDi := Y.out.hD
          have hKi := Y.out.hK
          have hxi := Y.out.hx
          have hyi := Y.out.hy
          have hmi := Y.out.hm
          have hvi := Y.out.hv
          have c0 := cell_of_row _ _ 0 _ _ _ (AR.out.heap RO.out)
          have c1 := cell_of_row _ _ 1 _ _ _ (AR.out.heap RO.out)
          have c2 := cell_of_row _ _ 2 _ _ _ (AR.out.heap RO.out)
          have c3 := cell_of_row _ _ 3 _ _ _ (AR.out.heap RO.out)
          have c4 := cell_of_row _ _ 4 _ _ _ (AR.out.heap RO.out)
          have c5 := cell_of_row _ _ 5 _ _ _ (AR.out.heap RO.out)
          have c6 := cell_of_row _ _ 6 _ _ _ (AR.out.heap RO.out)
          have c7 := cell_of_row _ _ 7 _ _ _ (AR.out.heap RO.out)
          have e0 := cell_of_row _ _ 0 _ _ _ (AR.out.heap ER.out)
          have e2 := cell_of_row _ _ 2 _ _ _ (AR.out.heap ER.out)
          go_upto_region 22 with fail
          have SR0 : Hid ((wr.alloc (.cells #[.slice (some ⟨bb, bo, none⟩) M cb, .slice (some ⟨wb, wo, none⟩) M cw, .slice pt lt ct, .slice ps ls cs, .int .i64 sky, .int .i64 st] 25)).heap[wr.heap.size]? = some (.cells #[.slice (some ⟨bb, bo, none⟩) M cb, .slice (some ⟨wb, wo, none⟩) M cw, .slice pt lt ct, .slice ps ls cs, .int .i64 sky, .int .i64 st] 25)) := heap_alloc_new _ _
          have AX0 : Hid (Ab W (wr.alloc (.cells #[.slice (some ⟨bb, bo, none⟩) M cb, .slice (some ⟨wb, wo, none⟩) M cw, .slice pt lt ct, .slice ps ls cs, .int .i64 sky, .int .i64 st] 25))) := AR.out.alloc _
          generalize hV : wr.alloc (.cells #[.slice (some ⟨bb, bo, none⟩) M cb, .slice (some ⟨wb, wo, none⟩) M cw, .slice pt lt ct, .slice ps ls cs, .int .i64 sky, .int .i64 st] 25) = V at *
          obtain ⟨gs, hgs⟩ : ∃ g, wr.heap.size = g := ⟨_, rfl⟩
          have SR : Hid (V.heap[gs]? = some (.cells #[.slice (some ⟨bb, bo, none⟩) M cb, .slice (some ⟨wb, wo, none⟩) M cw, .slice pt lt ct, .slice ps ls cs, .int .i64 sky, .int .i64 st] 25)) := by rw [← hgs]; exact SR0.out
          rw [hgs]
          clear hV hgs SR0 c0 c1 c2 c3 c4 c5 c6 c7 e0 e2
          have AX : Hid (Ab w V) := AW.out.trans AX0.out
          have GV : Hid (GridOf n gb V) := GG.out.to AX0.out
          have RV : Hid (V.heap[w.heap.size]? = some (.cells #[.int .i64 side, .int .i64 lim, .slice (some ⟨bb, bo, none⟩) M cb, .slice (some ⟨wb, wo, none⟩) M cw, .slice pt lt ct, .slice ps ls cs, .int .i64 sky, .int .i64 st] 27)) := AX0.out.heap RO.out
          have AV : Hid (Ab V V) := Ab.refl V
          obtain ⟨UU, E1, hF1, hF2⟩ := cls V
          have HU := hid hF2
          have HU1 := hid hF1
          have HV : Hid (∀ u, Ab V (E1 u)) := fun u => AV.out.trans (hF1 u)
          have HG : Hid (∀ u, GridOf n gb (E1 u)) := fun u => GV.out.to (HV.out u)
          have HX : Hid (∀ u, Ab w (E1 u)) := fun u => AX.out.trans (HV.out u)
          have xs1 : ∀ u, (E1 u).cell? ⟨gs, 1, none⟩ = some (.slice (some ⟨wb, wo, none⟩) M cw) := fun u => cell_of_row _ _ 1 _ _ _ ((HV.out u).heap SR.out)
          have xw : ∀ u, (E1 u).cell? ⟨wb, wo + R, none⟩ = some (.int .i64 wU1) := fun u => (Y.out.FW.out _ (HX.out u)).1
          have DD0 := HU.out _ (Ab.refl V).drew
          clear hF1 hF2
          refine region_cls E1 (by kernel_rfl) (by kernel_rfl) DD0 ?_
          repeat (go_big_quiet_step (first
            | (with_reducible rfl)
            | (go_at_call 17; exact calls_cls HU HU1 (Y.out.AU.out _ _ (HG.out _)))
            | (go_at_call 16; exact calls_cls HU HU1 (Y.out.DU.out _))))
          refine wpQuiet_nil ?_
          intro z1 hwz
          obtain ⟨u0, hu⟩ := hwz
          have AV1 : Hid (Ab V z1) := by rw [hu]; exact HV.out u0
          clear hu u0
          clear HU HU1 HV HG HX DD0 xs1 xw
          clear E1 UU AV
          have AV := AV1
          clear AV1
          go_upto_region 23 with fail
          obtain ⟨UU, E1, hF1, hF2⟩ := cls z1
          have HU := hid hF2
          have HU1 := hid hF1
          have HV : Hid (∀ u, Ab V (E1 u)) := fun u => AV.out.trans (hF1 u)
          have HG : Hid (∀ u, GridOf n gb (E1 u)) := fun u => GV.out.to (HV.out u)
          have HX : Hid (∀ u, Ab w (E1 u)) := fun u => AX.out.trans (HV.out u)
          have xs1 : ∀ u, (E1 u).cell? ⟨gs, 1, none⟩ = some (.slice (some ⟨wb, wo, none⟩) M cw) := fun u => cell_of_row _ _ 1 _ _ _ ((HV.out u).heap SR.out)
          have xl1 : ∀ u, (E1 u).cell? ⟨w.heap.size, 1, none⟩ = some (.int .i64 lim) := fun u => cell_of_row _ _ 1 _ _ _ ((HV.out u).heap RV.out)
          have xwk : ∀ u, (E1 u).cell? ⟨wb, wo + q, none⟩ = some (.int .i64 wK1) := fun u => (Y.out.FW.out _ (HX.out u)).2.1
          have xwd : ∀ u, (E1 u).cell? ⟨wb, wo + L, none⟩ = some (.int .i64 wD1) := fun u => (Y.out.FW.out _ (HX.out u)).2.2.1
          have DD0 := HU.out _ (Ab.refl z1).drew
          clear hF1 hF2
          refine region_cls E1 (by kernel_rfl) (by kernel_rfl) DD0 ?_
          repeat (go_big_quiet_step (first
            | (with_reducible rfl)
            | (go_at_call_of 17 q; exact calls_cls HU HU1 (Y.out.AK.out _ _ (HG.out _)))
            | (go_at_call_of 17 L; exact calls_cls HU HU1 (Y.out.AD.out _ _ (HG.out _)))
            | (go_at_call_of 16 wK1; exact calls_cls HU HU1 (Y.out.DK.out _))
            | (go_at_call_of 16 wD1; exact calls_cls HU HU1 (Y.out.DD.out _))
            | (go_at_call 18; exact calls_cls HU HU1 (Y.out.CS.out _))))
          refine wpQuiet_nil ?_
          intro z2 hwz
          obtain ⟨u0, hu⟩ := hwz
          have AV2 : Hid (Ab V z2) := by rw [hu]; exact HV.out u0
          clear hu u0
          clear HU HU1 HV HG HX DD0 xs1 xl1 xwk xwd
          clear E1 UU AV
          have AV := AV2
          clear AV2
          go_upto_region 25 with fail
          obtain ⟨UU, E1, hF1, hF2⟩ := cls z2
          have HU := hid hF2
          have HU1 := hid hF1
          have HV : Hid (∀ u, Ab V (E1 u)) := fun u => AV.out.trans (hF1 u)
          have HG : Hid (∀ u, GridOf n gb (E1 u)) := fun u => GV.out.to (HV.out u)
          have HX : Hid (∀ u, Ab w (E1 u)) := fun u => AX.out.trans (HV.out u)
          have xs0 : ∀ u, (E1 u).cell? ⟨gs, 0, none⟩ = some (.slice (some ⟨bb, bo, none⟩) M cb) := fun u => cell_of_row _ _ 0 _ _ _ ((HV.out u).heap SR.out)
          have xs1 : ∀ u, (E1 u).cell? ⟨gs, 1, none⟩ = some (.slice (some ⟨wb, wo, none⟩) M cw) := fun u => cell_of_row _ _ 1 _ _ _ ((HV.out u).heap SR.out)
          have xw : ∀ u, (E1 u).cell? ⟨wb, wo + R, none⟩ = some (.int .i64 wU1) := fun u => (Y.out.FW.out _ (HX.out u)).1
          have xb1 : ∀ u, (E1 u).cell? ⟨bb, bo + R, none⟩ = some (.float .f64 bU1) := fun u => (Y.out.FW.out _ (HX.out u)).2.2.2.1
          have xb2 : ∀ u, (E1 u).cell? ⟨bb, bo + L, none⟩ = some (.float .f64 bD1) := fun u => (Y.out.FW.out _ (HX.out u)).2.2.2.2
          have DD0 := HU.out _ (Ab.refl z2).drew
          clear hF1 hF2
          refine region_tail 25 E1 (by kernel_rfl) (by kernel_rfl) (by kernel_rfl) DD0 ?_
          simp only [List.take_succ_cons, List.take_zero, List.drop_succ_cons, List.drop_zero]
          repeat (go_big_quiet_step (first
            | (with_reducible rfl)
            | (go_at_call 17; exact calls_cls HU HU1 (Y.out.AU.out _ _ (HG.out _)))
            | (go_at_call 19; exact calls_cls HU HU1 (Y.out.CL.out _))
            | (go_at_call 20; exact calls_cls HU HU1 (Y.out.CM.out _))))
          refine wpQuiet_nil ?_
          intro z3 hwz
          obtain ⟨u0, hu⟩ := hwz
          have AV3 : Hid (Ab V z3) := by rw [hu]; exact HV.out u0
          clear hu u0
          clear HU HU1 HV HG HX DD0 xs0 xs1 xw xb1 xb2
          clear E1 UU AV
          have AV := AV3
          clear AV3
          go_upto_region 26 with fail
          have AV2 : Hid (Ab V (z3.drewN 1)) := Ab.drewN AV.out 1
          clear AV
          have AV := AV2
          clear AV2
          have c0 := cell_of_row _ _ 0 _ _ _ (AV.out.heap SR.out)
          have c1 := cell_of_row _ _ 1 _ _ _ (AV.out.heap SR.out)
          have c2 := cell_of_row _ _ 2 _ _ _ (AV.out.heap SR.out)
          have c3 := cell_of_row _ _ 3 _ _ _ (AV.out.heap SR.out)
          have c4 := cell_of_row _ _ 4 _ _ _ (AV.out.heap SR.out)
          have c5 := cell_of_row _ _ 5 _ _ _ (AV.out.heap SR.out)
          have l1 := cell_of_row _ _ 1 _ _ _ (AV.out.heap RV.out)
          go_wp2_with fail
          refine (Y.out.CD.out _ _ (GV.out.to AV.out) (AX.out.trans AV.out)).mono ?_
          rintro e9 v9 ⟨rfl, k9⟩
          have A9 : Hid (Ab W v9) := (AX0.out.trans AV.out).call k9
          clear k9 AV c0 c1 c2 c3 c4 c5 l1
          go_wp2
          go_roundw
          case rel => exact ⟨2, by omega, rfl, A9.out⟩
          case measure => simp [intOf]
    · go_wp2
      go_ret
      exact ⟨rfl, AW.out.trans AR.out⟩
end Go.Proofs.YtjgbaenihkplpaaDoor
