/-
  Some of the texts of this proof, one behind the other.
-/
import Derived.Test.YtpfoohpncbkkfaaDoorZ12
namespace Go.Proofs.YtpfoohpncbkkfaaDoor
open Go.RowKit Tf Cu Go.Deep
attribute [local go_sem] run_bits run_from raw_feq raw_fne raw_flt raw_fgt run_neg run_store_float
namespace Fc
theorem same16b (x : Nat) (v : World) : Calls Tryd.prog 12 #[.float .f64 x, .float .f64 x] v fun e w' => e = .returned (.bool true) ∧ Below v.heap.size v w' := (same16 x v).mono fun _ _ h => ⟨h.1, by obtain ⟨_, rfl⟩ := h; exact Below.refl _ _⟩
set_option maxRecDepth 100000 in
set_option maxHeartbeats 16000000 in
theorem mirror16_none (side : Int) (n : Nat) (sd : Int) (dt gr dr : Nat) (lim : Int) (rv : Bool) (pr : Option Addr) (lr cr : Nat) (pb : Option Addr) (lb cb : Nat) (pw : Option Addr) (lw cw : Nat) (pt : Option Addr) (lt ct : Nat) (ps : Option Addr) (ls cs : Nat) (sky st : Int) (e : Int) (w : World)
    (LV : Hid (∀ v, Ab w v → Calls Tryd.prog 9 #[] v fun e w' => e = .returned (.bool true) ∧ Below v.heap.size v w'))
    (NT : Hid (∀ v, Ab w v → Calls Tryd.prog 10 #[.int .i64 side, .agg #[.slice pb lb cb, .slice pw lw cw, .slice pt lt ct, .slice ps ls cs, .int .i64 sky, .int .i64 st]] v fun e w' => Below v.heap.size v w' ∧ ((∃ gb, e = .returned (.pointer (some ⟨gb, 0, none⟩)) ∧ GridOf n gb w') ∨ e = .returned (.pointer none))))
    (EG : Hid (∀ gb v, Ab w v → GridOf n gb v → Calls Tryd.prog 14 #[.pointer (some ⟨gb, 0, none⟩), .int .i64 e] v fun x w' => x = .returned (.tuple #[.agg #[.int .i64 0, .int .i64 0, .int .i64 0, .int .i64 0], .bool false]) ∧ Below v.heap.size v w'))
    (OP : Hid (∀ gb v, Ab w v → GridOf n gb v → Calls Tryd.prog 15 #[.pointer (some ⟨gb, 0, none⟩), .agg #[.slice pb lb cb, .slice pw lw cw, .slice pt lt ct, .slice ps ls cs, .int .i64 sky, .int .i64 st], .int .i64 e] v fun x w' => x = .returned (.bool false) ∧ Below v.heap.size v w')) :
    Calls Tryd.prog 5 #[.int .i64 side, .agg #[.int .i64 sd, .float .f64 dt, .float .f64 gr, .float .f64 dr, .int .i64 lim, .bool rv, .slice pr lr cr], .agg #[.slice pb lb cb, .slice pw lw cw, .slice pt lt ct, .slice ps ls cs, .int .i64 sky, .int .i64 st], .int .i64 e] w fun x w' => x = .returned (.bool true) ∧ Below w.heap.size w w' := by
  have A0 : Hid (Ab w ((w.alloc (.cells #[.int .i64 sd, .float .f64 dt, .float .f64 gr, .float .f64 dr, .int .i64 lim, .bool rv, .slice pr lr cr] 25)).alloc (.cells #[.slice pb lb cb, .slice pw lw cw, .slice pt lt ct, .slice ps ls cs, .int .i64 sky, .int .i64 st] 29))) := bl2 _ _ _
  have P0 : Hid (((w.alloc (.cells #[.int .i64 sd, .float .f64 dt, .float .f64 gr, .float .f64 dr, .int .i64 lim, .bool rv, .slice pr lr cr] 25)).alloc (.cells #[.slice pb lb cb, .slice pw lw cw, .slice pt lt ct, .slice ps ls cs, .int .i64 sky, .int .i64 st] 29)).heap[w.heap.size]? = some (.cells #[.int .i64 sd, .float .f64 dt, .float .f64 gr, .float .f64 dr, .int .i64 lim, .bool rv, .slice pr lr cr] 25)) := heap_alloc2_old _ _ _
  have S0 : Hid (((w.alloc (.cells #[.int .i64 sd, .float .f64 dt, .float .f64 gr, .float .f64 dr, .int .i64 lim, .bool rv, .slice pr lr cr] 25)).alloc (.cells #[.slice pb lb cb, .slice pw lw cw, .slice pt lt ct, .slice ps ls cs, .int .i64 sky, .int .i64 st] 29)).heap[w.heap.size + 1]? = some (.cells #[.slice pb lb cb, .slice pw lw cw, .slice pt lt ct, .slice ps ls cs, .int .i64 sky, .int .i64 st] 29)) := heap_alloc2_new _ _ _
  go_enter Tryd.func5, Tryd.ntmps5
  go_upto_region 1 with fail
  obtain ⟨gp, hgp⟩ : ∃ g, w.heap.size = g := ⟨_, rfl⟩
  obtain ⟨gs, hgs⟩ : ∃ g, w.heap.size + 1 = g := ⟨_, rfl⟩
  generalize hW : World.alloc (World.alloc w _) _ = W at *
  rw [hgs] at S0 ⊢
  rw [hgp] at P0 ⊢
  clear hgp hgs hW
  go_wp2_with fail
  refine (LV.out _ A0.out).mono ?_
  rintro e9 v1 ⟨rfl, k1⟩
  have A1 : Hid (Ab w v1) := A0.out.call k1
  have P1 := hid (Ab.heap k1 P0.out)
  have S1 := hid (Ab.heap k1 S0.out)
  clear k1 A0 P0 S0
  have c0 := cell_of_row _ _ 0 _ _ _ S1.out
  have c1 := cell_of_row _ _ 1 _ _ _ S1.out
  have c2 := cell_of_row _ _ 2 _ _ _ S1.out
  have c3 := cell_of_row _ _ 3 _ _ _ S1.out
  have c4 := cell_of_row _ _ 4 _ _ _ S1.out
  have c5 := cell_of_row _ _ 5 _ _ _ S1.out
  go_wp2_with fail
  refine (NT.out _ A1.out).mono ?_
  rintro e9 v2 ⟨k1, ⟨gb, rfl, g1⟩ | rfl⟩
  · have A2 : Hid (Ab w v2) := A1.out.call k1
    have P2 := hid (Ab.heap k1 P1.out)
    have S2 := hid (Ab.heap k1 S1.out)
    have G2 := hid g1
    clear k1 g1 A1 P1 S1 c0 c1 c2 c3 c4 c5 LV NT
    go_wp2_with fail
    refine (EG.out gb _ A2.out G2.out).mono ?_
    rintro e9 v3 ⟨rfl, k3⟩
    have A3 : Hid (Ab v2 v3) := k3
    clear k3 EG
    go_upto_region 7 with fail
    obtain ⟨ge, hge⟩ : ∃ g, v3.heap.size = g := ⟨_, rfl⟩
    have E4 := hid (heap_alloc_new v3 (.cells #[.int .i64 0, .int .i64 0, .int .i64 0, .int .i64 0] 39))
    have A4 : Hid (Ab v2 (v3.alloc (.cells #[.int .i64 0, .int .i64 0, .int .i64 0, .int .i64 0] 39))) := A3.out.trans (bl1 _ _)
    generalize hV : v3.alloc (.cells #[.int .i64 0, .int .i64 0, .int .i64 0, .int .i64 0] 39) = v4 at *
    rw [hge] at E4 ⊢
    clear hV hge A3
    have S4 := hid (Ab.heap A4.out S2.out)
    have P4 := hid (Ab.heap A4.out P2.out)
    have G4 := hid (G2.out.to A4.out)
    have W4 : Hid (Ab w v4) := A2.out.trans A4.out
    clear A2 S2 P2 G2 A4
    obtain ⟨UU, E, hF1, hF2⟩ := cls v4
    have HU := hid hF2
    have HU1 := hid hF1
    have DD0 := HU.out _ (Ab.refl v4).drew
    clear hF1 hF2
    refine region_cls E (by kernel_rfl) (by kernel_rfl) DD0 ?_
    repeat (go_big_quiet_step (first
      | (with_reducible rfl)))
    refine wpQuiet_nil ?_
    intro v5 hwz
    obtain ⟨u0, hu⟩ := hwz
    have AZ : Hid (Ab v4 v5) := by rw [hu]; exact HU1.out u0
    clear hu u0
    clear HU HU1 DD0
    clear E UU
    have S5 := hid (Ab.heap AZ.out S4.out)
    have G5 := hid (G4.out.to AZ.out)
    have W5 : Hid (Ab w v5) := W4.out.trans AZ.out
    clear AZ S4 P4 E4 G4 W4
    have c0 := cell_of_row _ _ 0 _ _ _ S5.out
    have c1 := cell_of_row _ _ 1 _ _ _ S5.out
    have c2 := cell_of_row _ _ 2 _ _ _ S5.out
    have c3 := cell_of_row _ _ 3 _ _ _ S5.out
    have c4 := cell_of_row _ _ 4 _ _ _ S5.out
    have c5 := cell_of_row _ _ 5 _ _ _ S5.out
    go_wp2_with fail
    refine (OP.out gb _ W5.out G5.out).mono ?_
    rintro e9 v6 ⟨rfl, k6⟩
    have W6 : Hid (Ab w v6) := W5.out.call k6
    clear k6
    go_wp2
    go_ret
    exact ⟨rfl, W6.out⟩
  · have A2 : Hid (Ab w v2) := A1.out.call k1
    clear k1 A1 P1 S1 c0 c1 c2 c3 c4 c5 LV NT
    go_wp2
    go_ret
    exact ⟨rfl, A2.out⟩
set_option maxRecDepth 100000 in
set_option maxHeartbeats 16000000 in
theorem mirror16_diff (side : Int) (n : Nat) (sd : Int) (dt gr dr : Nat) (lim : Int) (rv : Bool) (pr : Option Addr) (lr cr : Nat) (pb : Option Addr) (lb cb : Nat) (pw : Option Addr) (lw cw : Nat) (pt : Option Addr) (lt ct : Nat) (ps : Option Addr) (ls cs : Nat) (sky st : Int) (e : Int) (lc rc sl sr : Nat) (al ar : Int) (w : World) (hd : (al != ar) = true)
    (LV : Hid (∀ v, Ab w v → Calls Tryd.prog 9 #[] v fun e w' => e = .returned (.bool true) ∧ Below v.heap.size v w'))
    (NT : Hid (∀ v, Ab w v → Calls Tryd.prog 10 #[.int .i64 side, .agg #[.slice pb lb cb, .slice pw lw cw, .slice pt lt ct, .slice ps ls cs, .int .i64 sky, .int .i64 st]] v fun e w' => Below v.heap.size v w' ∧ ((∃ gb, e = .returned (.pointer (some ⟨gb, 0, none⟩)) ∧ GridOf n gb w') ∨ e = .returned (.pointer none))))
    (EG : Hid (∀ gb v, Ab w v → GridOf n gb v → Calls Tryd.prog 14 #[.pointer (some ⟨gb, 0, none⟩), .int .i64 e] v fun x w' => x = .returned (.tuple #[.agg #[.int .i64 (lc : Nat), .int .i64 (sl : Nat), .int .i64 (rc : Nat), .int .i64 (sr : Nat)], .bool true]) ∧ Below v.heap.size v w'))
    (GL : Hid (∀ gb v, Ab w v → GridOf n gb v → Calls Tryd.prog 17 #[.pointer (some ⟨gb, 0, none⟩), .int .i64 (lc : Nat)] v fun x w' => x = .returned (.int .i64 al) ∧ Below v.heap.size v w'))
    (GR : Hid (∀ gb v, Ab w v → GridOf n gb v → Calls Tryd.prog 17 #[.pointer (some ⟨gb, 0, none⟩), .int .i64 (rc : Nat)] v fun x w' => x = .returned (.int .i64 ar) ∧ Below v.heap.size v w')) :
    Calls Tryd.prog 5 #[.int .i64 side, .agg #[.int .i64 sd, .float .f64 dt, .float .f64 gr, .float .f64 dr, .int .i64 lim, .bool rv, .slice pr lr cr], .agg #[.slice pb lb cb, .slice pw lw cw, .slice pt lt ct, .slice ps ls cs, .int .i64 sky, .int .i64 st], .int .i64 e] w fun x w' => x = .returned (.bool true) ∧ Below w.heap.size w w' := by
  have A0 : Hid (Ab w ((w.alloc (.cells #[.int .i64 sd, .float .f64 dt, .float .f64 gr, .float .f64 dr, .int .i64 lim, .bool rv, .slice pr lr cr] 25)).alloc (.cells #[.slice pb lb cb, .slice pw lw cw, .slice pt lt ct, .slice ps ls cs, .int .i64 sky, .int .i64 st] 29))) := bl2 _ _ _
  have P0 : Hid (((w.alloc (.cells #[.int .i64 sd, .float .f64 dt, .float .f64 gr, .float .f64 dr, .int .i64 lim, .bool rv, .slice pr lr cr] 25)).alloc (.cells #[.slice pb lb cb, .slice pw lw cw, .slice pt lt ct, .slice ps ls cs, .int .i64 sky, .int .i64 st] 29)).heap[w.heap.size]? = some (.cells #[.int .i64 sd, .float .f64 dt, .float .f64 gr, .float .f64 dr, .int .i64 lim, .bool rv, .slice pr lr cr] 25)) := heap_alloc2_old _ _ _
  have S0 : Hid (((w.alloc (.cells #[.int .i64 sd, .float .f64 dt, .float .f64 gr, .float .f64 dr, .int .i64 lim, .bool rv, .slice pr lr cr] 25)).alloc (.cells #[.slice pb lb cb, .slice pw lw cw, .slice pt lt ct, .slice ps ls cs, .int .i64 sky, .int .i64 st] 29)).heap[w.heap.size + 1]? = some (.cells #[.slice pb lb cb, .slice pw lw cw, .slice pt lt ct, .slice ps ls cs, .int .i64 sky, .int .i64 st] 29)) := heap_alloc2_new _ _ _
  go_enter Tryd.func5, Tryd.ntmps5
  go_upto_region 1 with fail
  obtain ⟨gp, hgp⟩ : ∃ g, w.heap.size = g := ⟨_, rfl⟩
  obtain ⟨gs, hgs⟩ : ∃ g, w.heap.size + 1 = g := ⟨_, rfl⟩
  generalize hW : World.alloc (World.alloc w _) _ = W at *
  rw [hgs] at S0 ⊢
  rw [hgp] at P0 ⊢
  clear hgp hgs hW
  go_wp2_with fail
  refine (LV.out _ A0.out).mono ?_
  rintro e9 v1 ⟨rfl, k1⟩
  have A1 : Hid (Ab w v1) := A0.out.call k1
  have P1 := hid (Ab.heap k1 P0.out)
  have S1 := hid (Ab.heap k1 S0.out)
  clear k1 A0 P0 S0
  have c0 := cell_of_row _ _ 0 _ _ _ S1.out
  have c1 := cell_of_row _ _ 1 _ _ _ S1.out
  have c2 := cell_of_row _ _ 2 _ _ _ S1.out
  have c3 := cell_of_row _ _ 3 _ _ _ S1.out
  have c4 := cell_of_row _ _ 4 _ _ _ S1.out
  have c5 := cell_of_row _ _ 5 _ _ _ S1.out
  go_wp2_with fail
  refine (NT.out _ A1.out).mono ?_
  rintro e9 v2 ⟨k1, ⟨gb, rfl, g1⟩ | rfl⟩
  · have A2 : Hid (Ab w v2) := A1.out.call k1
    have P2 := hid (Ab.heap k1 P1.out)
    have S2 := hid (Ab.heap k1 S1.out)
    have G2 := hid g1
    clear k1 g1 A1 P1 S1 c0 c1 c2 c3 c4 c5 LV NT
    go_wp2_with fail
    refine (EG.out gb _ A2.out G2.out).mono ?_
    rintro e9 v3 ⟨rfl, k3⟩
    have A3 : Hid (Ab v2 v3) := k3
    clear k3 EG
    go_upto_region 7 with fail
    obtain ⟨ge, hge⟩ : ∃ g, v3.heap.size = g := ⟨_, rfl⟩
    have E4 := hid (heap_alloc_new v3 (.cells #[.int .i64 (lc : Nat), .int .i64 (sl : Nat), .int .i64 (rc : Nat), .int .i64 (sr : Nat)] 39))
    have A4 : Hid (Ab v2 (v3.alloc (.cells #[.int .i64 (lc : Nat), .int .i64 (sl : Nat), .int .i64 (rc : Nat), .int .i64 (sr : Nat)] 39))) := A3.out.trans (bl1 _ _)
    generalize hV : v3.alloc (.cells #[.int .i64 (lc : Nat), .int .i64 (sl : Nat), .int .i64 (rc : Nat), .int .i64 (sr : Nat)] 39) = v4 at *
    rw [hge] at E4 ⊢
    clear hV hge A3
    have S4 := hid (Ab.heap A4.out S2.out)
    have P4 := hid (Ab.heap A4.out P2.out)
    have G4 := hid (G2.out.to A4.out)
    have W4 : Hid (Ab w v4) := A2.out.trans A4.out
    clear A2 S2 P2 G2 A4
    obtain ⟨UU, E, hF1, hF2⟩ := cls v4
    have HU := hid hF2
    have HU1 := hid hF1
    have s0 : ∀ u, (E u).cell? ⟨ge, 0, none⟩ = some (.int .i64 (lc : Nat)) := fun u => cell_of_row _ _ 0 _ _ _ ((hF1 u).heap E4.out)
    have s2 : ∀ u, (E u).cell? ⟨ge, 2, none⟩ = some (.int .i64 (rc : Nat)) := fun u => cell_of_row _ _ 2 _ _ _ ((hF1 u).heap E4.out)
    have HX : Hid (∀ u, Ab w (E u)) := fun u => W4.out.trans (hF1 u)
    have HG : Hid (∀ u, GridOf n gb (E u)) := fun u => G4.out.to (hF1 u)
    have DD0 := HU.out _ (Ab.refl v4).drew
    clear hF1 hF2
    refine region_cls E (by kernel_rfl) (by kernel_rfl) DD0 ?_
    repeat (go_big_quiet_step (first
      | (with_reducible rfl)
      | (go_at_call_of 17 lc; exact calls_cls HU HU1 (GL.out gb _ (HX.out _) (HG.out _)))
      | (go_at_call_of 17 rc; exact calls_cls HU HU1 (GR.out gb _ (HX.out _) (HG.out _)))))
    refine wpQuiet_nil ?_
    intro v5 hwz
    obtain ⟨u0, hu⟩ := hwz
    have AZ : Hid (Ab v4 v5) := by rw [hu]; exact HU1.out u0
    clear hu u0
    clear HU HU1 HX HG DD0 s0 s2
    clear E UU
    have S5 := hid (Ab.heap AZ.out S4.out)
    have P5 := hid (Ab.heap AZ.out P4.out)
    have E5 := hid (Ab.heap AZ.out E4.out)
    have G5 := hid (G4.out.to AZ.out)
    have W5 : Hid (Ab w v5) := W4.out.trans AZ.out
    clear AZ S4 P4 E4 G4 W4
    go_wp2
    go_ret
    exact ⟨rfl, W5.out⟩
  · have A2 : Hid (Ab w v2) := A1.out.call k1
    clear k1 A1 P1 S1 c0 c1 c2 c3 c4 c5 LV NT
    go_wp2
    go_ret
    exact ⟨rfl, A2.out⟩
set_option maxRecDepth 100000 in
set_option maxHeartbeats 32000000 in
theorem mirror16_go (side : Int) (n M N : Nat) (bb bo wb wo sb so : Nat) (sd : Int) (dt gr dr : Nat) (lim : Int) (rv : Bool) (pr : Option Addr) (lr cr : Nat) (lb cb : Nat) (B : Nat → Nat) (lw cw : Nat) (Wt : Nat → Int) (pt : Option Addr) (lt ct : Nat) (ls cs : Nat) (Sp : Nat → Nat) (sky st : Int) (Tr : Nat → Int) (k : Nat) (lc rc sl sr : Nat) (al : Int) (u0 : Nat) (op : Bool) (w : World) (hk : k < N) (hl : lc < M) (hr : rc < M) (hlr : lc ≠ rc) (hN : N ≤ 65536) (hM : M ≤ 65536) (hu : u0 < 18446744073709551616)
    (hls : ls = N) (hlb : lb = M) (hlw : lw = M) (hlt : lt = M)
    (LV : Hid (∀ v, Ab w v → Calls Tryd.prog 9 #[] v fun e w' => e = .returned (.bool true) ∧ Below v.heap.size v w'))
    (NT : Hid (∀ v, Ab w v → Calls Tryd.prog 10 #[.int .i64 side, .agg #[.slice (some ⟨bb, bo, none⟩) lb cb, .slice (some ⟨wb, wo, none⟩) lw cw, .slice pt lt ct, .slice (some ⟨sb, so, none⟩) ls cs, .int .i64 sky, .int .i64 st]] v fun e w' => Below v.heap.size v w' ∧ ((∃ gb, e = .returned (.pointer (some ⟨gb, 0, none⟩)) ∧ GridOf n gb w') ∨ e = .returned (.pointer none))))
    (EG : Hid (∀ gb v, Ab w v → GridOf n gb v → Calls Tryd.prog 14 #[.pointer (some ⟨gb, 0, none⟩), .int .i64 (k : Nat)] v fun x w' => x = .returned (.tuple #[.agg #[.int .i64 (lc : Nat), .int .i64 (sl : Nat), .int .i64 (rc : Nat), .int .i64 (sr : Nat)], .bool true]) ∧ Below v.heap.size v w'))
    (GL : Hid (∀ gb v, Ab w v → GridOf n gb v → Calls Tryd.prog 17 #[.pointer (some ⟨gb, 0, none⟩), .int .i64 (lc : Nat)] v fun x w' => x = .returned (.int .i64 al) ∧ Below v.heap.size v w'))
    (GR : Hid (∀ gb v, Ab w v → GridOf n gb v → Calls Tryd.prog 17 #[.pointer (some ⟨gb, 0, none⟩), .int .i64 (rc : Nat)] v fun x w' => x = .returned (.int .i64 al) ∧ Below v.heap.size v w'))
    (CP : Hid (∀ v, Ab w v → Calls Tryd.prog 19 #[.agg #[.slice (some ⟨bb, bo, none⟩) lb cb, .slice (some ⟨wb, wo, none⟩) lw cw, .slice pt lt ct, .slice (some ⟨sb, so, none⟩) ls cs, .int .i64 sky, .int .i64 st]] v fun e w' => ∃ tb tw tt ts, e = .returned (.agg #[.slice (some ⟨tb, 0, none⟩) lb (lb + 9), .slice (some ⟨tw, 0, none⟩) lw (lw + 9), .slice (some ⟨tt, 0, none⟩) lt (lt + 9), .slice (some ⟨ts, 0, none⟩) ls (ls + 9), .int .i64 sky, .int .i64 st]) ∧ Below v.heap.size v w' ∧ w'.rowIs tb 22 (lb + 9) (mkF lb (fun k => .float .f64 (B k)) (.float .f64 4635118810238550016) (.float .f64 0)) ∧ w'.rowIs tw 2 (lw + 9) (mkF lw (fun k => .int .i64 (Wt k)) (.int .i64 77) (.int .i64 0)) ∧ w'.rowIs tt 2 (lt + 9) (mkF lt (fun k => .int .i64 (Tr k)) (.int .i64 77) (.int .i64 0)) ∧ w'.rowIs ts 22 (ls + 9) (mkF ls (fun k => .float .f64 (Sp k)) (.float .f64 4635118810238550016) (.float .f64 0)) ∧ (v.heap.size ≤ tb ∧ v.heap.size ≤ tw ∧ v.heap.size ≤ tt ∧ v.heap.size ≤ ts ∧ tb ≠ tw ∧ tb ≠ tt ∧ tb ≠ ts ∧ tw ≠ tt ∧ tw ≠ ts ∧ tt ≠ ts)))
    (SPS : Hid (∀ gb v, Ab w v → GridOf n gb v → Calls Tryd.prog 18 #[.pointer (some ⟨gb, 0, none⟩), .agg #[.int .i64 sd, .float .f64 dt, .float .f64 gr, .float .f64 dr, .int .i64 lim, .bool rv, .slice pr lr cr], .agg #[.slice (some ⟨bb, bo, none⟩) lb cb, .slice (some ⟨wb, wo, none⟩) lw cw, .slice pt lt ct, .slice (some ⟨sb, so, none⟩) ls cs, .int .i64 sky, .int .i64 st], .int .i64 (k : Nat)] v fun x w' => x = .returned (.float .f64 u0) ∧ Below v.heap.size v w'))
    (OPS : Hid (∀ gb v, Ab w v → GridOf n gb v → Calls Tryd.prog 15 #[.pointer (some ⟨gb, 0, none⟩), .agg #[.slice (some ⟨bb, bo, none⟩) lb cb, .slice (some ⟨wb, wo, none⟩) lw cw, .slice pt lt ct, .slice (some ⟨sb, so, none⟩) ls cs, .int .i64 sky, .int .i64 st], .int .i64 (k : Nat)] v fun x w' => x = .returned (.bool op) ∧ Below v.heap.size v w'))
    (SPT : Hid (∀ gb tb tw tt ts v, Ab w v → GridOf n gb v → IsFl v (some ⟨tb, 0, none⟩) lb (fun c => if c = rc then B lc else if c = lc then B rc else B c) → IsIn v (some ⟨tw, 0, none⟩) lw (fun c => if c = rc then Wt lc else if c = lc then Wt rc else Wt c) → IsFl v (some ⟨ts, 0, none⟩) ls (fun i => if i = k then negB (Sp k) else Sp i) → Calls Tryd.prog 18 #[.pointer (some ⟨gb, 0, none⟩), .agg #[.int .i64 sd, .float .f64 dt, .float .f64 gr, .float .f64 dr, .int .i64 lim, .bool rv, .slice pr lr cr], .agg #[.slice (some ⟨tb, 0, none⟩) lb (lb + 9), .slice (some ⟨tw, 0, none⟩) lw (lw + 9), .slice (some ⟨tt, 0, none⟩) lt (lt + 9), .slice (some ⟨ts, 0, none⟩) ls (ls + 9), .int .i64 sky, .int .i64 st], .int .i64 (k : Nat)] v fun x w' => x = .returned (.float .f64 (canonB (negB u0))) ∧ Below v.heap.size v w'))
    (OPT : Hid (∀ gb tb tw tt ts v, Ab w v → GridOf n gb v → IsFl v (some ⟨tb, 0, none⟩) lb (fun c => if c = rc then B lc else if c = lc then B rc else B c) → IsIn v (some ⟨tw, 0, none⟩) lw (fun c => if c = rc then Wt lc else if c = lc then Wt rc else Wt c) → IsFl v (some ⟨ts, 0, none⟩) ls (fun i => if i = k then negB (Sp k) else Sp i) → Calls Tryd.prog 15 #[.pointer (some ⟨gb, 0, none⟩), .agg #[.slice (some ⟨tb, 0, none⟩) lb (lb + 9), .slice (some ⟨tw, 0, none⟩) lw (lw + 9), .slice (some ⟨tt, 0, none⟩) lt (lt + 9), .slice (some ⟨ts, 0, none⟩) ls (ls + 9), .int .i64 sky, .int .i64 st], .int .i64 (k : Nat)] v fun x w' => x = .returned (.bool op) ∧ Below v.heap.size v w'))
    (IB : Hid (IsFl w (some ⟨bb, bo, none⟩) lb B)) (IW : Hid (IsIn w (some ⟨wb, wo, none⟩) lw Wt)) (IS : Hid (IsFl w (some ⟨sb, so, none⟩) ls Sp)) :
    Calls Tryd.prog 5 #[.int .i64 side, .agg #[.int .i64 sd, .float .f64 dt, .float .f64 gr, .float .f64 dr, .int .i64 lim, .bool rv, .slice pr lr cr], .agg #[.slice (some ⟨bb, bo, none⟩) lb cb, .slice (some ⟨wb, wo, none⟩) lw cw, .slice pt lt ct, .slice (some ⟨sb, so, none⟩) ls cs, .int .i64 sky, .int .i64 st], .int .i64 (k : Nat)] w fun x w' => x = .returned (.bool true) ∧ Below w.heap.size w w' := by
  have nk := negFloat_eq (Sp k) (IS.out.at0 (by rw [hls]; exact hk)).1
  have nu := negFloat_eq u0 hu
  subst hls hlw
  have EQ := hid (And.intro hlb hlt)
  have lB : lc < lb := by omega
  have rB : rc < lb := by omega
  have lI2 : (lc : Int) < lb := by omega
  have rI2 : (rc : Int) < lb := by omega
  clear hlb hlt
  have A0 : Hid (Ab w ((w.alloc (.cells #[.int .i64 sd, .float .f64 dt, .float .f64 gr, .float .f64 dr, .int .i64 lim, .bool rv, .slice pr lr cr] 25)).alloc (.cells #[.slice (some ⟨bb, bo, none⟩) lb cb, .slice (some ⟨wb, wo, none⟩) lw cw, .slice pt lt ct, .slice (some ⟨sb, so, none⟩) ls cs, .int .i64 sky, .int .i64 st] 29))) := bl2 _ _ _
  have P0 : Hid (((w.alloc (.cells #[.int .i64 sd, .float .f64 dt, .float .f64 gr, .float .f64 dr, .int .i64 lim, .bool rv, .slice pr lr cr] 25)).alloc (.cells #[.slice (some ⟨bb, bo, none⟩) lb cb, .slice (some ⟨wb, wo, none⟩) lw cw, .slice pt lt ct, .slice (some ⟨sb, so, none⟩) ls cs, .int .i64 sky, .int .i64 st] 29)).heap[w.heap.size]? = some (.cells #[.int .i64 sd, .float .f64 dt, .float .f64 gr, .float .f64 dr, .int .i64 lim, .bool rv, .slice pr lr cr] 25)) := heap_alloc2_old _ _ _
  have S0 : Hid (((w.alloc (.cells #[.int .i64 sd, .float .f64 dt, .float .f64 gr, .float .f64 dr, .int .i64 lim, .bool rv, .slice pr lr cr] 25)).alloc (.cells #[.slice (some ⟨bb, bo, none⟩) lb cb, .slice (some ⟨wb, wo, none⟩) lw cw, .slice pt lt ct, .slice (some ⟨sb, so, none⟩) ls cs, .int .i64 sky, .int .i64 st] 29)).heap[w.heap.size + 1]? = some (.cells #[.slice (some ⟨bb, bo, none⟩) lb cb, .slice (some ⟨wb, wo, none⟩) lw cw, .slice pt lt ct, .slice (some ⟨sb, so, none⟩) ls cs, .int .i64 sky, .int .i64 st] 29)) := heap_alloc2_new _ _ _
  go_enter Tryd.func5, Tryd.ntmps5
  go_upto_region 1 with fail
  obtain ⟨gp, hgp⟩ : ∃ g, w.heap.size = g := ⟨_, rfl⟩
  obtain ⟨gs, hgs⟩ : ∃ g, w.heap.size + 1 = g := ⟨_, rfl⟩
  generalize hW : World.alloc (World.alloc w _) _ = W at *
  rw [hgs] at S0 ⊢
  rw [hgp] at P0 ⊢
  clear hgp hgs hW
  go_wp2_with fail
  refine (LV.out _ A0.out).mono ?_
  rintro e9 v1 ⟨rfl, k1⟩
  have A1 : Hid (Ab w v1) := A0.out.call k1
  have P1 := hid (Ab.heap k1 P0.out)
  have S1 := hid (Ab.heap k1 S0.out)
  clear k1 A0 P0 S0
  have c0 := cell_of_row _ _ 0 _ _ _ S1.out
  have c1 := cell_of_row _ _ 1 _ _ _ S1.out
  have c2 := cell_of_row _ _ 2 _ _ _ S1.out
  have c3 := cell_of_row _ _ 3 _ _ _ S1.out
  have c4 := cell_of_row _ _ 4 _ _ _ S1.out
  have c5 := cell_of_row _ _ 5 _ _ _ S1.out
  go_wp2_with fail
  refine (NT.out _ A1.out).mono ?_
  rintro e9 v2 ⟨k1, ⟨gb, rfl, g1⟩ | rfl⟩
  · have A2 : Hid (Ab w v2) := A1.out.call k1
    have P2 := hid (Ab.heap k1 P1.out)
    have S2 := hid (Ab.heap k1 S1.out)
    have G2 := hid g1
    clear k1 g1 A1 P1 S1 c0 c1 c2 c3 c4 c5 LV NT
    go_wp2_with fail
    refine (EG.out gb _ A2.out G2.out).mono ?_
    rintro e9 v3 ⟨rfl, k3⟩
    have A3 : Hid (Ab v2 v3) := k3
    clear k3 EG
    go_upto_region 7 with fail
    obtain ⟨ge, hge⟩ : ∃ g, v3.heap.size = g := ⟨_, rfl⟩
    have E4 := hid (heap_alloc_new v3 (.cells #[.int .i64 (lc : Nat), .int .i64 (sl : Nat), .int .i64 (rc : Nat), .int .i64 (sr : Nat)] 39))
    have A4 : Hid (Ab v2 (v3.alloc (.cells #[.int .i64 (lc : Nat), .int .i64 (sl : Nat), .int .i64 (rc : Nat), .int .i64 (sr : Nat)] 39))) := A3.out.trans (bl1 _ _)
    generalize hV : v3.alloc (.cells #[.int .i64 (lc : Nat), .int .i64 (sl : Nat), .int .i64 (rc : Nat), .int .i64 (sr : Nat)] 39) = v4 at *
    rw [hge] at E4 ⊢
    clear hV hge A3
    have S4 := hid (Ab.heap A4.out S2.out)
    have P4 := hid (Ab.heap A4.out P2.out)
    have G4 := hid (G2.out.to A4.out)
    have W4 : Hid (Ab w v4) := A2.out.trans A4.out
    clear A2 S2 P2 G2 A4
    obtain ⟨UU, E, hF1, hF2⟩ := cls v4
    have HU := hid hF2
    have HU1 := hid hF1
    have s0 : ∀ u, (E u).cell? ⟨ge, 0, none⟩ = some (.int .i64 (lc : Nat)) := fun u => cell_of_row _ _ 0 _ _ _ ((hF1 u).heap E4.out)
    have s2 : ∀ u, (E u).cell? ⟨ge, 2, none⟩ = some (.int .i64 (rc : Nat)) := fun u => cell_of_row _ _ 2 _ _ _ ((hF1 u).heap E4.out)
    have HX : Hid (∀ u, Ab w (E u)) := fun u => W4.out.trans (hF1 u)
    have HG : Hid (∀ u, GridOf n gb (E u)) := fun u => G4.out.to (hF1 u)
    have DD0 := HU.out _ (Ab.refl v4).drew
    clear hF1 hF2
    refine region_cls E (by kernel_rfl) (by kernel_rfl) DD0 ?_
    repeat (go_big_quiet_step (first
      | (with_reducible rfl)
      | (go_at_call_of 17 lc; exact calls_cls HU HU1 (GL.out gb _ (HX.out _) (HG.out _)))
      | (go_at_call_of 17 rc; exact calls_cls HU HU1 (GR.out gb _ (HX.out _) (HG.out _)))))
    refine wpQuiet_nil ?_
    intro v5 hwz
    obtain ⟨u0, hu⟩ := hwz
    have AZ : Hid (Ab v4 v5) := by rw [hu]; exact HU1.out u0
    clear hu u0
    clear HU HU1 HX HG DD0 s0 s2
    clear E UU
    have S5 := hid (Ab.heap AZ.out S4.out)
    have P5 := hid (Ab.heap AZ.out P4.out)
    have E5 := hid (Ab.heap AZ.out E4.out)
    have G5 := hid (G4.out.to AZ.out)
    have W5 : Hid (Ab w v5) := W4.out.trans AZ.out
    clear AZ S4 P4 E4 G4 W4
    have NL := hid hlr
    have LW := hid hl
    have RW := hid hr
    have LB := hid lB
    have RB := hid rB
    have HK := hid hk
    have lI : (lc : Int) < lw := by omega
    have rI : (rc : Int) < lw := by omega
    have kI : (k : Int) < ls := by omega
    clear hlr hl hr lB rB hk hN hM
    have c0 := cell_of_row _ _ 0 _ _ _ S5.out
    have c1 := cell_of_row _ _ 1 _ _ _ S5.out
    have c2 := cell_of_row _ _ 2 _ _ _ S5.out
    have c3 := cell_of_row _ _ 3 _ _ _ S5.out
    have c4 := cell_of_row _ _ 4 _ _ _ S5.out
    have c5 := cell_of_row _ _ 5 _ _ _ S5.out
    go_wp2_with fail
    refine (CP.out _ W5.out).mono ?_
    rintro e9 v6 ⟨tb, tw, tt, ts, rfl, k6, r1, r2, r3, r4, nb⟩
    clear CP c0 c1 c2 c3 c4 c5
    go_upto_region 10 with fail
    have hge6 : tb < v6.heap.size ∧ tw < v6.heap.size ∧ tt < v6.heap.size ∧ ts < v6.heap.size := ⟨r1.lt, r2.lt, r3.lt, r4.lt⟩
    obtain ⟨gt, hgt⟩ : ∃ g, v6.heap.size = g := ⟨_, rfl⟩
    rw [EQ.out.1] at r1
    rw [EQ.out.2] at r3
    have X_a0 : Hid (CpX v5 gt tb tw tt ts lw ls #[.slice (some ⟨tb, 0, none⟩) lb (lb + 9), .slice (some ⟨tw, 0, none⟩) lw (lw + 9), .slice (some ⟨tt, 0, none⟩) lt (lt + 9), .slice (some ⟨ts, 0, none⟩) ls (ls + 9), .int .i64 sky, .int .i64 st] 29 (.float .f64 4635118810238550016) (.int .i64 77) (.float .f64 0) (.int .i64 0) (fun k => .float .f64 (B k)) (fun k => .int .i64 (Wt k)) (fun k => .int .i64 (Tr k)) (fun k => .float .f64 (Sp k)) (v6.alloc (.cells #[.slice (some ⟨tb, 0, none⟩) lb (lb + 9), .slice (some ⟨tw, 0, none⟩) lw (lw + 9), .slice (some ⟨tt, 0, none⟩) lt (lt + 9), .slice (some ⟨ts, 0, none⟩) ls (ls + 9), .int .i64 sky, .int .i64 st] 29))) := ⟨Ab.trans k6 (bl1 _ _), by rw [← hgt]; exact heap_alloc_new _ _, r1.alloc _, r2.alloc _, r3.alloc _, r4.alloc _⟩
    have UN : Hid (Unl v5 gt tb tw tt ts) := by
      obtain ⟨n1, n2, n3, n4, n5, n6, n7, n8, n9, n10⟩ := nb
      exact ⟨⟨n1, n2, n3, n4⟩, ⟨by omega, by omega, by omega, by omega⟩, n5, n6, n7, n8, n9, n10⟩
    clear r1 r2 r3 r4 nb k6 hge6
    generalize v6.alloc (.cells #[.slice (some ⟨tb, 0, none⟩) lb (lb + 9), .slice (some ⟨tw, 0, none⟩) lw (lw + 9), .slice (some ⟨tt, 0, none⟩) lt (lt + 9), .slice (some ⟨ts, 0, none⟩) ls (ls + 9), .int .i64 sky, .int .i64 st] 29) = a0 at *
    rw [hgt]
    clear hgt
    obtain ⟨UU, E, hF1, hF2⟩ := cls a0
    have HU := hid hF2
    have HU1 := hid hF1
    have q0 : ∀ u, (E u).cell? ⟨gt, 0, none⟩ = some (.slice (some ⟨tb, 0, none⟩) lb (lb + 9)) := fun u => cell_of_row _ _ 0 _ _ _ ((hF1 u).heap X_a0.out.2.1)
    have q1 : ∀ u, (E u).cell? ⟨ge, 0, none⟩ = some (.int .i64 (lc : Nat)) := fun u => cell_of_row _ _ 0 _ _ _ ((X_a0.out.1.trans (hF1 u)).heap E5.out)
    have q2 : ∀ u, (E u).cell? ⟨gs, 0, none⟩ = some (.slice (some ⟨bb, bo, none⟩) lb cb) := fun u => cell_of_row _ _ 0 _ _ _ ((X_a0.out.1.trans (hF1 u)).heap S5.out)
    have q3 : ∀ u, (E u).cell? ⟨ge, 2, none⟩ = some (.int .i64 (rc : Nat)) := fun u => cell_of_row _ _ 2 _ _ _ ((X_a0.out.1.trans (hF1 u)).heap E5.out)
    have q4 : ∀ u, (E u).cell? ⟨bb, bo + rc, none⟩ = some (.float .f64 (B rc)) := fun u => ((IB.out.below (W5.out.trans (X_a0.out.1.trans (hF1 u)))).at0 RB.out).2.2
    have DD0 := HU.out _ (Ab.refl a0).drew
    clear hF1 hF2
    refine region_tail 11 E (by kernel_rfl) (by kernel_rfl) (by kernel_rfl) DD0 ?_
    simp only [List.take_succ_cons, List.take_zero, List.drop_succ_cons, List.drop_zero]
    repeat (go_big_quiet_step (first
      | (with_reducible rfl)))
    refine wpQuiet_nil ?_
    intro vz hwz
    obtain ⟨u0, hu⟩ := hwz
    have AZ : Hid (Ab a0 vz) := by rw [hu]; exact HU1.out u0
    clear hu u0
    clear HU HU1 DD0 q0 q1 q2 q3 q4
    clear E UU
    have XZ := hid (X_a0.out.to AZ.out)
    have f0 := XZ.out.2.2.1.cell (i := lc) (by have := LW.out; omega)
    have z0 := XZ.out.2.2.1.frozen lc
    clear X_a0 AZ
    go_upto_region 11 with fail
    have X_a1 := hid (XZ.out.setB UN.out lc (.float .f64 (B rc)) LW.out)
    clear f0 z0 XZ
    generalize World.setCell vz _ _ = a1 at *
    obtain ⟨UU, E, hF1, hF2⟩ := cls a1
    have HU := hid hF2
    have HU1 := hid hF1
    have q0 : ∀ u, (E u).cell? ⟨gt, 0, none⟩ = some (.slice (some ⟨tb, 0, none⟩) lb (lb + 9)) := fun u => cell_of_row _ _ 0 _ _ _ ((hF1 u).heap X_a1.out.2.1)
    have q1 : ∀ u, (E u).cell? ⟨ge, 2, none⟩ = some (.int .i64 (rc : Nat)) := fun u => cell_of_row _ _ 2 _ _ _ ((X_a1.out.1.trans (hF1 u)).heap E5.out)
    have q2 : ∀ u, (E u).cell? ⟨gs, 0, none⟩ = some (.slice (some ⟨bb, bo, none⟩) lb cb) := fun u => cell_of_row _ _ 0 _ _ _ ((X_a1.out.1.trans (hF1 u)).heap S5.out)
    have q3 : ∀ u, (E u).cell? ⟨ge, 0, none⟩ = some (.int .i64 (lc : Nat)) := fun u => cell_of_row _ _ 0 _ _ _ ((X_a1.out.1.trans (hF1 u)).heap E5.out)
    have q4 : ∀ u, (E u).cell? ⟨bb, bo + lc, none⟩ = some (.float .f64 (B lc)) := fun u => ((IB.out.below (W5.out.trans (X_a1.out.1.trans (hF1 u)))).at0 LB.out).2.2
    have DD0 := HU.out _ (Ab.refl a1).drew
    clear hF1 hF2
    refine region_tail 11 E (by kernel_rfl) (by kernel_rfl) (by kernel_rfl) DD0 ?_
    simp only [List.take_succ_cons, List.take_zero, List.drop_succ_cons, List.drop_zero]
    repeat (go_big_quiet_step (first
      | (with_reducible rfl)))
    refine wpQuiet_nil ?_
    intro vz hwz
    obtain ⟨u0, hu⟩ := hwz
    have AZ : Hid (Ab a1 vz) := by rw [hu]; exact HU1.out u0
    clear hu u0
    clear HU HU1 DD0 q0 q1 q2 q3 q4
    clear E UU
    have XZ := hid (X_a1.out.to AZ.out)
    have f0 := XZ.out.2.2.1.cell (i := rc) (by have := RW.out; omega)
    have z0 := XZ.out.2.2.1.frozen rc
    clear X_a1 AZ
    go_upto_region 12 with fail
    have X_a2 := hid (XZ.out.setB UN.out rc (.float .f64 (B lc)) RW.out)
    clear f0 z0 XZ
    generalize World.setCell vz _ _ = a2 at *
    obtain ⟨UU, E, hF1, hF2⟩ := cls a2
    have HU := hid hF2
    have HU1 := hid hF1
    have q0 : ∀ u, (E u).cell? ⟨gt, 1, none⟩ = some (.slice (some ⟨tw, 0, none⟩) lw (lw + 9)) := fun u => cell_of_row _ _ 1 _ _ _ ((hF1 u).heap X_a2.out.2.1)
    have q1 : ∀ u, (E u).cell? ⟨ge, 0, none⟩ = some (.int .i64 (lc : Nat)) := fun u => cell_of_row _ _ 0 _ _ _ ((X_a2.out.1.trans (hF1 u)).heap E5.out)
    have q2 : ∀ u, (E u).cell? ⟨gs, 1, none⟩ = some (.slice (some ⟨wb, wo, none⟩) lw cw) := fun u => cell_of_row _ _ 1 _ _ _ ((X_a2.out.1.trans (hF1 u)).heap S5.out)
    have q3 : ∀ u, (E u).cell? ⟨ge, 2, none⟩ = some (.int .i64 (rc : Nat)) := fun u => cell_of_row _ _ 2 _ _ _ ((X_a2.out.1.trans (hF1 u)).heap E5.out)
    have q4 : ∀ u, (E u).cell? ⟨wb, wo + rc, none⟩ = some (.int .i64 (Wt rc)) := fun u => ((IW.out.below (W5.out.trans (X_a2.out.1.trans (hF1 u)))).at0 RW.out).2.2
    have DD0 := HU.out _ (Ab.refl a2).drew
    clear hF1 hF2
    refine region_tail 11 E (by kernel_rfl) (by kernel_rfl) (by kernel_rfl) DD0 ?_
    simp only [List.take_succ_cons, List.take_zero, List.drop_succ_cons, List.drop_zero]
    repeat (go_big_quiet_step (first
      | (with_reducible rfl)))
    refine wpQuiet_nil ?_
    intro vz hwz
    obtain ⟨u0, hu⟩ := hwz
    have AZ : Hid (Ab a2 vz) := by rw [hu]; exact HU1.out u0
    clear hu u0
    clear HU HU1 DD0 q0 q1 q2 q3 q4
    clear E UU
    have XZ := hid (X_a2.out.to AZ.out)
    have f0 := XZ.out.2.2.2.1.cell (i := lc) (by have := LW.out; omega)
    have z0 := XZ.out.2.2.2.1.frozen lc
    clear X_a2 AZ
    go_upto_region 13 with fail
    have X_a3 := hid (XZ.out.setW UN.out lc (.int .i64 (Wt rc)) LW.out)
    clear f0 z0 XZ
    generalize World.setCell vz _ _ = a3 at *
    obtain ⟨UU, E, hF1, hF2⟩ := cls a3
    have HU := hid hF2
    have HU1 := hid hF1
    have q0 : ∀ u, (E u).cell? ⟨gt, 1, none⟩ = some (.slice (some ⟨tw, 0, none⟩) lw (lw + 9)) := fun u => cell_of_row _ _ 1 _ _ _ ((hF1 u).heap X_a3.out.2.1)
    have q1 : ∀ u, (E u).cell? ⟨ge, 2, none⟩ = some (.int .i64 (rc : Nat)) := fun u => cell_of_row _ _ 2 _ _ _ ((X_a3.out.1.trans (hF1 u)).heap E5.out)
    have q2 : ∀ u, (E u).cell? ⟨gs, 1, none⟩ = some (.slice (some ⟨wb, wo, none⟩) lw cw) := fun u => cell_of_row _ _ 1 _ _ _ ((X_a3.out.1.trans (hF1 u)).heap S5.out)
    have q3 : ∀ u, (E u).cell? ⟨ge, 0, none⟩ = some (.int .i64 (lc : Nat)) := fun u => cell_of_row _ _ 0 _ _ _ ((X_a3.out.1.trans (hF1 u)).heap E5.out)
    have q4 : ∀ u, (E u).cell? ⟨wb, wo + lc, none⟩ = some (.int .i64 (Wt lc)) := fun u => ((IW.out.below (W5.out.trans (X_a3.out.1.trans (hF1 u)))).at0 LW.out).2.2
    have DD0 := HU.out _ (Ab.refl a3).drew
    clear hF1 hF2
    refine region_tail 11 E (by kernel_rfl) (by kernel_rfl) (by kernel_rfl) DD0 ?_
    simp only [List.take_succ_cons, List.take_zero, List.drop_succ_cons, List.drop_zero]
    repeat (go_big_quiet_step (first
      | (with_reducible rfl)))
    refine wpQuiet_nil ?_
    intro vz hwz
    obtain ⟨u0, hu⟩ := hwz
    have AZ : Hid (Ab a3 vz) := by rw [hu]; exact HU1.out u0
    clear hu u0
    clear HU HU1 DD0 q0 q1 q2 q3 q4
    clear E UU
    have XZ := hid (X_a3.out.to AZ.out)
    have f0 := XZ.out.2.2.2.1.cell (i := rc) (by have := RW.out; omega)
    have z0 := XZ.out.2.2.2.1.frozen rc
    clear X_a3 AZ
    go_upto_region 14 with fail
    have X_a4 := hid (XZ.out.setW UN.out rc (.int .i64 (Wt lc)) RW.out)
    clear f0 z0 XZ
    generalize World.setCell vz _ _ = a4 at *
    obtain ⟨UU, E, hF1, hF2⟩ := cls a4
    have HU := hid hF2
    have HU1 := hid hF1
    have q0 : ∀ u, (E u).cell? ⟨gt, 3, none⟩ = some (.slice (some ⟨ts, 0, none⟩) ls (ls + 9)) := fun u => cell_of_row _ _ 3 _ _ _ ((hF1 u).heap X_a4.out.2.1)
    have q1 : ∀ u, (E u).cell? ⟨gs, 3, none⟩ = some (.slice (some ⟨sb, so, none⟩) ls cs) := fun u => cell_of_row _ _ 3 _ _ _ ((X_a4.out.1.trans (hF1 u)).heap S5.out)
    have q2 : ∀ u, (E u).cell? ⟨sb, so + k, none⟩ = some (.float .f64 (Sp k)) := fun u => ((IS.out.below (W5.out.trans (X_a4.out.1.trans (hF1 u)))).at0 HK.out).2.2
    have DD0 := HU.out _ (Ab.refl a4).drew
    clear hF1 hF2
    refine region_tail 10 E (by kernel_rfl) (by kernel_rfl) (by kernel_rfl) DD0 ?_
    simp only [List.take_succ_cons, List.take_zero, List.drop_succ_cons, List.drop_zero]
    repeat (go_big_quiet_step (first
      | (with_reducible rfl)))
    refine wpQuiet_nil ?_
    intro vz hwz
    obtain ⟨u0, hu⟩ := hwz
    have AZ : Hid (Ab a4 vz) := by rw [hu]; exact HU1.out u0
    clear hu u0
    clear HU HU1 DD0 q0 q1 q2
    clear E UU
    have XZ := hid (X_a4.out.to AZ.out)
    have f0 := XZ.out.2.2.2.2.2.cell (i := k) (by have := HK.out; omega)
    have z0 := XZ.out.2.2.2.2.2.frozen k
    clear X_a4 AZ
    go_upto_region 15 with fail
    have X_a5 := hid (XZ.out.setS UN.out k (.float .f64 (negB (Sp k))) HK.out)
    clear f0 z0 XZ
    generalize World.setCell vz _ _ = a5 at *
    have X6 : Hid (CpX v5 gt tb tw tt ts lw ls #[.slice (some ⟨tb, 0, none⟩) lb (lb + 9), .slice (some ⟨tw, 0, none⟩) lw (lw + 9), .slice (some ⟨tt, 0, none⟩) lt (lt + 9), .slice (some ⟨ts, 0, none⟩) ls (ls + 9), .int .i64 sky, .int .i64 st] 29 (.float .f64 4635118810238550016) (.int .i64 77) (.float .f64 0) (.int .i64 0) (fun c => .float .f64 (if c = rc then B lc else if c = lc then B rc else B c)) (fun c => .int .i64 (if c = rc then Wt lc else if c = lc then Wt rc else Wt c)) (fun k => .int .i64 (Tr k)) (fun i => .float .f64 (if i = k then negB (Sp k) else Sp i)) a5) := X_a5.out.congr (fun c _ => by by_cases h1 : c = rc <;> by_cases h2 : c = lc <;> simp [h1, h2, NL.out]) (fun c _ => by by_cases h1 : c = rc <;> by_cases h2 : c = lc <;> simp [h1, h2, NL.out]) (fun c _ => rfl) (fun c _ => by by_cases h1 : c = k <;> simp [h1])
    clear X_a5
    have BL : Hid (∀ c, c < lb → (if c = rc then B lc else if c = lc then B rc else B c) < 18446744073709551616) := fun c hc => by
      split
      · exact (IB.out.at0 LB.out).1
      · split
        · exact (IB.out.at0 RB.out).1
        · exact (IB.out.at0 hc).1
    have WL : Hid (∀ c, c < lw → -9223372036854775808 ≤ (if c = rc then Wt lc else if c = lc then Wt rc else Wt c) ∧ (if c = rc then Wt lc else if c = lc then Wt rc else Wt c) ≤ 9223372036854775807) := fun c hc => by
      split
      · exact (IW.out lc LW.out).1
      · split
        · exact (IW.out rc RW.out).1
        · exact (IW.out c hc).1
    have SL : Hid (∀ c, c < ls → (if c = k then negB (Sp k) else Sp c) < 18446744073709551616) := fun c hc => by
      split
      · exact negB_lt' (IS.out.at0 HK.out).1
      · exact (IS.out.at0 hc).1
    have TB : Hid (∀ v, Ab a5 v → IsFl v (some ⟨tb, 0, none⟩) lb (fun c => if c = rc then B lc else if c = lc then B rc else B c)) := fun v hv => by
      have h := (X6.out.to hv).2.2.1
      rw [EQ.out.1]
      exact mk_fl h (fun c hc => BL.out c (by rw [EQ.out.1]; exact hc))
    have TW : Hid (∀ v, Ab a5 v → IsIn v (some ⟨tw, 0, none⟩) lw (fun c => if c = rc then Wt lc else if c = lc then Wt rc else Wt c)) := fun v hv => mk_in (X6.out.to hv).2.2.2.1 WL.out
    have TS : Hid (∀ v, Ab a5 v → IsFl v (some ⟨ts, 0, none⟩) ls (fun i => if i = k then negB (Sp k) else Sp i)) := fun v hv => mk_fl (X6.out.to hv).2.2.2.2.2 SL.out
    have W6 : Hid (Ab w a5) := W5.out.trans X6.out.1
    have G6 := hid (G5.out.to X6.out.1)
    have S6 := hid (Ab.heap X6.out.1 S5.out)
    have P6 := hid (Ab.heap X6.out.1 P5.out)
    have T6 := hid X6.out.2.1
    clear BL WL SL X6 S5 P5 G5 E5
    have c0 := cell_of_row _ _ 0 _ _ _ S6.out
    have c1 := cell_of_row _ _ 1 _ _ _ S6.out
    have c2 := cell_of_row _ _ 2 _ _ _ S6.out
    have c3 := cell_of_row _ _ 3 _ _ _ S6.out
    have c4 := cell_of_row _ _ 4 _ _ _ S6.out
    have c5 := cell_of_row _ _ 5 _ _ _ S6.out
    have p0 := cell_of_row _ _ 0 _ _ _ P6.out
    have p1 := cell_of_row _ _ 1 _ _ _ P6.out
    have p2 := cell_of_row _ _ 2 _ _ _ P6.out
    have p3 := cell_of_row _ _ 3 _ _ _ P6.out
    have p4 := cell_of_row _ _ 4 _ _ _ P6.out
    have p5 := cell_of_row _ _ 5 _ _ _ P6.out
    have p6 := cell_of_row _ _ 6 _ _ _ P6.out
    go_wp2_with fail
    refine (SPS.out gb _ W6.out G6.out).mono ?_
    rintro e9 b1 ⟨rfl, k1⟩
    have B1 : Hid (Ab a5 b1) := k1
    have T7 := hid (Ab.heap k1 T6.out)
    have P7 := hid (Ab.heap k1 P6.out)
    clear k1 c0 c1 c2 c3 c4 c5 p0 p1 p2 p3 p4 p5 p6
    have c0 := cell_of_row _ _ 0 _ _ _ T7.out
    have c1 := cell_of_row _ _ 1 _ _ _ T7.out
    have c2 := cell_of_row _ _ 2 _ _ _ T7.out
    have c3 := cell_of_row _ _ 3 _ _ _ T7.out
    have c4 := cell_of_row _ _ 4 _ _ _ T7.out
    have c5 := cell_of_row _ _ 5 _ _ _ T7.out
    have p0 := cell_of_row _ _ 0 _ _ _ P7.out
    have p1 := cell_of_row _ _ 1 _ _ _ P7.out
    have p2 := cell_of_row _ _ 2 _ _ _ P7.out
    have p3 := cell_of_row _ _ 3 _ _ _ P7.out
    have p4 := cell_of_row _ _ 4 _ _ _ P7.out
    have p5 := cell_of_row _ _ 5 _ _ _ P7.out
    have p6 := cell_of_row _ _ 6 _ _ _ P7.out
    go_wp2_with fail
    refine (SPT.out gb tb tw tt ts _ (W6.out.trans B1.out) (G6.out.to B1.out) (TB.out _ B1.out) (TW.out _ B1.out) (TS.out _ B1.out)).mono ?_
    rintro e9 b2 ⟨rfl, k2⟩
    have B2 : Hid (Ab a5 b2) := B1.out.call k2
    clear k2 c0 c1 c2 c3 c4 c5 p0 p1 p2 p3 p4 p5 p6 T7 P7 B1
    go_wp2_with fail
    obtain ⟨UU, E, hF1, hF2⟩ := cls b2
    have HU := hid hF2
    have HU1 := hid hF1
    have HA : Hid (∀ u, Ab a5 (E u)) := fun u => B2.out.trans (hF1 u)
    have HX : Hid (∀ u, Ab w (E u)) := fun u => W6.out.trans (HA.out u)
    have HG : Hid (∀ u, GridOf n gb (E u)) := fun u => G6.out.to (HA.out u)
    have c0 : ∀ u, (E u).cell? ⟨gs, 0, none⟩ = some (.slice (some ⟨bb, bo, none⟩) lb cb) := fun u => cell_of_row _ _ 0 _ _ _ ((HA.out u).heap S6.out)
    have c1 : ∀ u, (E u).cell? ⟨gs, 1, none⟩ = some (.slice (some ⟨wb, wo, none⟩) lw cw) := fun u => cell_of_row _ _ 1 _ _ _ ((HA.out u).heap S6.out)
    have c2 : ∀ u, (E u).cell? ⟨gs, 2, none⟩ = some (.slice pt lt ct) := fun u => cell_of_row _ _ 2 _ _ _ ((HA.out u).heap S6.out)
    have c3 : ∀ u, (E u).cell? ⟨gs, 3, none⟩ = some (.slice (some ⟨sb, so, none⟩) ls cs) := fun u => cell_of_row _ _ 3 _ _ _ ((HA.out u).heap S6.out)
    have c4 : ∀ u, (E u).cell? ⟨gs, 4, none⟩ = some (.int .i64 sky) := fun u => cell_of_row _ _ 4 _ _ _ ((HA.out u).heap S6.out)
    have c5 : ∀ u, (E u).cell? ⟨gs, 5, none⟩ = some (.int .i64 st) := fun u => cell_of_row _ _ 5 _ _ _ ((HA.out u).heap S6.out)
    have d0 : ∀ u, (E u).cell? ⟨gt, 0, none⟩ = some (.slice (some ⟨tb, 0, none⟩) lb (lb + 9)) := fun u => cell_of_row _ _ 0 _ _ _ ((HA.out u).heap T6.out)
    have d1 : ∀ u, (E u).cell? ⟨gt, 1, none⟩ = some (.slice (some ⟨tw, 0, none⟩) lw (lw + 9)) := fun u => cell_of_row _ _ 1 _ _ _ ((HA.out u).heap T6.out)
    have d2 : ∀ u, (E u).cell? ⟨gt, 2, none⟩ = some (.slice (some ⟨tt, 0, none⟩) lt (lt + 9)) := fun u => cell_of_row _ _ 2 _ _ _ ((HA.out u).heap T6.out)
    have d3 : ∀ u, (E u).cell? ⟨gt, 3, none⟩ = some (.slice (some ⟨ts, 0, none⟩) ls (ls + 9)) := fun u => cell_of_row _ _ 3 _ _ _ ((HA.out u).heap T6.out)
    have d4 : ∀ u, (E u).cell? ⟨gt, 4, none⟩ = some (.int .i64 sky) := fun u => cell_of_row _ _ 4 _ _ _ ((HA.out u).heap T6.out)
    have d5 : ∀ u, (E u).cell? ⟨gt, 5, none⟩ = some (.int .i64 st) := fun u => cell_of_row _ _ 5 _ _ _ ((HA.out u).heap T6.out)
    have CN := hid (fun v => canon_b (negB u0) v (negB_lt' hu))
    have DD0 := HU.out _ (Ab.refl b2).drew
    clear hF1 hF2
    refine region_cls E (by kernel_rfl) (by kernel_rfl) DD0 ?_
    repeat (go_big_quiet_step (first
      | (with_reducible rfl)
      | (go_at_call 13; exact calls_cls HU HU1 (CN.out _))
      | (go_at_call 12; exact calls_cls HU HU1 (same16b _ _))
      | (go_at_call_of 15 tb; exact calls_cls HU HU1 (OPT.out gb tb tw tt ts _ (HX.out _) (HG.out _) (TB.out _ (HA.out _)) (TW.out _ (HA.out _)) (TS.out _ (HA.out _))))
      | (go_at_call 15; exact calls_cls HU HU1 (OPS.out gb _ (HX.out _) (HG.out _)))))
    refine wpQuiet_nil ?_
    intro z hwz
    obtain ⟨u9, hu9⟩ := hwz
    have AZ : Hid (Ab w z) := by rw [hu9]; exact HX.out u9
    clear hu9 u9
    clear HU HU1 HX HA HG DD0 c0 c1 c2 c3 c4 c5 d0 d1 d2 d3 d4 d5
    clear E UU
    go_wp2
    go_ret
    exact ⟨by simp, AZ.out⟩
  · have A2 : Hid (Ab w v2) := A1.out.call k1
    clear k1 A1 P1 S1 c0 c1 c2 c3 c4 c5 LV NT
    go_wp2
    go_ret
    exact ⟨rfl, A2.out⟩
set_option maxRecDepth 100000 in
set_option maxHeartbeats 8000000 in
theorem mirror16_nil (side : Int) (sd : Int) (dt gr dr : Nat) (lim : Int) (rv : Bool) (pr : Option Addr) (lr cr : Nat) (pb : Option Addr) (lb cb : Nat) (pw : Option Addr) (lw cw : Nat) (pt : Option Addr) (lt ct : Nat) (ps : Option Addr) (ls cs : Nat) (sky st : Int) (e : Int) (w : World)
    (LV : Hid (∀ v, Ab w v → Calls Tryd.prog 9 #[] v fun e w' => e = .returned (.bool true) ∧ Below v.heap.size v w'))
    (NT : Hid (∀ v, Ab w v → Calls Tryd.prog 10 #[.int .i64 side, .agg #[.slice pb lb cb, .slice pw lw cw, .slice pt lt ct, .slice ps ls cs, .int .i64 sky, .int .i64 st]] v fun e w' => e = .returned (.pointer none) ∧ Below v.heap.size v w')) :
    Calls Tryd.prog 5 #[.int .i64 side, .agg #[.int .i64 sd, .float .f64 dt, .float .f64 gr, .float .f64 dr, .int .i64 lim, .bool rv, .slice pr lr cr], .agg #[.slice pb lb cb, .slice pw lw cw, .slice pt lt ct, .slice ps ls cs, .int .i64 sky, .int .i64 st], .int .i64 e] w fun e w' => e = .returned (.bool true) ∧ Below w.heap.size w w' := by
  have A0 : Hid (Ab w ((w.alloc (.cells #[.int .i64 sd, .float .f64 dt, .float .f64 gr, .float .f64 dr, .int .i64 lim, .bool rv, .slice pr lr cr] 25)).alloc (.cells #[.slice pb lb cb, .slice pw lw cw, .slice pt lt ct, .slice ps ls cs, .int .i64 sky, .int .i64 st] 29))) := bl2 _ _ _
  have S0 : Hid (((w.alloc (.cells #[.int .i64 sd, .float .f64 dt, .float .f64 gr, .float .f64 dr, .int .i64 lim, .bool rv, .slice pr lr cr] 25)).alloc (.cells #[.slice pb lb cb, .slice pw lw cw, .slice pt lt ct, .slice ps ls cs, .int .i64 sky, .int .i64 st] 29)).heap[w.heap.size + 1]? = some (.cells #[.slice pb lb cb, .slice pw lw cw, .slice pt lt ct, .slice ps ls cs, .int .i64 sky, .int .i64 st] 29)) := heap_alloc2_new _ _ _
  go_enter Tryd.func5, Tryd.ntmps5
  go_upto_region 1 with fail
  obtain ⟨gs, hgs⟩ : ∃ g, w.heap.size + 1 = g := ⟨_, rfl⟩
  generalize hW : World.alloc (World.alloc w _) _ = W at *
  rw [hgs] at S0 ⊢
  clear hgs hW
  go_wp2_with fail
  refine (LV.out _ A0.out).mono ?_
  rintro e9 v1 ⟨rfl, k1⟩
  have A1 : Hid (Ab w v1) := A0.out.call k1
  have S1 := hid (Ab.heap k1 S0.out)
  clear k1 A0 S0
  have c0 := cell_of_row _ _ 0 _ _ _ S1.out
  have c1 := cell_of_row _ _ 1 _ _ _ S1.out
  have c2 := cell_of_row _ _ 2 _ _ _ S1.out
  have c3 := cell_of_row _ _ 3 _ _ _ S1.out
  have c4 := cell_of_row _ _ 4 _ _ _ S1.out
  have c5 := cell_of_row _ _ 5 _ _ _ S1.out
  go_wp2_with fail
  refine (NT.out _ A1.out).mono ?_
  rintro e9 v2 ⟨rfl, k1⟩
  have A2 : Hid (Ab w v2) := A1.out.call k1
  clear k1 A1 S1 c0 c1 c2 c3 c4 c5 LV NT
  go_wp2
  go_ret
  exact ⟨rfl, A2.out⟩
theorem dpB_lt16 {w a : Int} (w2 : w ≤ 9223372036854775807) (a2 : a ≤ 9223372036854775807) : dpB w a < 18446744073709551616 := by
  by_cases h : w < 1 ∨ a < 1
  · have e : dpB w a = 0 := by unfold dpB; rw [if_pos h]
    rw [e]; decide
  · have := (dp_in (w := w) (a := a) (by omega) (by omega) w2 a2).2
    omega
theorem sp_mirror {n gr dt dr k : Nat} {B : Nat → Nat} {Wt : Nat → Int} {Sp : Nat → Nat} (hn : 1 ≤ n ∧ n ≤ 32) (hk : k < 12 * n * n) (ha : arC n (eL n k) = arC n (eR n k)) (hp : dt < 18446744073709551616 ∧ gr < 18446744073709551616 ∧ dr < 18446744073709551616)
    (hB : ∀ c, c < 6 * n * n → B c < 18446744073709551616) (hW : ∀ c, c < 6 * n * n → Wt c ≤ 9223372036854775807) (hS : Sp k < 18446744073709551616) :
    opE n (fun c => if c = eR n k then B (eL n k) else if c = eL n k then B (eR n k) else B c) (fun c => if c = eR n k then Wt (eL n k) else if c = eL n k then Wt (eR n k) else Wt c) k = opE n B Wt k ∧
    spE n gr dt dr (fun c => if c = eR n k then B (eL n k) else if c = eL n k then B (eR n k) else B c) (fun c => if c = eR n k then Wt (eL n k) else if c = eL n k then Wt (eR n k) else Wt c) (fun i => if i = k then negB (Sp k) else Sp i) k = canonB (negB (spE n gr dt dr B Wt Sp k)) := by
  obtain ⟨c1, c2, c3⟩ := ends16 hn.1 hk
  have l1 : lvC n (fun c => if c = eR n k then B (eL n k) else if c = eL n k then B (eR n k) else B c) (fun c => if c = eR n k then Wt (eL n k) else if c = eL n k then Wt (eR n k) else Wt c) (eL n k) = lvC n B Wt (eR n k) := by
    unfold lvC; dsimp only; rw [if_neg c3, if_pos rfl, if_neg c3, if_pos rfl, ha]
  have l2 : lvC n (fun c => if c = eR n k then B (eL n k) else if c = eL n k then B (eR n k) else B c) (fun c => if c = eR n k then Wt (eL n k) else if c = eL n k then Wt (eR n k) else Wt c) (eR n k) = lvC n B Wt (eL n k) := by
    unfold lvC; dsimp only; rw [if_pos rfl, if_pos rfl, ha]
  have d1 : dpC n (fun c => if c = eR n k then Wt (eL n k) else if c = eL n k then Wt (eR n k) else Wt c) (eL n k) = dpC n Wt (eR n k) := by
    unfold dpC; dsimp only; rw [if_neg c3, if_pos rfl, ha]
  have d2 : dpC n (fun c => if c = eR n k then Wt (eL n k) else if c = eL n k then Wt (eR n k) else Wt c) (eR n k) = dpC n Wt (eL n k) := by
    unfold dpC; dsimp only; rw [if_pos rfl, ha]
  have o : opE n (fun c => if c = eR n k then B (eL n k) else if c = eL n k then B (eR n k) else B c) (fun c => if c = eR n k then Wt (eL n k) else if c = eL n k then Wt (eR n k) else Wt c) k = opE n B Wt k := by
    unfold opE
    dsimp only
    rw [l1, l2, if_neg c3, if_pos rfl, if_pos rfl, if_neg c3, if_pos rfl, if_pos rfl]
    exact opB_mirror _ _ _ _ _ _
  refine ⟨o, ?_⟩
  unfold spE
  dsimp only
  rw [o, l1, l2, d1, d2, if_pos rfl]
  by_cases h : opE n B Wt k = true
  · rw [if_pos h, if_pos h]
    exact spB_mirror hp.2.1 hp.1 hS (lvl_lt (hB _ c1) (hW _ c1) (arC_in n _).2) (lvl_lt (hB _ c2) (hW _ c2) (arC_in n _).2) (dpB_lt16 (hW _ c1) (arC_in n _).2) (dpB_lt16 (hW _ c2) (arC_in n _).2) (gp_lt hn hk)
  · rw [if_neg h, if_neg h]
    decide
/-- BOTH CELLS EXCHANGED -/
theorem mirror16_at (OC : OpenC) (SC : SpeedsC) (VC : SpeedC) (side : Int) (sd : Int) (dt gr dr : Nat) (lim : Int) (rv : Bool) (pr : Option Addr) (lr cr : Nat) (pb : Option Addr) (lb cb : Nat) (B : Nat → Nat) (pw : Option Addr) (lw cw : Nat) (Wt : Nat → Int) (pt : Option Addr) (lt ct : Nat) (ps : Option Addr) (ls cs : Nat) (Sp : Nat → Nat) (sky st : Int) (Tr : Nat → Int) (e : Int) (w : World) (hF : Fr w) (IB : IsFl w pb lb B) (IW : IsIn w pw lw Wt) (IS : IsFl w ps ls Sp) (hp : dt < 18446744073709551616 ∧ gr < 18446744073709551616 ∧ dr < 18446744073709551616) (IT : IsIn w pt lt Tr) (he : -9223372036854775808 ≤ e ∧ e ≤ 9223372036854775807) :
    Calls Tryd.prog 5 #[.int .i64 side, .agg #[.int .i64 sd, .float .f64 dt, .float .f64 gr, .float .f64 dr, .int .i64 lim, .bool rv, .slice pr lr cr], .agg #[.slice pb lb cb, .slice pw lw cw, .slice pt lt ct, .slice ps ls cs, .int .i64 sky, .int .i64 st], .int .i64 e] w fun x w' => x = .returned (.bool true) ∧ Below w.heap.size w w' := by
  by_cases h : ∃ n : Nat, side = (n : Int) ∧ (1 ≤ n ∧ n ≤ 32) ∧ fit4 n lb lw lt ls
  · obtain ⟨n, rfl, hn, hf⟩ := h
    obtain ⟨m1, m2, m3, m4⟩ := n6_16 hn
    have hf2 := hf
    obtain ⟨f1, f2, f3, f4⟩ := hf2
    by_cases hr : inR e (12 * n * n : Nat) = true
    · obtain ⟨k, rfl, hk⟩ := inR_nat hr
      obtain ⟨c1, c2, c3⟩ := ends16 hn.1 hk
      by_cases ha : arC n (eL n k) = arC n (eR n k)
      · obtain ⟨bb, bo, rfl⟩ := IB.some0 (by omega)
        obtain ⟨wb, wo, rfl⟩ := IW.some0 (by omega)
        obtain ⟨sb, so, rfl⟩ := IS.some0 (by omega)
        have M := sp_mirror (gr := gr) (dt := dt) (dr := dr) (B := B) (Wt := Wt) (Sp := Sp) hn hk ha hp (fun c hc => (IB.at0 (by rw [f1]; exact hc)).1) (fun c hc => (IW.at0 (by rw [f2]; exact hc)).1) (IS.at0 (by rw [f4]; exact hk)).1
        refine mirror16_go (n : Int) n (6 * n * n) (12 * n * n) bb bo wb wo sb so sd dt gr dr lim rv pr lr cr lb cb B lw cw Wt pt lt ct ls cs Sp sky st Tr k (eL n k) (eR n k) (edT n k % 4) (mt n (edT n k) % 4) (arC n (eL n k)) (spE n gr dt dr B Wt Sp k) (opE n B Wt k) w hk c1 c2 c3 m2 m1 (spE_in _ _ _ _ _ _ _ _).1 f4 f1 f2 f3
          (fun v hv => lives16_at OC SC v (hF.to hv)) (fun v hv => (net16_yes n _ _ pt _ lb cb lw cw lt ct ls cs sky st v (hF.to hv) hn hf).mono fun _ _ h => ⟨h.1, .inl h.2⟩)
          (fun gb v _ g => edge16 hn hk g) (fun gb v _ g => gArea_ok hn c1 g) (fun gb v _ g => by rw [ha]; exact gArea_ok hn c2 g) (fun v hv => copied16_at _ _ pt _ lb cb lw cw lt ct ls cs B Wt Tr Sp sky st v (IB.below hv) (IW.below hv) (IT.below hv) (IS.below hv) (by omega))
          (fun gb v hv g => (VC n gb sd dt gr dr lim rv pr lr cr _ lb cb B _ lw cw Wt pt lt ct _ ls cs Sp sky st (k : Int) v hn g (IB.below hv) (IW.below hv) (IS.below hv) hp he).1 ⟨hf, hr⟩)
          (fun gb v hv g => (OC n gb _ lb cb B _ lw cw Wt pt lt ct _ ls cs sky st (k : Int) v hn g (IB.below hv) (IW.below hv) ⟨_, IS.below hv⟩ he).1 ⟨hf, hr⟩)
          (fun gb tb tw tt ts v hv g i1 i2 i3 => ?_) (fun gb tb tw tt ts v hv g i1 i2 i3 => ?_) IB IW IS
        · have h := (VC n gb sd dt gr dr lim rv pr lr cr _ lb (lb + 9) _ _ lw (lw + 9) _ (some ⟨tt, 0, none⟩) lt (lt + 9) _ ls (ls + 9) _ sky st (k : Int) v hn g i1 i2 i3 hp he).1 ⟨hf, hr⟩
          rw [show ((k : Int)).toNat = k from rfl, M.2] at h
          exact h
        · have h := (OC n gb _ lb (lb + 9) _ _ lw (lw + 9) _ (some ⟨tt, 0, none⟩) lt (lt + 9) (some ⟨ts, 0, none⟩) ls (ls + 9) sky st (k : Int) v hn g i1 i2 ⟨_, i3⟩ he).1 ⟨hf, hr⟩
          rw [show ((k : Int)).toNat = k from rfl, M.1] at h
          exact h
      · exact mirror16_diff (n : Int) n sd dt gr dr lim rv pr lr cr pb lb cb pw lw cw pt lt ct ps ls cs sky st (k : Int) (eL n k) (eR n k) (edT n k % 4) (mt n (edT n k) % 4) (arC n (eL n k)) (arC n (eR n k)) w (by simp [ha]) (fun v hv => lives16_at OC SC v (hF.to hv)) (fun v hv => (net16_yes n pb pw pt ps lb cb lw cw lt ct ls cs sky st v (hF.to hv) hn hf).mono fun _ _ h => ⟨h.1, .inl h.2⟩)
          (fun gb v _ g => edge16 hn hk g) (fun gb v _ g => gArea_ok hn c1 g) (fun gb v _ g => gArea_ok hn c2 g)
    · have hr2 : inR e (12 * n * n : Nat) = false := by simpa using hr
      exact mirror16_none (n : Int) n sd dt gr dr lim rv pr lr cr pb lb cb pw lw cw pt lt ct ps ls cs sky st e w (fun v hv => lives16_at OC SC v (hF.to hv)) (fun v hv => (net16_yes n pb pw pt ps lb cb lw cw lt ct ls cs sky st v (hF.to hv) hn hf).mono fun _ _ h => ⟨h.1, .inl h.2⟩)
        (fun gb v _ g => gEdge_no hr2 g) (fun gb v hv g => (OC n gb pb lb cb B pw lw cw Wt pt lt ct ps ls cs sky st e v hn g (IB.below hv) (IW.below hv) ⟨_, IS.below hv⟩ he).2 (fun h => hr h.2))
  · exact mirror16_nil side sd dt gr dr lim rv pr lr cr pb lb cb pw lw cw pt lt ct ps ls cs sky st e w (fun v hv => lives16_at OC SC v (hF.to hv)) (fun v hv => net16_nil side pb pw pt ps lb cb lw cw lt ct ls cs sky st v (hF.to hv) h)
end Fc
end Go.Proofs.YtpfoohpncbkkfaaDoor
