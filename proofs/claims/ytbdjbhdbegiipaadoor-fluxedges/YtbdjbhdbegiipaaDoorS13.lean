/-
  Some of the texts of this proof, one behind the other.
-/
import Derived.Deep.QuietTactic
import Derived.Test.YtbdjbhdbegiipaaDoorS12
namespace Go.Proofs.YtbdjbhdbegiipaaDoor
open Go.RowKit Tf Cu
attribute [local go_sem] run_bits run_from raw_feq raw_fne raw_flt raw_fgt run_neg run_store_float
set_option maxRecDepth 100000 in
set_option maxHeartbeats 16000000 in
theorem fe13_empty (n M N : Nat) (sd : Int) (dt gr dr : Nat) (lim : Int) (rv : Bool) (pr : Option Addr) (lr cr : Nat) {pb pw pt : Option Addr} {sb so cb cw ct cs : Nat} (sky st : Int) (k : Nat) {qb qw qt qs : Option Addr} {mb db mw dw mt dt2 ms ds : Nat} (sky2 st2 : Int) {D : Nat → Int} (w : World) (LV : Hid (∀ v, Ab w v → Calls Tryd.prog 6 #[] v fun e w' => e = .returned (.bool true) ∧ Below v.heap.size v w')) (HN : Hid (1 ≤ n ∧ n ≤ 32)) (HF : Hid (Fr w)) (L S R Q a b x dp ln : Nat) (d : Int) (KN : Hid (k < N))
    (LG : Hid (∀ v, Calls Tryd.prog 9 #[.agg #[.slice pb M cb, .slice pw M cw, .slice pt M ct, .slice (some ⟨sb, so, none⟩) N cs, .int .i64 sky, .int .i64 st]] v fun e w' => e = .returned (.bool false) ∧ Below v.heap.size v w'))
    (LO : Hid (∀ v, Calls Tryd.prog 9 #[.agg #[.slice qb mb db, .slice qw mw dw, .slice qt mt dt2, .slice qs ms ds, .int .i64 sky2, .int .i64 st2]] v fun e w' => e = .returned (.bool false) ∧ Below v.heap.size v w'))
    (CA : Hid (∀ gb v, Ab w v → GridOf n gb v → Calls Tryd.prog 10 #[.pointer (some ⟨gb, 0, none⟩), .agg #[.int .i64 sd, .float .f64 dt, .float .f64 gr, .float .f64 dr, .int .i64 lim, .bool rv, .slice pr lr cr], .agg #[.slice pb M cb, .slice pw M cw, .slice pt M ct, .slice (some ⟨sb, so, none⟩) N cs, .int .i64 sky, .int .i64 st]] v fun e w' => ∃ b, e = .returned (.tuple #[.slice (some ⟨b, 0, none⟩) N N, .int .i64 0]) ∧ Below v.heap.size v w' ∧ w'.rowIs b 2 N (fun i => .int .i64 (D i)) ∧ v.heap.size ≤ b))
    (EDG : Hid (∀ gb v, GridOf n gb v → Calls Tryd.prog 11 #[.pointer (some ⟨gb, 0, none⟩), .int .i64 (k : Nat)] v fun e w' => e = .returned (.tuple #[.agg #[.int .i64 (L : Nat), .int .i64 (S : Nat), .int .i64 (R : Nat), .int .i64 (Q : Nat)], .bool true]) ∧ Below v.heap.size v w'))
    (BEH : Hid (∀ gb v, GridOf n gb v → Calls Tryd.prog 12 #[.pointer (some ⟨gb, 0, none⟩), .int .i64 (k : Nat)] v fun e w' => e = .returned (.tuple #[.int .i64 (a : Nat), .int .i64 (b : Nat), .bool true]) ∧ Below v.heap.size v w'))
    (DEP : Hid (∀ gb v, Ab w v → GridOf n gb v → Calls Tryd.prog 13 #[.pointer (some ⟨gb, 0, none⟩), .int .i64 lim, .agg #[.slice pb M cb, .slice pw M cw, .slice pt M ct, .slice (some ⟨sb, so, none⟩) N cs, .int .i64 sky, .int .i64 st], .int .i64 (k : Nat), .float .f64 x] v fun e w' => e = .returned (.float .f64 dp) ∧ Below v.heap.size v w'))
    (LEN : Hid (∀ gb v, GridOf n gb v → Calls Tryd.prog 14 #[.pointer (some ⟨gb, 0, none⟩), .int .i64 (k : Nat)] v fun e w' => e = .returned (.float .f64 ln) ∧ Below v.heap.size v w'))
    (QUA : Hid (∀ v : World, Calls Tryd.prog 7 #[.float .f64 x, .float .f64 dp, .float .f64 ln, .float .f64 dt] v fun e w' => e = .returned (.int .i64 d) ∧ Below v.heap.size v w'))
    (FSp : Hid (∀ v, Ab w v → v.cell? ⟨sb, so + k, none⟩ = some (.float .f64 x))) (DK : Hid (D k = d))
    (em : (((mb : Nat) : Int) == 0) = true ∨ ((((mb : Nat) : Int) == 0) = false ∧ (((mw : Nat) : Int) == 0) = true) ∨ ((((mb : Nat) : Int) == 0) = false ∧ (((mw : Nat) : Int) == 0) = false ∧ (((ms : Nat) : Int) == 0) = true)) :
    Calls Tryd.prog 4 #[.int .i64 (n : Nat), .agg #[.int .i64 sd, .float .f64 dt, .float .f64 gr, .float .f64 dr, .int .i64 lim, .bool rv, .slice pr lr cr], .agg #[.slice pb M cb, .slice pw M cw, .slice pt M ct, .slice (some ⟨sb, so, none⟩) N cs, .int .i64 sky, .int .i64 st], .int .i64 (k : Nat), .agg #[.slice qb mb db, .slice qw mw dw, .slice qt mt dt2, .slice qs ms ds, .int .i64 sky2, .int .i64 st2]] w fun e w' => e = .returned (.bool true) ∧ Below w.heap.size w w' := by
  have A0 : Hid (Ab w (((w.alloc (.cells #[.int .i64 sd, .float .f64 dt, .float .f64 gr, .float .f64 dr, .int .i64 lim, .bool rv, .slice pr lr cr] 30)).alloc (.cells #[.slice pb M cb, .slice pw M cw, .slice pt M ct, .slice (some ⟨sb, so, none⟩) N cs, .int .i64 sky, .int .i64 st] 34)).alloc (.cells #[.slice qb mb db, .slice qw mw dw, .slice qt mt dt2, .slice qs ms ds, .int .i64 sky2, .int .i64 st2] 34))) := bl3 _ _ _ _
  have RP : Hid ((((w.alloc (.cells #[.int .i64 sd, .float .f64 dt, .float .f64 gr, .float .f64 dr, .int .i64 lim, .bool rv, .slice pr lr cr] 30)).alloc (.cells #[.slice pb M cb, .slice pw M cw, .slice pt M ct, .slice (some ⟨sb, so, none⟩) N cs, .int .i64 sky, .int .i64 st] 34)).alloc (.cells #[.slice qb mb db, .slice qw mw dw, .slice qt mt dt2, .slice qs ms ds, .int .i64 sky2, .int .i64 st2] 34)).heap[w.heap.size]? = some (.cells #[.int .i64 sd, .float .f64 dt, .float .f64 gr, .float .f64 dr, .int .i64 lim, .bool rv, .slice pr lr cr] 30)) := Ab.heap (bl2 _ _ _) (heap_alloc_new _ _)
  have RO : Hid ((((w.alloc (.cells #[.int .i64 sd, .float .f64 dt, .float .f64 gr, .float .f64 dr, .int .i64 lim, .bool rv, .slice pr lr cr] 30)).alloc (.cells #[.slice pb M cb, .slice pw M cw, .slice pt M ct, .slice (some ⟨sb, so, none⟩) N cs, .int .i64 sky, .int .i64 st] 34)).alloc (.cells #[.slice qb mb db, .slice qw mw dw, .slice qt mt dt2, .slice qs ms ds, .int .i64 sky2, .int .i64 st2] 34)).heap[w.heap.size + 1]? = some (.cells #[.slice pb M cb, .slice pw M cw, .slice pt M ct, .slice (some ⟨sb, so, none⟩) N cs, .int .i64 sky, .int .i64 st] 34)) := Ab.heap (bl1 _ _) (heap_alloc2_new _ _ _)
  have RD : Hid ((((w.alloc (.cells #[.int .i64 sd, .float .f64 dt, .float .f64 gr, .float .f64 dr, .int .i64 lim, .bool rv, .slice pr lr cr] 30)).alloc (.cells #[.slice pb M cb, .slice pw M cw, .slice pt M ct, .slice (some ⟨sb, so, none⟩) N cs, .int .i64 sky, .int .i64 st] 34)).alloc (.cells #[.slice qb mb db, .slice qw mw dw, .slice qt mt dt2, .slice qs ms ds, .int .i64 sky2, .int .i64 st2] 34)).heap[w.heap.size + 2]? = some (.cells #[.slice qb mb db, .slice qw mw dw, .slice qt mt dt2, .slice qs ms ds, .int .i64 sky2, .int .i64 st2] 34)) := heap_alloc3_new _ _ _ _
  go_enter Tryd.func4, Tryd.ntmps4
  go_upto_region 1 with fail
  generalize hW : World.alloc (World.alloc (World.alloc w _) _) _ = W at *
  obtain ⟨gp, hgp⟩ : ∃ g, w.heap.size = g := ⟨_, rfl⟩
  obtain ⟨gs, hgs⟩ : ∃ g, w.heap.size + 1 = g := ⟨_, rfl⟩
  obtain ⟨go, hgo⟩ : ∃ g, w.heap.size + 2 = g := ⟨_, rfl⟩
  rw [hgp] at RP
  rw [hgs] at RO
  rw [hgo] at RD
  rw [hgo, hgs, hgp]
  clear hgs hgp hgo hW
  go_wp2_with fail
  refine (LV.out _ A0.out).mono ?_
  rintro e9 v1 ⟨rfl, b1⟩
  have A1 : Hid (Ab W v1) := b1
  clear b1
  go_wp2_with fail
  refine (new_at n v1 HN.out (HF.out.to (A0.out.trans A1.out))).mono ?_
  rintro e9 v2 ⟨gb, rfl, a2, -, g2⟩
  have A2 : Hid (Ab W v2) := A1.out.trans a2
  have G2 : Hid (GridOf n gb v2) := g2
  clear a2 g2 A1
  have s0 := cell_of_row _ _ 0 _ _ _ (A2.out.heap RO.out)
  have s1 := cell_of_row _ _ 1 _ _ _ (A2.out.heap RO.out)
  have s2 := cell_of_row _ _ 2 _ _ _ (A2.out.heap RO.out)
  have s3 := cell_of_row _ _ 3 _ _ _ (A2.out.heap RO.out)
  have s4 := cell_of_row _ _ 4 _ _ _ (A2.out.heap RO.out)
  have s5 := cell_of_row _ _ 5 _ _ _ (A2.out.heap RO.out)
  have o0 := cell_of_row _ _ 0 _ _ _ (A2.out.heap RD.out)
  have o1 := cell_of_row _ _ 1 _ _ _ (A2.out.heap RD.out)
  have o2 := cell_of_row _ _ 2 _ _ _ (A2.out.heap RD.out)
  have o3 := cell_of_row _ _ 3 _ _ _ (A2.out.heap RD.out)
  have o4 := cell_of_row _ _ 4 _ _ _ (A2.out.heap RD.out)
  have o5 := cell_of_row _ _ 5 _ _ _ (A2.out.heap RD.out)
  go_wp2_with fail
  refine (LG.out v2).mono ?_
  rintro e9 v3 ⟨rfl, b3⟩
  have A3 : Hid (Ab W v3) := A2.out.trans b3
  have G3 : Hid (GridOf n gb v3) := G2.out.to b3
  clear b3 A2 G2 s0 s1 s2 s3 s4 s5 o0 o1 o2 o3 o4 o5
  have o0 := cell_of_row _ _ 0 _ _ _ (A3.out.heap RD.out)
  have o1 := cell_of_row _ _ 1 _ _ _ (A3.out.heap RD.out)
  have o2 := cell_of_row _ _ 2 _ _ _ (A3.out.heap RD.out)
  have o3 := cell_of_row _ _ 3 _ _ _ (A3.out.heap RD.out)
  have o4 := cell_of_row _ _ 4 _ _ _ (A3.out.heap RD.out)
  have o5 := cell_of_row _ _ 5 _ _ _ (A3.out.heap RD.out)
  go_wp2_with fail
  refine (LO.out v3).mono ?_
  rintro e9 v4 ⟨rfl, b4⟩
  have A4 : Hid (Ab W v4) := A3.out.trans b4
  have G4 : Hid (GridOf n gb v4) := G3.out.to b4
  clear b4 A3 G3 o0 o1 o2 o3 o4 o5
  have s0 := cell_of_row _ _ 0 _ _ _ (A4.out.heap RO.out)
  have s1 := cell_of_row _ _ 1 _ _ _ (A4.out.heap RO.out)
  have s2 := cell_of_row _ _ 2 _ _ _ (A4.out.heap RO.out)
  have s3 := cell_of_row _ _ 3 _ _ _ (A4.out.heap RO.out)
  have s4 := cell_of_row _ _ 4 _ _ _ (A4.out.heap RO.out)
  have s5 := cell_of_row _ _ 5 _ _ _ (A4.out.heap RO.out)
  have p0 := cell_of_row _ _ 0 _ _ _ (A4.out.heap RP.out)
  have p1 := cell_of_row _ _ 1 _ _ _ (A4.out.heap RP.out)
  have p2 := cell_of_row _ _ 2 _ _ _ (A4.out.heap RP.out)
  have p3 := cell_of_row _ _ 3 _ _ _ (A4.out.heap RP.out)
  have p4 := cell_of_row _ _ 4 _ _ _ (A4.out.heap RP.out)
  have p5 := cell_of_row _ _ 5 _ _ _ (A4.out.heap RP.out)
  have p6 := cell_of_row _ _ 6 _ _ _ (A4.out.heap RP.out)
  go_wp2_with fail
  refine (CA.out gb v4 (A0.out.trans A4.out) G4.out).mono ?_
  rintro e9 v5 ⟨bl, rfl, b5, r5, -⟩
  have A5 : Hid (Ab W v5) := A4.out.trans b5
  have G5 : Hid (GridOf n gb v5) := G4.out.to b5
  have R5 := hid r5
  clear b5 r5 A4 G4 s0 s1 s2 s3 s4 s5 p0 p1 p2 p3 p4 p5 p6
  go_wp2_with fail
  refine (EDG.out gb v5 G5.out).mono ?_
  rintro e9 v6 ⟨rfl, b6⟩
  have A6 : Hid (Ab v5 (v6.alloc (.cells #[.int .i64 (L : Nat), .int .i64 (S : Nat), .int .i64 (R : Nat), .int .i64 (Q : Nat)] 43))) := Ab.alloc (show Ab v5 v6 from b6) _
  have GE : Hid ((v6.alloc (.cells #[.int .i64 (L : Nat), .int .i64 (S : Nat), .int .i64 (R : Nat), .int .i64 (Q : Nat)] 43)).heap[v6.heap.size]? = some (.cells #[.int .i64 (L : Nat), .int .i64 (S : Nat), .int .i64 (R : Nat), .int .i64 (Q : Nat)] 43)) := heap_alloc_new _ _
  clear b6
  go_upto_region 10 with fail
  generalize hV : World.alloc v6 _ = V at *
  obtain ⟨ge, hge⟩ : ∃ g, v6.heap.size = g := ⟨_, rfl⟩
  rw [hge] at GE
  rw [hge]
  clear hV hge
  go_wp2_with fail
  refine (BEH.out gb V (G5.out.to A6.out)).mono ?_
  rintro e9 v7 ⟨rfl, b7⟩
  have A7 : Hid (Ab v5 v7) := A6.out.trans b7
  have GE7 : Hid (v7.heap[ge]? = some (.cells #[.int .i64 (L : Nat), .int .i64 (S : Nat), .int .i64 (R : Nat), .int .i64 (Q : Nat)] 43)) := Ab.heap b7 GE.out
  clear b7 A6 GE
  have s3 := cell_of_row _ _ 3 _ _ _ ((A5.out.trans A7.out).heap RO.out)
  have kN := KN.out
  have kI : (k : Int) < N := by omega
  have kb : decide ((k : Int) < 0) = false := by rw [decide_eq_false_iff_not]; omega
  have kc : decide ((N : Int) ≤ (k : Int)) = false := by rw [decide_eq_false_iff_not]; omega
  go_upto_region 13 with fail
  clear s3
  have dd : ((d : Int) != d) = false := by simp
  obtain ⟨UU, E, hF1, hF2⟩ := cls v7
  have HU := hid hF2
  have HU1 := hid hF1
  have HX : Hid (∀ u, Ab v5 (E u)) := fun u => Ab.trans A7.out (hF1 u)
  have s0 : ∀ u, (E u).cell? ⟨gs, 0, none⟩ = some (.slice pb M cb) := fun u => cell_of_row _ _ 0 _ _ _ ((A5.out.trans (A7.out.trans (hF1 u))).heap RO.out)
  have s1 : ∀ u, (E u).cell? ⟨gs, 1, none⟩ = some (.slice pw M cw) := fun u => cell_of_row _ _ 1 _ _ _ ((A5.out.trans (A7.out.trans (hF1 u))).heap RO.out)
  have s2 : ∀ u, (E u).cell? ⟨gs, 2, none⟩ = some (.slice pt M ct) := fun u => cell_of_row _ _ 2 _ _ _ ((A5.out.trans (A7.out.trans (hF1 u))).heap RO.out)
  have s3 : ∀ u, (E u).cell? ⟨gs, 3, none⟩ = some (.slice (some ⟨sb, so, none⟩) N cs) := fun u => cell_of_row _ _ 3 _ _ _ ((A5.out.trans (A7.out.trans (hF1 u))).heap RO.out)
  have s4 : ∀ u, (E u).cell? ⟨gs, 4, none⟩ = some (.int .i64 sky) := fun u => cell_of_row _ _ 4 _ _ _ ((A5.out.trans (A7.out.trans (hF1 u))).heap RO.out)
  have s5 : ∀ u, (E u).cell? ⟨gs, 5, none⟩ = some (.int .i64 st) := fun u => cell_of_row _ _ 5 _ _ _ ((A5.out.trans (A7.out.trans (hF1 u))).heap RO.out)
  have p1 : ∀ u, (E u).cell? ⟨gp, 1, none⟩ = some (.float .f64 dt) := fun u => cell_of_row _ _ 1 _ _ _ ((A5.out.trans (A7.out.trans (hF1 u))).heap RP.out)
  have p4 : ∀ u, (E u).cell? ⟨gp, 4, none⟩ = some (.int .i64 lim) := fun u => cell_of_row _ _ 4 _ _ _ ((A5.out.trans (A7.out.trans (hF1 u))).heap RP.out)
  have sx : ∀ u, (E u).cell? ⟨sb, so + k, none⟩ = some (.float .f64 x) := fun u => FSp.out _ (A0.out.trans (A5.out.trans (A7.out.trans (hF1 u))))
  have lx : ∀ u, (E u).cell? ⟨bl, k, none⟩ = some (.int .i64 d) := fun u => ((rowIs.ab R5.out (A7.out.trans (hF1 u))).cell kN).trans (by rw [DK.out])
  have DD0 := HU.out _ (Ab.refl v7).drew
  clear hF1 hF2
  refine region_cls E (by kernel_rfl) (by kernel_rfl) DD0 ?_
  repeat (go_big_quiet_step (first
    | (with_reducible rfl)
    | (go_at_call 13; exact calls_cls HU HU1 (DEP.out gb _ (A0.out.trans (A5.out.trans (HX.out _))) (G5.out.to (HX.out _))))
    | (go_at_call 14; exact calls_cls HU HU1 (LEN.out gb _ (G5.out.to (HX.out _))))
    | (go_at_call 7; exact calls_cls HU HU1 (QUA.out _))))
  refine wpQuiet_nil ?_
  intro z8 hwz
  obtain ⟨u0, hu⟩ := hwz
  have GE8 : Hid (z8.heap[ge]? = some (.cells #[.int .i64 (L : Nat), .int .i64 (S : Nat), .int .i64 (R : Nat), .int .i64 (Q : Nat)] 43)) := by rw [hu]; exact (HU1.out u0).heap GE7.out
  have AZ : Hid (Ab v5 z8) := by rw [hu]; exact HX.out u0
  clear hu u0
  clear HU HU1 HX DD0 s0 s1 s2 s3 s4 s5 p1 p4 sx lx
  clear E UU
  have A8 : Hid (Ab W z8) := A5.out.trans AZ.out
  have G8 : Hid (GridOf n gb z8) := G5.out.to AZ.out
  have R8 := hid (rowIs.ab R5.out AZ.out)
  clear AZ A7 GE7 G5 R5 dd
  have o0 := cell_of_row _ _ 0 _ _ _ (A8.out.heap RD.out)
  have o1 := cell_of_row _ _ 1 _ _ _ (A8.out.heap RD.out)
  have o2 := cell_of_row _ _ 2 _ _ _ (A8.out.heap RD.out)
  have o3 := cell_of_row _ _ 3 _ _ _ (A8.out.heap RD.out)
  have o4 := cell_of_row _ _ 4 _ _ _ (A8.out.heap RD.out)
  have o5 := cell_of_row _ _ 5 _ _ _ (A8.out.heap RD.out)
  rcases em with q1 | ⟨q1, q2⟩ | ⟨q1, q2, q3⟩
  · go_wp2
    go_ret
    exact ⟨rfl, A0.out.trans A8.out⟩
  · go_wp2
    go_ret
    exact ⟨rfl, A0.out.trans A8.out⟩
  · go_wp2
    go_ret
    exact ⟨rfl, A0.out.trans A8.out⟩
end Go.Proofs.YtbdjbhdbegiipaaDoor

namespace Go.Proofs.YtbdjbhdbegiipaaDoor
open Go.RowKit Tf Cu
attribute [local go_sem] run_bits run_from raw_feq raw_fne raw_flt raw_fgt run_neg run_store_float
set_option maxRecDepth 100000 in
set_option maxHeartbeats 8000000 in
theorem copied13_at (pb pw pt ps : Option Addr) (lb cb lw cw lt ct ls cs : Nat) (B : Nat → Nat) (Wt Tr : Nat → Int) (Sp : Nat → Nat) (sky st : Int) (w : World)
    (hB : IsFl w pb lb B) (hW : IsIn w pw lw Wt) (hT : IsIn w pt lt Tr) (hS : IsFl w ps ls Sp)
    (hl : lb ≤ 65536 ∧ lw ≤ 65536 ∧ lt ≤ 65536 ∧ ls ≤ 65536) :
    Calls Tryd.prog 15 #[.agg #[.slice pb lb cb, .slice pw lw cw, .slice pt lt ct, .slice ps ls cs, .int .i64 sky, .int .i64 st]] w fun e w' => ∃ bb bw bt bs, e = .returned (.agg #[.slice (some ⟨bb, 0, none⟩) lb (lb + 9), .slice (some ⟨bw, 0, none⟩) lw (lw + 9), .slice (some ⟨bt, 0, none⟩) lt (lt + 9), .slice (some ⟨bs, 0, none⟩) ls (ls + 9), .int .i64 sky, .int .i64 st]) ∧ Below w.heap.size w w' ∧ w'.rowIs bb 22 (lb + 9) (mkF lb (fun k => .float .f64 (B k)) (.float .f64 4635118810238550016) (.float .f64 0)) ∧ w'.rowIs bw 2 (lw + 9) (mkF lw (fun k => .int .i64 (Wt k)) (.int .i64 77) (.int .i64 0)) ∧ w'.rowIs bt 2 (lt + 9) (mkF lt (fun k => .int .i64 (Tr k)) (.int .i64 77) (.int .i64 0)) ∧ w'.rowIs bs 22 (ls + 9) (mkF ls (fun k => .float .f64 (Sp k)) (.float .f64 4635118810238550016) (.float .f64 0)) ∧ (w.heap.size ≤ bb ∧ w.heap.size ≤ bw ∧ w.heap.size ≤ bt ∧ w.heap.size ≤ bs ∧ bb ≠ bw ∧ bb ≠ bt ∧ bb ≠ bs ∧ bw ≠ bt ∧ bw ≠ bs ∧ bt ≠ bs) := by
  have A0 : Hid (Ab w (((w.alloc (.cells #[.slice pb lb cb, .slice pw lw cw, .slice pt lt ct, .slice ps ls cs, .int .i64 sky, .int .i64 st] 34)).alloc (.cells #[.slice none 0 0, .slice none 0 0, .slice none 0 0, .slice none 0 0, .int .i64 0, .int .i64 0] 34)).alloc (.cells #[.slice pb lb cb, .slice pw lw cw, .slice pt lt ct, .slice ps ls cs, .int .i64 sky, .int .i64 st] 34))) := bl3 _ _ _ _
  have GS : Hid ((((w.alloc (.cells #[.slice pb lb cb, .slice pw lw cw, .slice pt lt ct, .slice ps ls cs, .int .i64 sky, .int .i64 st] 34)).alloc (.cells #[.slice none 0 0, .slice none 0 0, .slice none 0 0, .slice none 0 0, .int .i64 0, .int .i64 0] 34)).alloc (.cells #[.slice pb lb cb, .slice pw lw cw, .slice pt lt ct, .slice ps ls cs, .int .i64 sky, .int .i64 st] 34)).heap[w.heap.size]? = some (.cells #[.slice pb lb cb, .slice pw lw cw, .slice pt lt ct, .slice ps ls cs, .int .i64 sky, .int .i64 st] 34)) := Ab.heap (bl2 _ _ _) (heap_alloc_new _ _)
  have GR : Hid ((((w.alloc (.cells #[.slice pb lb cb, .slice pw lw cw, .slice pt lt ct, .slice ps ls cs, .int .i64 sky, .int .i64 st] 34)).alloc (.cells #[.slice none 0 0, .slice none 0 0, .slice none 0 0, .slice none 0 0, .int .i64 0, .int .i64 0] 34)).alloc (.cells #[.slice pb lb cb, .slice pw lw cw, .slice pt lt ct, .slice ps ls cs, .int .i64 sky, .int .i64 st] 34)).heap[w.heap.size + 1]? = some (.cells #[.slice none 0 0, .slice none 0 0, .slice none 0 0, .slice none 0 0, .int .i64 0, .int .i64 0] 34)) := Ab.heap (bl1 _ _) (heap_alloc2_new _ _ _)
  have GO : Hid ((((w.alloc (.cells #[.slice pb lb cb, .slice pw lw cw, .slice pt lt ct, .slice ps ls cs, .int .i64 sky, .int .i64 st] 34)).alloc (.cells #[.slice none 0 0, .slice none 0 0, .slice none 0 0, .slice none 0 0, .int .i64 0, .int .i64 0] 34)).alloc (.cells #[.slice pb lb cb, .slice pw lw cw, .slice pt lt ct, .slice ps ls cs, .int .i64 sky, .int .i64 st] 34)).heap[w.heap.size + 2]? = some (.cells #[.slice pb lb cb, .slice pw lw cw, .slice pt lt ct, .slice ps ls cs, .int .i64 sky, .int .i64 st] 34)) := heap_alloc3_new _ _ _ _
  have HL := hid hl
  have Hb := hid hB
  have Hw := hid hW
  have Ht := hid hT
  have Hs := hid hS
  clear hl hB hW hT hS
  go_enter Tryd.func15, Tryd.ntmps15
  go_upto_region 2 with fail
  generalize hV : World.alloc (World.alloc (World.alloc w _) _) _ = V at *
  obtain ⟨gs, hgs⟩ : ∃ x, w.heap.size = x := ⟨_, rfl⟩
  obtain ⟨gr, hgr⟩ : ∃ x, w.heap.size + 1 = x := ⟨_, rfl⟩
  obtain ⟨go, hgo⟩ : ∃ x, w.heap.size + 2 = x := ⟨_, rfl⟩
  have GSO : Hid (gs ≠ go) := by intro h; omega
  have GRO : Hid (gr ≠ go ∧ gs ≠ gr) := ⟨by intro h; omega, by intro h; omega⟩
  have GRW : Hid (w.heap.size ≤ gr ∧ gr < go ∧ w.heap.size ≤ go) := ⟨by omega, by omega, by omega⟩
  have GOW : Hid (w.heap.size ≤ go) := by show w.heap.size ≤ go; omega
  rw [hgs] at GS
  rw [hgr] at GR
  rw [hgo] at GO
  rw [hgo, hgr, hgs]
  have AV := A0
  clear hgs hgr hgo hV A0
  go_upto_region 2 with fail
  go_cut [] from 5 to 19 (fun V0 => ∃ bb : Nat, V.heap.size ≤ bb ∧ Abx V go 6 34 V0 ∧ V0.heap[go]? = some (.cells #[.slice (some ⟨bb, 0, none⟩) lb (lb + 9), .slice pw lw cw, .slice pt lt ct, .slice ps ls cs, .int .i64 sky, .int .i64 st] 34) ∧ V0.rowIs bb 22 (lb + 9) (mkF lb (fun k => .float .f64 (B k)) (.float .f64 4635118810238550016) (.float .f64 0)))
  case first =>
    obtain ⟨i0, hi0, hi1⟩ := info_f13
    have IP := hid (And.intro hi0 hi1)
    clear hi0 hi1
    have M1 : ∀ v : World, (Instr.makeSlice 31 (.int .i64 0) (.int .i64 (IntKind.i64.wrap ((lb : Int) + 9)))).run Tryd.prog v = .ok (.slice (some ⟨v.heap.size, 0, none⟩) 0 (lb + 9)) (v.alloc (.cells (madeCells #[.float .f64 0] (lb + 9)) 22)) := fun v => by rw [wrap9 _ HL.out.1]; exact make_f13 lb HL.out.1 v
    have WR : Hid (IntKind.i64.wrap ((lb : Int) + 9) = (lb : Int) + 9) := wrap9 _ HL.out.1
    have lb1 : (lb : Int) ≤ 65536 := by have := HL.out; omega
    have AX0 : Abx V go 6 34 V := (Ab.refl V).x rfl GO.out
    have lb2 : ((lb : Nat) : Int) ≤ ((lb + 9 : Nat) : Int) := by omega
    have lb3 : (lb : Int) ≤ (lb : Int) + 9 := by omega
    have lb4 : (0 : Int) ≤ (lb : Int) := by omega
    have AB0 := hid (Ab.refl V)
    have GX := hid (lt_of_block GO.out)
    have KS : Hid (∀ w', Abx V go 6 34 w' → Abx V go 6 34 w' ∧ w'.cell? ⟨gs, 0, none⟩ = some (.slice pb lb cb) ∧ w'.frozen? ⟨go, 0, none⟩ = false ∧ w'.cell? ⟨go, 0, none⟩ = some (rv w' go 0)) := fun w' h => ⟨h, cell_of_row _ _ 0 _ _ _ (h.heap GSO.out GS.out), h.free 0, h.some (by decide)⟩
    have SR : Hid (∀ v, Abx V go 6 34 v → Src Tryd.prog 1 31 (.slice pb lb cb) lb ((List.range lb).map fun k => Value.float .f64 (B k)) v) := fun v h => src_fl (Hb.out.below (h.ab AV.out GOW.out)) _
    go_region_held3 (fun w' => Abx V go 6 34 w' ∧ w'.cell? ⟨gs, 0, none⟩ = some (.slice pb lb cb) ∧ w'.frozen? ⟨go, 0, none⟩ = false ∧ w'.cell? ⟨go, 0, none⟩ = some (rv w' go 0)) ((refine KS.out _ ?_; (with_reducible (repeat (first | assumption | apply Abx.drew | apply Abx.alloc | apply Abx.set))); done)) (first
      | (have r1 := R1.out; have q1 := HQ.out; refine step_app (by rfl) _ _ 31 (by rfl) 22 i0 Tryd.underlying31 IP.out.1 IP.out.2 _ lb (lb + 9) _ (by rfl) r1 _ 1 _ (by rfl) (src_oneF q1) (by omega) (lb + 1) rfl ?_; intro w5 r5 x5; have AX5 := Abx.far AX4 x5 (by omega) GX.out; have AB5 := hid (Abx.ab x5 AB4.out (by omega)); have R2 := hid r5; clear r5 x5; clear r1 q1)
      | (have r1 := R1.out; refine step_app (by rfl) _ _ 31 (by rfl) 22 i0 Tryd.underlying31 IP.out.1 IP.out.2 _ lb (lb + 9) _ (by rfl) (r1.alloc _) _ 1 _ (by rfl) (src_oneF (heap_alloc_new w4 _)) (by omega) (lb + 1) rfl ?_; intro w5 r5 x5; have AX5 := Abx.far (AX4.alloc _) x5 (by omega) GX.out; have AB5 := hid (Abx.ab x5 (AB4.out.alloc _) (by omega)); have R2 := hid r5; clear r5 x5; clear r1)
      | (refine step_app (by rfl) _ _ 31 (by rfl) 22 i0 Tryd.underlying31 IP.out.1 IP.out.2 (V.heap.size + 1) 0 (lb + 9) (fun _ => .float .f64 0) (by rfl) (row_m3 V (.float .f64 0) (lb + 9) 22 (.cells #[.float .f64 4635118810238550016] 22)) (.slice pb lb cb) lb _ (by rfl) (SR.out _ ((AX0.drew.alloc (.cells #[.float .f64 4635118810238550016] 22)).alloc (.cells (madeCells #[.float .f64 0] (lb + 9)) 22))) (by omega) lb (by omega) ?_; intro w4 r4 x4; have AX4 := Abx.far ((AX0.drew.alloc (.cells #[.float .f64 4635118810238550016] 22)).alloc (.cells (madeCells #[.float .f64 0] (lb + 9)) 22)) x4 (by omega) GX.out; have AB4 := hid (Abx.ab x4 ((AB0.out.drew.alloc (.cells #[.float .f64 4635118810238550016] 22)).alloc (.cells (madeCells #[.float .f64 0] (lb + 9)) 22)) (by omega)); have R1 := hid r4; have HQ := hid (abx_other x4 (blk_m3 V _ (.cells #[.float .f64 4635118810238550016] 22)) (by omega)); clear r4 x4)
      | (refine step_app (by rfl) _ _ 31 (by rfl) 22 i0 Tryd.underlying31 IP.out.1 IP.out.2 V.heap.size 0 (lb + 9) (fun _ => .float .f64 0) (by rfl) (row_m2 V (.float .f64 0) (lb + 9) 22 (.cells #[.float .f64 4635118810238550016] 22)) (.slice pb lb cb) lb _ (by rfl) (SR.out _ ((AX0.drew.alloc (.cells (madeCells #[.float .f64 0] (lb + 9)) 22)).alloc (.cells #[.float .f64 4635118810238550016] 22))) (by omega) lb (by omega) ?_; intro w4 r4 x4; have AX4 := Abx.far ((AX0.drew.alloc (.cells (madeCells #[.float .f64 0] (lb + 9)) 22)).alloc (.cells #[.float .f64 4635118810238550016] 22)) x4 (by omega) GX.out; have AB4 := hid (Abx.ab x4 ((AB0.out.drew.alloc (.cells (madeCells #[.float .f64 0] (lb + 9)) 22)).alloc (.cells #[.float .f64 4635118810238550016] 22)) (by omega)); have R1 := hid r4; have HQ := hid (abx_other x4 (blk_m2 V _ (.cells #[.float .f64 4635118810238550016] 22)) (by omega)); clear r4 x4)
      | (refine step_app (by rfl) _ _ 31 (by rfl) 22 i0 Tryd.underlying31 IP.out.1 IP.out.2 V.heap.size 0 (lb + 9) (fun _ => .float .f64 0) (by rfl) (row_m1 V (.float .f64 0) (lb + 9) 22) (.slice pb lb cb) lb _ (by rfl) (SR.out _ (AX0.drew.alloc (.cells (madeCells #[.float .f64 0] (lb + 9)) 22))) (by omega) lb (by omega) ?_; intro w4 r4 x4; have AX4 := Abx.far (AX0.drew.alloc (.cells (madeCells #[.float .f64 0] (lb + 9)) 22)) x4 (by omega) GX.out; have AB4 := hid (Abx.ab x4 (AB0.out.drew.alloc (.cells (madeCells #[.float .f64 0] (lb + 9)) 22)) (by omega)); have R1 := hid r4; clear r4 x4))
    all_goals
      go_wp2_with fail
      go_meet
      exact ⟨_, by omega, AX5.set _ _, one_set (AB5.out.heap GO.out), (R2.out.setOther (Ne.symm (Nat.ne_of_lt (Nat.lt_of_lt_of_le GX.out (by omega)))) _).congr (fun j _ => mk_two _ _ _ _ _)⟩
  case rest =>
    rename World => V0
    obtain ⟨bb, h1, h2, h3, h4⟩ := hcut
    have LTb : Hid (V.heap.size ≤ bb ∧ bb < V0.heap.size ∧ go < V.heap.size) := ⟨h1, h4.lt, lt_of_block GO.out⟩
    have AV2 : Hid (Ab w V0) := h2.ab AV.out GOW.out
    have GS2 := hid (h2.heap GSO.out GS.out)
    have GR2 := hid (h2.heap GRO.out.1 GR.out)
    have Rb := hid h4
    clear AV GS GR GO 
    have AV := AV2
    have GS := GS2
    have GR := GR2
    have GO := hid h3
    clear AV2 GS2 GR2 h1 h2 h3 h4
    go_upto_region 3 with fail
    go_cut [] from 20 to 34 (fun V1 => ∃ bs : Nat, V0.heap.size ≤ bs ∧ Abx V0 go 6 34 V1 ∧ V1.heap[go]? = some (.cells #[.slice (some ⟨bb, 0, none⟩) lb (lb + 9), .slice pw lw cw, .slice pt lt ct, .slice (some ⟨bs, 0, none⟩) ls (ls + 9), .int .i64 sky, .int .i64 st] 34) ∧ V1.rowIs bs 22 (ls + 9) (mkF ls (fun k => .float .f64 (Sp k)) (.float .f64 4635118810238550016) (.float .f64 0)))
    case first =>
      obtain ⟨i0, hi0, hi1⟩ := info_f13
      have IP := hid (And.intro hi0 hi1)
      clear hi0 hi1
      have M1 : ∀ v : World, (Instr.makeSlice 31 (.int .i64 0) (.int .i64 (IntKind.i64.wrap ((ls : Int) + 9)))).run Tryd.prog v = .ok (.slice (some ⟨v.heap.size, 0, none⟩) 0 (ls + 9)) (v.alloc (.cells (madeCells #[.float .f64 0] (ls + 9)) 22)) := fun v => by rw [wrap9 _ HL.out.2.2.2]; exact make_f13 ls HL.out.2.2.2 v
      have WR : Hid (IntKind.i64.wrap ((ls : Int) + 9) = (ls : Int) + 9) := wrap9 _ HL.out.2.2.2
      have lb1 : (ls : Int) ≤ 65536 := by have := HL.out; omega
      have AX0 : Abx V0 go 6 34 V0 := (Ab.refl V0).x rfl GO.out
      have lb2 : ((ls : Nat) : Int) ≤ ((ls + 9 : Nat) : Int) := by omega
      have lb3 : (ls : Int) ≤ (ls : Int) + 9 := by omega
      have lb4 : (0 : Int) ≤ (ls : Int) := by omega
      have AB0 := hid (Ab.refl V0)
      have GX := hid (lt_of_block GO.out)
      have KS : Hid (∀ w', Abx V0 go 6 34 w' → Abx V0 go 6 34 w' ∧ w'.cell? ⟨gs, 3, none⟩ = some (.slice ps ls cs) ∧ w'.frozen? ⟨go, 3, none⟩ = false ∧ w'.cell? ⟨go, 3, none⟩ = some (rv w' go 3)) := fun w' h => ⟨h, cell_of_row _ _ 3 _ _ _ (h.heap GSO.out GS.out), h.free 3, h.some (by decide)⟩
      have SR : Hid (∀ v, Abx V0 go 6 34 v → Src Tryd.prog 1 31 (.slice ps ls cs) ls ((List.range ls).map fun k => Value.float .f64 (Sp k)) v) := fun v h => src_fl (Hs.out.below (h.ab AV.out GOW.out)) _
      go_region_held3 (fun w' => Abx V0 go 6 34 w' ∧ w'.cell? ⟨gs, 3, none⟩ = some (.slice ps ls cs) ∧ w'.frozen? ⟨go, 3, none⟩ = false ∧ w'.cell? ⟨go, 3, none⟩ = some (rv w' go 3)) ((refine KS.out _ ?_; (with_reducible (repeat (first | assumption | apply Abx.drew | apply Abx.alloc | apply Abx.set))); done)) (first
        | (have r1 := R1.out; have q1 := HQ.out; refine step_app (by rfl) _ _ 31 (by rfl) 22 i0 Tryd.underlying31 IP.out.1 IP.out.2 _ ls (ls + 9) _ (by rfl) r1 _ 1 _ (by rfl) (src_oneF q1) (by omega) (ls + 1) rfl ?_; intro w5 r5 x5; have AX5 := Abx.far AX4 x5 (by omega) GX.out; have AB5 := hid (Abx.ab x5 AB4.out (by omega)); have R2 := hid r5; clear r5 x5; clear r1 q1)
        | (have r1 := R1.out; refine step_app (by rfl) _ _ 31 (by rfl) 22 i0 Tryd.underlying31 IP.out.1 IP.out.2 _ ls (ls + 9) _ (by rfl) (r1.alloc _) _ 1 _ (by rfl) (src_oneF (heap_alloc_new w4 _)) (by omega) (ls + 1) rfl ?_; intro w5 r5 x5; have AX5 := Abx.far (AX4.alloc _) x5 (by omega) GX.out; have AB5 := hid (Abx.ab x5 (AB4.out.alloc _) (by omega)); have R2 := hid r5; clear r5 x5; clear r1)
        | (refine step_app (by rfl) _ _ 31 (by rfl) 22 i0 Tryd.underlying31 IP.out.1 IP.out.2 (V0.heap.size + 1) 0 (ls + 9) (fun _ => .float .f64 0) (by rfl) (row_m3 V0 (.float .f64 0) (ls + 9) 22 (.cells #[.float .f64 4635118810238550016] 22)) (.slice ps ls cs) ls _ (by rfl) (SR.out _ ((AX0.drew.alloc (.cells #[.float .f64 4635118810238550016] 22)).alloc (.cells (madeCells #[.float .f64 0] (ls + 9)) 22))) (by omega) ls (by omega) ?_; intro w4 r4 x4; have AX4 := Abx.far ((AX0.drew.alloc (.cells #[.float .f64 4635118810238550016] 22)).alloc (.cells (madeCells #[.float .f64 0] (ls + 9)) 22)) x4 (by omega) GX.out; have AB4 := hid (Abx.ab x4 ((AB0.out.drew.alloc (.cells #[.float .f64 4635118810238550016] 22)).alloc (.cells (madeCells #[.float .f64 0] (ls + 9)) 22)) (by omega)); have R1 := hid r4; have HQ := hid (abx_other x4 (blk_m3 V0 _ (.cells #[.float .f64 4635118810238550016] 22)) (by omega)); clear r4 x4)
        | (refine step_app (by rfl) _ _ 31 (by rfl) 22 i0 Tryd.underlying31 IP.out.1 IP.out.2 V0.heap.size 0 (ls + 9) (fun _ => .float .f64 0) (by rfl) (row_m2 V0 (.float .f64 0) (ls + 9) 22 (.cells #[.float .f64 4635118810238550016] 22)) (.slice ps ls cs) ls _ (by rfl) (SR.out _ ((AX0.drew.alloc (.cells (madeCells #[.float .f64 0] (ls + 9)) 22)).alloc (.cells #[.float .f64 4635118810238550016] 22))) (by omega) ls (by omega) ?_; intro w4 r4 x4; have AX4 := Abx.far ((AX0.drew.alloc (.cells (madeCells #[.float .f64 0] (ls + 9)) 22)).alloc (.cells #[.float .f64 4635118810238550016] 22)) x4 (by omega) GX.out; have AB4 := hid (Abx.ab x4 ((AB0.out.drew.alloc (.cells (madeCells #[.float .f64 0] (ls + 9)) 22)).alloc (.cells #[.float .f64 4635118810238550016] 22)) (by omega)); have R1 := hid r4; have HQ := hid (abx_other x4 (blk_m2 V0 _ (.cells #[.float .f64 4635118810238550016] 22)) (by omega)); clear r4 x4)
        | (refine step_app (by rfl) _ _ 31 (by rfl) 22 i0 Tryd.underlying31 IP.out.1 IP.out.2 V0.heap.size 0 (ls + 9) (fun _ => .float .f64 0) (by rfl) (row_m1 V0 (.float .f64 0) (ls + 9) 22) (.slice ps ls cs) ls _ (by rfl) (SR.out _ (AX0.drew.alloc (.cells (madeCells #[.float .f64 0] (ls + 9)) 22))) (by omega) ls (by omega) ?_; intro w4 r4 x4; have AX4 := Abx.far (AX0.drew.alloc (.cells (madeCells #[.float .f64 0] (ls + 9)) 22)) x4 (by omega) GX.out; have AB4 := hid (Abx.ab x4 (AB0.out.drew.alloc (.cells (madeCells #[.float .f64 0] (ls + 9)) 22)) (by omega)); have R1 := hid r4; clear r4 x4))
      all_goals
        go_wp2_with fail
        go_meet
        exact ⟨_, by omega, AX5.set _ _, one_set (AB5.out.heap GO.out), (R2.out.setOther (Ne.symm (Nat.ne_of_lt (Nat.lt_of_lt_of_le GX.out (by omega)))) _).congr (fun j _ => mk_two _ _ _ _ _)⟩
    case rest =>
      rename World => V1
      obtain ⟨bs, h1, h2, h3, h4⟩ := hcut
      have LTs : Hid (V0.heap.size ≤ bs ∧ bs < V1.heap.size ∧ go < V0.heap.size) := ⟨h1, h4.lt, lt_of_block GO.out⟩
      have AV2 : Hid (Ab w V1) := h2.ab AV.out GOW.out
      have GS2 := hid (h2.heap GSO.out GS.out)
      have GR2 := hid (h2.heap GRO.out.1 GR.out)
      have Rs := hid h4
      have Qb := hid (rowIs_abx Rb.out h2 (by have := LTb.out; omega))
      clear AV GS GR GO Rb
      have Rb := Qb
      clear Qb
      have AV := AV2
      have GS := GS2
      have GR := GR2
      have GO := hid h3
      clear AV2 GS2 GR2 h1 h2 h3 h4
      go_upto_region 4 with fail
      go_cut [] from 35 to 49 (fun V2 => ∃ bw : Nat, V1.heap.size ≤ bw ∧ Abx V1 go 6 34 V2 ∧ V2.heap[go]? = some (.cells #[.slice (some ⟨bb, 0, none⟩) lb (lb + 9), .slice (some ⟨bw, 0, none⟩) lw (lw + 9), .slice pt lt ct, .slice (some ⟨bs, 0, none⟩) ls (ls + 9), .int .i64 sky, .int .i64 st] 34) ∧ V2.rowIs bw 2 (lw + 9) (mkF lw (fun k => .int .i64 (Wt k)) (.int .i64 77) (.int .i64 0)))
      case first =>
        obtain ⟨i0, hi0, hi1⟩ := info_i13
        have IP := hid (And.intro hi0 hi1)
        clear hi0 hi1
        have M1 : ∀ v : World, (Instr.makeSlice 32 (.int .i64 0) (.int .i64 (IntKind.i64.wrap ((lw : Int) + 9)))).run Tryd.prog v = .ok (.slice (some ⟨v.heap.size, 0, none⟩) 0 (lw + 9)) (v.alloc (.cells (madeCells #[.int .i64 0] (lw + 9)) 2)) := fun v => by rw [wrap9 _ HL.out.2.1]; exact make_i13 lw HL.out.2.1 v
        have WR : Hid (IntKind.i64.wrap ((lw : Int) + 9) = (lw : Int) + 9) := wrap9 _ HL.out.2.1
        have lb1 : (lw : Int) ≤ 65536 := by have := HL.out; omega
        have AX0 : Abx V1 go 6 34 V1 := (Ab.refl V1).x rfl GO.out
        have lb2 : ((lw : Nat) : Int) ≤ ((lw + 9 : Nat) : Int) := by omega
        have lb3 : (lw : Int) ≤ (lw : Int) + 9 := by omega
        have lb4 : (0 : Int) ≤ (lw : Int) := by omega
        have AB0 := hid (Ab.refl V1)
        have GX := hid (lt_of_block GO.out)
        have KS : Hid (∀ w', Abx V1 go 6 34 w' → Abx V1 go 6 34 w' ∧ w'.cell? ⟨gs, 1, none⟩ = some (.slice pw lw cw) ∧ w'.frozen? ⟨go, 1, none⟩ = false ∧ w'.cell? ⟨go, 1, none⟩ = some (rv w' go 1)) := fun w' h => ⟨h, cell_of_row _ _ 1 _ _ _ (h.heap GSO.out GS.out), h.free 1, h.some (by decide)⟩
        have SR : Hid (∀ v, Abx V1 go 6 34 v → Src Tryd.prog 1 32 (.slice pw lw cw) lw ((List.range lw).map fun k => Value.int .i64 (Wt k)) v) := fun v h => src_in (Hw.out.below (h.ab AV.out GOW.out)) _
        go_region_held3 (fun w' => Abx V1 go 6 34 w' ∧ w'.cell? ⟨gs, 1, none⟩ = some (.slice pw lw cw) ∧ w'.frozen? ⟨go, 1, none⟩ = false ∧ w'.cell? ⟨go, 1, none⟩ = some (rv w' go 1)) ((refine KS.out _ ?_; (with_reducible (repeat (first | assumption | apply Abx.drew | apply Abx.alloc | apply Abx.set))); done)) (first
          | (have r1 := R1.out; have q1 := HQ.out; refine step_app (by rfl) _ _ 32 (by rfl) 2 i0 Tryd.underlying32 IP.out.1 IP.out.2 _ lw (lw + 9) _ (by rfl) r1 _ 1 _ (by rfl) (src_oneI q1) (by omega) (lw + 1) rfl ?_; intro w5 r5 x5; have AX5 := Abx.far AX4 x5 (by omega) GX.out; have AB5 := hid (Abx.ab x5 AB4.out (by omega)); have R2 := hid r5; clear r5 x5; clear r1 q1)
          | (have r1 := R1.out; refine step_app (by rfl) _ _ 32 (by rfl) 2 i0 Tryd.underlying32 IP.out.1 IP.out.2 _ lw (lw + 9) _ (by rfl) (r1.alloc _) _ 1 _ (by rfl) (src_oneI (heap_alloc_new w4 _)) (by omega) (lw + 1) rfl ?_; intro w5 r5 x5; have AX5 := Abx.far (AX4.alloc _) x5 (by omega) GX.out; have AB5 := hid (Abx.ab x5 (AB4.out.alloc _) (by omega)); have R2 := hid r5; clear r5 x5; clear r1)
          | (refine step_app (by rfl) _ _ 32 (by rfl) 2 i0 Tryd.underlying32 IP.out.1 IP.out.2 (V1.heap.size + 1) 0 (lw + 9) (fun _ => .int .i64 0) (by rfl) (row_m3 V1 (.int .i64 0) (lw + 9) 2 (.cells #[.int .i64 77] 2)) (.slice pw lw cw) lw _ (by rfl) (SR.out _ ((AX0.drew.alloc (.cells #[.int .i64 77] 2)).alloc (.cells (madeCells #[.int .i64 0] (lw + 9)) 2))) (by omega) lw (by omega) ?_; intro w4 r4 x4; have AX4 := Abx.far ((AX0.drew.alloc (.cells #[.int .i64 77] 2)).alloc (.cells (madeCells #[.int .i64 0] (lw + 9)) 2)) x4 (by omega) GX.out; have AB4 := hid (Abx.ab x4 ((AB0.out.drew.alloc (.cells #[.int .i64 77] 2)).alloc (.cells (madeCells #[.int .i64 0] (lw + 9)) 2)) (by omega)); have R1 := hid r4; have HQ := hid (abx_other x4 (blk_m3 V1 _ (.cells #[.int .i64 77] 2)) (by omega)); clear r4 x4)
          | (refine step_app (by rfl) _ _ 32 (by rfl) 2 i0 Tryd.underlying32 IP.out.1 IP.out.2 V1.heap.size 0 (lw + 9) (fun _ => .int .i64 0) (by rfl) (row_m2 V1 (.int .i64 0) (lw + 9) 2 (.cells #[.int .i64 77] 2)) (.slice pw lw cw) lw _ (by rfl) (SR.out _ ((AX0.drew.alloc (.cells (madeCells #[.int .i64 0] (lw + 9)) 2)).alloc (.cells #[.int .i64 77] 2))) (by omega) lw (by omega) ?_; intro w4 r4 x4; have AX4 := Abx.far ((AX0.drew.alloc (.cells (madeCells #[.int .i64 0] (lw + 9)) 2)).alloc (.cells #[.int .i64 77] 2)) x4 (by omega) GX.out; have AB4 := hid (Abx.ab x4 ((AB0.out.drew.alloc (.cells (madeCells #[.int .i64 0] (lw + 9)) 2)).alloc (.cells #[.int .i64 77] 2)) (by omega)); have R1 := hid r4; have HQ := hid (abx_other x4 (blk_m2 V1 _ (.cells #[.int .i64 77] 2)) (by omega)); clear r4 x4)
          | (refine step_app (by rfl) _ _ 32 (by rfl) 2 i0 Tryd.underlying32 IP.out.1 IP.out.2 V1.heap.size 0 (lw + 9) (fun _ => .int .i64 0) (by rfl) (row_m1 V1 (.int .i64 0) (lw + 9) 2) (.slice pw lw cw) lw _ (by rfl) (SR.out _ (AX0.drew.alloc (.cells (madeCells #[.int .i64 0] (lw + 9)) 2))) (by omega) lw (by omega) ?_; intro w4 r4 x4; have AX4 := Abx.far (AX0.drew.alloc (.cells (madeCells #[.int .i64 0] (lw + 9)) 2)) x4 (by omega) GX.out; have AB4 := hid (Abx.ab x4 (AB0.out.drew.alloc (.cells (madeCells #[.int .i64 0] (lw + 9)) 2)) (by omega)); have R1 := hid r4; clear r4 x4))
        all_goals
          go_wp2_with fail
          go_meet
          exact ⟨_, by omega, AX5.set _ _, one_set (AB5.out.heap GO.out), (R2.out.setOther (Ne.symm (Nat.ne_of_lt (Nat.lt_of_lt_of_le GX.out (by omega)))) _).congr (fun j _ => mk_two _ _ _ _ _)⟩
      case rest =>
        rename World => V2
        obtain ⟨bw, h1, h2, h3, h4⟩ := hcut
        have LTw : Hid (V1.heap.size ≤ bw ∧ bw < V2.heap.size ∧ go < V1.heap.size) := ⟨h1, h4.lt, lt_of_block GO.out⟩
        have AV2 : Hid (Ab w V2) := h2.ab AV.out GOW.out
        have GS2 := hid (h2.heap GSO.out GS.out)
        have GR2 := hid (h2.heap GRO.out.1 GR.out)
        have Rw := hid h4
        have Qb := hid (rowIs_abx Rb.out h2 (by have := LTb.out; omega))
        have Qs := hid (rowIs_abx Rs.out h2 (by have := LTs.out; omega))
        clear AV GS GR GO Rb Rs
        have Rb := Qb
        clear Qb
        have Rs := Qs
        clear Qs
        have AV := AV2
        have GS := GS2
        have GR := GR2
        have GO := hid h3
        clear AV2 GS2 GR2 h1 h2 h3 h4
        go_upto_region 5 with fail
        go_cut [] from 50 to 64 (fun V3 => ∃ bt : Nat, V2.heap.size ≤ bt ∧ Abx V2 go 6 34 V3 ∧ V3.heap[go]? = some (.cells #[.slice (some ⟨bb, 0, none⟩) lb (lb + 9), .slice (some ⟨bw, 0, none⟩) lw (lw + 9), .slice (some ⟨bt, 0, none⟩) lt (lt + 9), .slice (some ⟨bs, 0, none⟩) ls (ls + 9), .int .i64 sky, .int .i64 st] 34) ∧ V3.rowIs bt 2 (lt + 9) (mkF lt (fun k => .int .i64 (Tr k)) (.int .i64 77) (.int .i64 0)))
        case first =>
          obtain ⟨i0, hi0, hi1⟩ := info_i13
          have IP := hid (And.intro hi0 hi1)
          clear hi0 hi1
          have M1 : ∀ v : World, (Instr.makeSlice 32 (.int .i64 0) (.int .i64 (IntKind.i64.wrap ((lt : Int) + 9)))).run Tryd.prog v = .ok (.slice (some ⟨v.heap.size, 0, none⟩) 0 (lt + 9)) (v.alloc (.cells (madeCells #[.int .i64 0] (lt + 9)) 2)) := fun v => by rw [wrap9 _ HL.out.2.2.1]; exact make_i13 lt HL.out.2.2.1 v
          have WR : Hid (IntKind.i64.wrap ((lt : Int) + 9) = (lt : Int) + 9) := wrap9 _ HL.out.2.2.1
          have lb1 : (lt : Int) ≤ 65536 := by have := HL.out; omega
          have AX0 : Abx V2 go 6 34 V2 := (Ab.refl V2).x rfl GO.out
          have lb2 : ((lt : Nat) : Int) ≤ ((lt + 9 : Nat) : Int) := by omega
          have lb3 : (lt : Int) ≤ (lt : Int) + 9 := by omega
          have lb4 : (0 : Int) ≤ (lt : Int) := by omega
          have AB0 := hid (Ab.refl V2)
          have GX := hid (lt_of_block GO.out)
          have KS : Hid (∀ w', Abx V2 go 6 34 w' → Abx V2 go 6 34 w' ∧ w'.cell? ⟨gs, 2, none⟩ = some (.slice pt lt ct) ∧ w'.frozen? ⟨go, 2, none⟩ = false ∧ w'.cell? ⟨go, 2, none⟩ = some (rv w' go 2)) := fun w' h => ⟨h, cell_of_row _ _ 2 _ _ _ (h.heap GSO.out GS.out), h.free 2, h.some (by decide)⟩
          have SR : Hid (∀ v, Abx V2 go 6 34 v → Src Tryd.prog 1 32 (.slice pt lt ct) lt ((List.range lt).map fun k => Value.int .i64 (Tr k)) v) := fun v h => src_in (Ht.out.below (h.ab AV.out GOW.out)) _
          go_region_held3 (fun w' => Abx V2 go 6 34 w' ∧ w'.cell? ⟨gs, 2, none⟩ = some (.slice pt lt ct) ∧ w'.frozen? ⟨go, 2, none⟩ = false ∧ w'.cell? ⟨go, 2, none⟩ = some (rv w' go 2)) ((refine KS.out _ ?_; (with_reducible (repeat (first | assumption | apply Abx.drew | apply Abx.alloc | apply Abx.set))); done)) (first
            | (have r1 := R1.out; have q1 := HQ.out; refine step_app (by rfl) _ _ 32 (by rfl) 2 i0 Tryd.underlying32 IP.out.1 IP.out.2 _ lt (lt + 9) _ (by rfl) r1 _ 1 _ (by rfl) (src_oneI q1) (by omega) (lt + 1) rfl ?_; intro w5 r5 x5; have AX5 := Abx.far AX4 x5 (by omega) GX.out; have AB5 := hid (Abx.ab x5 AB4.out (by omega)); have R2 := hid r5; clear r5 x5; clear r1 q1)
            | (have r1 := R1.out; refine step_app (by rfl) _ _ 32 (by rfl) 2 i0 Tryd.underlying32 IP.out.1 IP.out.2 _ lt (lt + 9) _ (by rfl) (r1.alloc _) _ 1 _ (by rfl) (src_oneI (heap_alloc_new w4 _)) (by omega) (lt + 1) rfl ?_; intro w5 r5 x5; have AX5 := Abx.far (AX4.alloc _) x5 (by omega) GX.out; have AB5 := hid (Abx.ab x5 (AB4.out.alloc _) (by omega)); have R2 := hid r5; clear r5 x5; clear r1)
            | (refine step_app (by rfl) _ _ 32 (by rfl) 2 i0 Tryd.underlying32 IP.out.1 IP.out.2 (V2.heap.size + 1) 0 (lt + 9) (fun _ => .int .i64 0) (by rfl) (row_m3 V2 (.int .i64 0) (lt + 9) 2 (.cells #[.int .i64 77] 2)) (.slice pt lt ct) lt _ (by rfl) (SR.out _ ((AX0.drew.alloc (.cells #[.int .i64 77] 2)).alloc (.cells (madeCells #[.int .i64 0] (lt + 9)) 2))) (by omega) lt (by omega) ?_; intro w4 r4 x4; have AX4 := Abx.far ((AX0.drew.alloc (.cells #[.int .i64 77] 2)).alloc (.cells (madeCells #[.int .i64 0] (lt + 9)) 2)) x4 (by omega) GX.out; have AB4 := hid (Abx.ab x4 ((AB0.out.drew.alloc (.cells #[.int .i64 77] 2)).alloc (.cells (madeCells #[.int .i64 0] (lt + 9)) 2)) (by omega)); have R1 := hid r4; have HQ := hid (abx_other x4 (blk_m3 V2 _ (.cells #[.int .i64 77] 2)) (by omega)); clear r4 x4)
            | (refine step_app (by rfl) _ _ 32 (by rfl) 2 i0 Tryd.underlying32 IP.out.1 IP.out.2 V2.heap.size 0 (lt + 9) (fun _ => .int .i64 0) (by rfl) (row_m2 V2 (.int .i64 0) (lt + 9) 2 (.cells #[.int .i64 77] 2)) (.slice pt lt ct) lt _ (by rfl) (SR.out _ ((AX0.drew.alloc (.cells (madeCells #[.int .i64 0] (lt + 9)) 2)).alloc (.cells #[.int .i64 77] 2))) (by omega) lt (by omega) ?_; intro w4 r4 x4; have AX4 := Abx.far ((AX0.drew.alloc (.cells (madeCells #[.int .i64 0] (lt + 9)) 2)).alloc (.cells #[.int .i64 77] 2)) x4 (by omega) GX.out; have AB4 := hid (Abx.ab x4 ((AB0.out.drew.alloc (.cells (madeCells #[.int .i64 0] (lt + 9)) 2)).alloc (.cells #[.int .i64 77] 2)) (by omega)); have R1 := hid r4; have HQ := hid (abx_other x4 (blk_m2 V2 _ (.cells #[.int .i64 77] 2)) (by omega)); clear r4 x4)
            | (refine step_app (by rfl) _ _ 32 (by rfl) 2 i0 Tryd.underlying32 IP.out.1 IP.out.2 V2.heap.size 0 (lt + 9) (fun _ => .int .i64 0) (by rfl) (row_m1 V2 (.int .i64 0) (lt + 9) 2) (.slice pt lt ct) lt _ (by rfl) (SR.out _ (AX0.drew.alloc (.cells (madeCells #[.int .i64 0] (lt + 9)) 2))) (by omega) lt (by omega) ?_; intro w4 r4 x4; have AX4 := Abx.far (AX0.drew.alloc (.cells (madeCells #[.int .i64 0] (lt + 9)) 2)) x4 (by omega) GX.out; have AB4 := hid (Abx.ab x4 (AB0.out.drew.alloc (.cells (madeCells #[.int .i64 0] (lt + 9)) 2)) (by omega)); have R1 := hid r4; clear r4 x4))
          all_goals
            go_wp2_with fail
            go_meet
            exact ⟨_, by omega, AX5.set _ _, one_set (AB5.out.heap GO.out), (R2.out.setOther (Ne.symm (Nat.ne_of_lt (Nat.lt_of_lt_of_le GX.out (by omega)))) _).congr (fun j _ => mk_two _ _ _ _ _)⟩
        case rest =>
          rename World => V3
          obtain ⟨bt, h1, h2, h3, h4⟩ := hcut
          have LTt : Hid (V2.heap.size ≤ bt ∧ bt < V3.heap.size ∧ go < V2.heap.size) := ⟨h1, h4.lt, lt_of_block GO.out⟩
          have AV2 : Hid (Ab w V3) := h2.ab AV.out GOW.out
          have GS2 := hid (h2.heap GSO.out GS.out)
          have GR2 := hid (h2.heap GRO.out.1 GR.out)
          have Rt := hid h4
          have Qb := hid (rowIs_abx Rb.out h2 (by have := LTb.out; omega))
          have Qs := hid (rowIs_abx Rs.out h2 (by have := LTs.out; omega))
          have Qw := hid (rowIs_abx Rw.out h2 (by have := LTw.out; omega))
          clear AV GS GR GO Rb Rs Rw
          have Rb := Qb
          clear Qb
          have Rs := Qs
          clear Qs
          have Rw := Qw
          clear Qw
          have AV := AV2
          have GS := GS2
          have GR := GR2
          have GO := hid h3
          clear AV2 GS2 GR2 h1 h2 h3 h4
          have o0 := cell_of_row _ _ 0 _ _ _ GO.out
          have r0 := cell_of_row _ _ 0 _ _ _ GR.out
          have f0 := free_row GR.out 0
          have o1 := cell_of_row _ _ 1 _ _ _ GO.out
          have r1 := cell_of_row _ _ 1 _ _ _ GR.out
          have f1 := free_row GR.out 1
          have o2 := cell_of_row _ _ 2 _ _ _ GO.out
          have r2 := cell_of_row _ _ 2 _ _ _ GR.out
          have f2 := free_row GR.out 2
          have o3 := cell_of_row _ _ 3 _ _ _ GO.out
          have r3 := cell_of_row _ _ 3 _ _ _ GR.out
          have f3 := free_row GR.out 3
          have o4 := cell_of_row _ _ 4 _ _ _ GO.out
          have r4 := cell_of_row _ _ 4 _ _ _ GR.out
          have f4 := free_row GR.out 4
          have o5 := cell_of_row _ _ 5 _ _ _ GO.out
          have r5 := cell_of_row _ _ 5 _ _ _ GR.out
          have f5 := free_row GR.out 5
          have ROW := hid (row6 (x := .slice (some ⟨bb, 0, none⟩) lb (lb + 9)) (y := .slice (some ⟨bw, 0, none⟩) lw (lw + 9)) (z := .slice (some ⟨bt, 0, none⟩) lt (lt + 9)) (p := .slice (some ⟨bs, 0, none⟩) ls (ls + 9)) (q := .int .i64 sky) (r := .int .i64 st) GR.out)
          go_wp2
          have LL : Hid (w.heap.size ≤ bb ∧ gr < bb ∧ bb < bs ∧ bs < bw ∧ bw < bt) := by
            have h1 := LTb.out
            have h2 := LTs.out
            have h3 := LTw.out
            have h4 := LTt.out
            have h5 := GRW.out
            exact ⟨by omega, by omega, by omega, by omega, by omega⟩
          have NB : Hid (bb ≠ gr ∧ bw ≠ gr ∧ bt ≠ gr ∧ bs ≠ gr) := by
            have := LL.out
            exact ⟨by omega, by omega, by omega, by omega⟩
          refine bodyPost_ret ?_ rfl ⟨bb, bw, bt, bs, rfl, ?_, ?_, ?_, ?_, ?_, ?_⟩
          · exact results_cell_row Tryd.results15 _ _ gr _ _ (0, 0) _ rfl ROW.out Tryd.underlying34 rfl (by kernel_rfl)
          · exact (((((AV.out.setk GRW.out.1 _).setk GRW.out.1 _).setk GRW.out.1 _).setk GRW.out.1 _).setk GRW.out.1 _).setk GRW.out.1 _
          · exact (((((Rb.out.setOther NB.out.1 _).setOther NB.out.1 _).setOther NB.out.1 _).setOther NB.out.1 _).setOther NB.out.1 _).setOther NB.out.1 _
          · exact (((((Rw.out.setOther NB.out.2.1 _).setOther NB.out.2.1 _).setOther NB.out.2.1 _).setOther NB.out.2.1 _).setOther NB.out.2.1 _).setOther NB.out.2.1 _
          · exact (((((Rt.out.setOther NB.out.2.2.1 _).setOther NB.out.2.2.1 _).setOther NB.out.2.2.1 _).setOther NB.out.2.2.1 _).setOther NB.out.2.2.1 _).setOther NB.out.2.2.1 _
          · exact (((((Rs.out.setOther NB.out.2.2.2 _).setOther NB.out.2.2.2 _).setOther NB.out.2.2.2 _).setOther NB.out.2.2.2 _).setOther NB.out.2.2.2 _).setOther NB.out.2.2.2 _
          · have := LL.out
            exact ⟨by omega, by omega, by omega, by omega, by omega, by omega, by omega, by omega, by omega, by omega⟩
end Go.Proofs.YtbdjbhdbegiipaaDoor
