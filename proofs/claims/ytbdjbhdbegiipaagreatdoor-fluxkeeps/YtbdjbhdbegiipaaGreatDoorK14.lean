/-
  Some of the texts of this proof, one behind the other.
-/
import Derived.Deep.QuietTactic
import Derived.Test.YtbdjbhdbegiipaaGreatDoorK13
namespace Go.Proofs.YtbdjbhdbegiipaaGreatDoor
open Go.RowKit Tf Cu
attribute [local go_sem] run_bits run_from raw_feq raw_fne raw_flt raw_fgt run_neg run_store_float
set_option maxRecDepth 100000 in
set_option maxHeartbeats 8000000 in
theorem fk13_side (side : Int) (sd : Int) (dt gr dr : Nat) (lim : Int) (rv : Bool) (pr : Option Addr) (lr cr : Nat) {pb pw pt ps : Option Addr} {lb cb lw cw lt ct ls cs : Nat} (sky st : Int) (w : World) (LV : Hid (∀ v, Ab w v → Calls Tryz.prog 4 #[] v fun e w' => e = .returned (.bool true) ∧ Below v.heap.size v w'))
    (hside : ¬ (1 ≤ side ∧ side ≤ 32)) :
    Calls Tryz.prog 3 #[.int .i64 side, .agg #[.int .i64 sd, .float .f64 dt, .float .f64 gr, .float .f64 dr, .int .i64 lim, .bool rv, .slice pr lr cr], .agg #[.slice pb lb cb, .slice pw lw cw, .slice pt lt ct, .slice ps ls cs, .int .i64 sky, .int .i64 st]] w fun e w' => e = .returned (.bool true) ∧ Below w.heap.size w w' := by
  have A0 : Hid (Ab w ((w.alloc (.cells #[.int .i64 sd, .float .f64 dt, .float .f64 gr, .float .f64 dr, .int .i64 lim, .bool rv, .slice pr lr cr] 25)).alloc (.cells #[.slice pb lb cb, .slice pw lw cw, .slice pt lt ct, .slice ps ls cs, .int .i64 sky, .int .i64 st] 29))) := bl2 _ _ _
  have RP : Hid (((w.alloc (.cells #[.int .i64 sd, .float .f64 dt, .float .f64 gr, .float .f64 dr, .int .i64 lim, .bool rv, .slice pr lr cr] 25)).alloc (.cells #[.slice pb lb cb, .slice pw lw cw, .slice pt lt ct, .slice ps ls cs, .int .i64 sky, .int .i64 st] 29)).heap[w.heap.size]? = some (.cells #[.int .i64 sd, .float .f64 dt, .float .f64 gr, .float .f64 dr, .int .i64 lim, .bool rv, .slice pr lr cr] 25)) := heap_alloc2_old _ _ _
  have RO : Hid (((w.alloc (.cells #[.int .i64 sd, .float .f64 dt, .float .f64 gr, .float .f64 dr, .int .i64 lim, .bool rv, .slice pr lr cr] 25)).alloc (.cells #[.slice pb lb cb, .slice pw lw cw, .slice pt lt ct, .slice ps ls cs, .int .i64 sky, .int .i64 st] 29)).heap[w.heap.size + 1]? = some (.cells #[.slice pb lb cb, .slice pw lw cw, .slice pt lt ct, .slice ps ls cs, .int .i64 sky, .int .i64 st] 29)) := heap_alloc2_new _ _ _
  go_enter Tryz.func3, Tryz.ntmps3
  go_upto_region 1 with fail
  generalize hW : World.alloc (World.alloc w _) _ = W at *
  obtain ⟨gp, hgp⟩ : ∃ g, w.heap.size = g := ⟨_, rfl⟩
  obtain ⟨gs, hgs⟩ : ∃ g, w.heap.size + 1 = g := ⟨_, rfl⟩
  rw [hgp] at RP
  rw [hgs] at RO
  rw [hgs, hgp]
  have GW : Hid (w.heap.size ≤ gp ∧ w.heap.size ≤ gs) := ⟨by omega, by omega⟩
  clear hgs hgp hW
  go_wp2_with fail
  refine (LV.out _ A0.out).mono ?_
  rintro e9 v1 ⟨rfl, b1⟩
  have A1 : Hid (Ab W v1) := b1
  clear b1
  go_wp2_with fail
  refine (new_no side v1 hside).mono ?_
  rintro e9 v2 ⟨rfl, rfl⟩
  
  go_wp2
  go_ret
  exact ⟨rfl, A0.out.trans A1.out⟩
set_option maxRecDepth 100000 in
set_option maxHeartbeats 8000000 in
theorem fk13_long (n : Nat) (sd : Int) (dt gr dr : Nat) (lim : Int) (rv : Bool) (pr : Option Addr) (lr cr : Nat) {pb pw pt ps : Option Addr} {lb cb lw cw lt ct ls cs : Nat} (sky st : Int) (w : World) (LV : Hid (∀ v, Ab w v → Calls Tryz.prog 4 #[] v fun e w' => e = .returned (.bool true) ∧ Below v.heap.size v w')) (HN : Hid (1 ≤ n ∧ n ≤ 32)) (HF : Hid (Fr w))
    (hlong : 65536 < lb ∨ 65536 < lw ∨ 65536 < lt ∨ 65536 < ls) :
    Calls Tryz.prog 3 #[.int .i64 (n : Nat), .agg #[.int .i64 sd, .float .f64 dt, .float .f64 gr, .float .f64 dr, .int .i64 lim, .bool rv, .slice pr lr cr], .agg #[.slice pb lb cb, .slice pw lw cw, .slice pt lt ct, .slice ps ls cs, .int .i64 sky, .int .i64 st]] w fun e w' => e = .returned (.bool true) ∧ Below w.heap.size w w' := by
  have LG : Hid (∀ v, Calls Tryz.prog 6 #[.agg #[.slice pb lb cb, .slice pw lw cw, .slice pt lt ct, .slice ps ls cs, .int .i64 sky, .int .i64 st]] v fun e w' => e = .returned (.bool true) ∧ Below v.heap.size v w') := fun v => (long13_at pb pw pt ps lb cb lw cw lt ct ls cs sky st v).mono fun _ _ h => ⟨by rw [h.1, decide_eq_true hlong], h.2⟩
  clear hlong
  have A0 : Hid (Ab w ((w.alloc (.cells #[.int .i64 sd, .float .f64 dt, .float .f64 gr, .float .f64 dr, .int .i64 lim, .bool rv, .slice pr lr cr] 25)).alloc (.cells #[.slice pb lb cb, .slice pw lw cw, .slice pt lt ct, .slice ps ls cs, .int .i64 sky, .int .i64 st] 29))) := bl2 _ _ _
  have RP : Hid (((w.alloc (.cells #[.int .i64 sd, .float .f64 dt, .float .f64 gr, .float .f64 dr, .int .i64 lim, .bool rv, .slice pr lr cr] 25)).alloc (.cells #[.slice pb lb cb, .slice pw lw cw, .slice pt lt ct, .slice ps ls cs, .int .i64 sky, .int .i64 st] 29)).heap[w.heap.size]? = some (.cells #[.int .i64 sd, .float .f64 dt, .float .f64 gr, .float .f64 dr, .int .i64 lim, .bool rv, .slice pr lr cr] 25)) := heap_alloc2_old _ _ _
  have RO : Hid (((w.alloc (.cells #[.int .i64 sd, .float .f64 dt, .float .f64 gr, .float .f64 dr, .int .i64 lim, .bool rv, .slice pr lr cr] 25)).alloc (.cells #[.slice pb lb cb, .slice pw lw cw, .slice pt lt ct, .slice ps ls cs, .int .i64 sky, .int .i64 st] 29)).heap[w.heap.size + 1]? = some (.cells #[.slice pb lb cb, .slice pw lw cw, .slice pt lt ct, .slice ps ls cs, .int .i64 sky, .int .i64 st] 29)) := heap_alloc2_new _ _ _
  go_enter Tryz.func3, Tryz.ntmps3
  go_upto_region 1 with fail
  generalize hW : World.alloc (World.alloc w _) _ = W at *
  obtain ⟨gp, hgp⟩ : ∃ g, w.heap.size = g := ⟨_, rfl⟩
  obtain ⟨gs, hgs⟩ : ∃ g, w.heap.size + 1 = g := ⟨_, rfl⟩
  rw [hgp] at RP
  rw [hgs] at RO
  rw [hgs, hgp]
  have GW : Hid (w.heap.size ≤ gp ∧ w.heap.size ≤ gs) := ⟨by omega, by omega⟩
  clear hgs hgp hW
  go_wp2_with fail
  refine (LV.out _ A0.out).mono ?_
  rintro e9 v1 ⟨rfl, b1⟩
  have A1 : Hid (Ab W v1) := b1
  clear b1
  go_wp2_with fail
  refine (new_at n v1 HN.out (HF.out.to (A0.out.trans A1.out))).mono ?_
  rintro e9 v2 ⟨gb, rfl, a2, -, g2⟩
  have A2 : Hid (Ab W v2) := A1.out.trans a2
  have G2 : Hid (GridOf n gb v2) := g2
  clear a2 g2 A1
  have s0 := cell_of_row _ _ 0 _ _ _ (A2.out.heap RO.out)
  have s1 := cell_of_row _ _ 1 _ _ _ (A2.out.heap RO.out)
  have s2 := cell_of_row _ _ 2 _ _ _ (A2.out.heap RO.out)
  have s3 := cell_of_row _ _ 3 _ _ _ (A2.out.heap RO.out)
  have s4 := cell_of_row _ _ 4 _ _ _ (A2.out.heap RO.out)
  have s5 := cell_of_row _ _ 5 _ _ _ (A2.out.heap RO.out)
  go_wp2_with fail
  refine (LG.out v2).mono ?_
  rintro e9 v3 ⟨rfl, b3⟩
  have A3 : Hid (Ab W v3) := A2.out.trans b3
  have G3 : Hid (GridOf n gb v3) := G2.out.to b3
  clear b3 A2 G2 s0 s1 s2 s3 s4 s5
  go_wp2
  go_ret
  exact ⟨rfl, A0.out.trans A3.out⟩
set_option maxRecDepth 100000 in
set_option maxHeartbeats 16000000 in
theorem fk13_no (n : Nat) (sd : Int) (dt gr dr : Nat) (lim : Int) (rv : Bool) (pr : Option Addr) (lr cr : Nat) {pb pw pt ps : Option Addr} {lb cb lw cw lt ct ls cs : Nat} {B : Nat → Nat} {Wt Tr : Nat → Int} {Sp : Nat → Nat} (sky st : Int) (w : World)
    (LV : Hid (∀ v, Ab w v → Calls Tryz.prog 4 #[] v fun e w' => e = .returned (.bool true) ∧ Below v.heap.size v w')) (HN : Hid (1 ≤ n ∧ n ≤ 32)) (HF : Hid (Fr w))
    (LG : Hid (∀ v, Calls Tryz.prog 6 #[.agg #[.slice pb lb cb, .slice pw lw cw, .slice pt lt ct, .slice ps ls cs, .int .i64 sky, .int .i64 st]] v fun e w' => e = .returned (.bool false) ∧ Below v.heap.size v w'))
    (HAM : Hid (∀ (gb : Nat) (pb : Option Addr) (cb : Nat) (B : Nat → Nat) (pw : Option Addr) (cw : Nat) (Wt : Nat → Int) (pt : Option Addr) (ct : Nat) (ps : Option Addr) (cs : Nat) (Sp : Nat → Nat) (v : World), GridOf n gb v → IsFl v pb lb B → IsIn v pw lw Wt → IsFl v ps ls Sp → Calls Tryz.prog 8 #[.pointer (some ⟨gb, 0, none⟩), .agg #[.int .i64 sd, .float .f64 dt, .float .f64 gr, .float .f64 dr, .int .i64 lim, .bool rv, .slice pr lr cr], .agg #[.slice pb lb cb, .slice pw lw cw, .slice pt lt ct, .slice ps ls cs, .int .i64 sky, .int .i64 st]] v fun e w' => e = .returned (.tuple #[.slice none 0 0, .int .i64 1]) ∧ Below v.heap.size v w'))
    (HA3 : Hid (∀ (gb : Nat) (v : World), Ab w v → GridOf n gb v → Calls Tryz.prog 8 #[.pointer (some ⟨gb, 0, none⟩), .agg #[.int .i64 sd, .float .f64 dt, .float .f64 gr, .float .f64 dr, .int .i64 lim, .bool rv, .slice pr lr cr], .agg #[.slice pb lb cb, .slice pw lw cw, .slice pt lt ct, .slice ps ls cs, .int .i64 sky, .int .i64 st]] v fun e w' => e = .returned (.tuple #[.slice none 0 0, .int .i64 1]) ∧ Below v.heap.size v w'))
    (HB : Hid (IsFl w pb lb B)) (HW : Hid (IsIn w pw lw Wt)) (HT : Hid (IsIn w pt lt Tr)) (HS : Hid (IsFl w ps ls Sp))
    (HL : Hid (lb ≤ 65536 ∧ lw ≤ 65536 ∧ lt ≤ 65536 ∧ ls ≤ 65536)) :
    Calls Tryz.prog 3 #[.int .i64 (n : Nat), .agg #[.int .i64 sd, .float .f64 dt, .float .f64 gr, .float .f64 dr, .int .i64 lim, .bool rv, .slice pr lr cr], .agg #[.slice pb lb cb, .slice pw lw cw, .slice pt lt ct, .slice ps ls cs, .int .i64 sky, .int .i64 st]] w fun e w' => e = .returned (.bool true) ∧ Below w.heap.size w w' := by
  have A0 : Hid (Ab w ((w.alloc (.cells #[.int .i64 sd, .float .f64 dt, .float .f64 gr, .float .f64 dr, .int .i64 lim, .bool rv, .slice pr lr cr] 25)).alloc (.cells #[.slice pb lb cb, .slice pw lw cw, .slice pt lt ct, .slice ps ls cs, .int .i64 sky, .int .i64 st] 29))) := bl2 _ _ _
  have RP : Hid (((w.alloc (.cells #[.int .i64 sd, .float .f64 dt, .float .f64 gr, .float .f64 dr, .int .i64 lim, .bool rv, .slice pr lr cr] 25)).alloc (.cells #[.slice pb lb cb, .slice pw lw cw, .slice pt lt ct, .slice ps ls cs, .int .i64 sky, .int .i64 st] 29)).heap[w.heap.size]? = some (.cells #[.int .i64 sd, .float .f64 dt, .float .f64 gr, .float .f64 dr, .int .i64 lim, .bool rv, .slice pr lr cr] 25)) := heap_alloc2_old _ _ _
  have RO : Hid (((w.alloc (.cells #[.int .i64 sd, .float .f64 dt, .float .f64 gr, .float .f64 dr, .int .i64 lim, .bool rv, .slice pr lr cr] 25)).alloc (.cells #[.slice pb lb cb, .slice pw lw cw, .slice pt lt ct, .slice ps ls cs, .int .i64 sky, .int .i64 st] 29)).heap[w.heap.size + 1]? = some (.cells #[.slice pb lb cb, .slice pw lw cw, .slice pt lt ct, .slice ps ls cs, .int .i64 sky, .int .i64 st] 29)) := heap_alloc2_new _ _ _
  go_enter Tryz.func3, Tryz.ntmps3
  go_upto_region 1 with fail
  generalize hW : World.alloc (World.alloc w _) _ = W at *
  obtain ⟨gp, hgp⟩ : ∃ g, w.heap.size = g := ⟨_, rfl⟩
  obtain ⟨gs, hgs⟩ : ∃ g, w.heap.size + 1 = g := ⟨_, rfl⟩
  rw [hgp] at RP
  rw [hgs] at RO
  rw [hgs, hgp]
  have GW : Hid (w.heap.size ≤ gp ∧ w.heap.size ≤ gs) := ⟨by omega, by omega⟩
  clear hgs hgp hW
  go_wp2_with fail
  refine (LV.out _ A0.out).mono ?_
  rintro e9 v1 ⟨rfl, b1⟩
  have A1 : Hid (Ab W v1) := b1
  clear b1
  go_wp2_with fail
  refine (new_at n v1 HN.out (HF.out.to (A0.out.trans A1.out))).mono ?_
  rintro e9 v2 ⟨gb, rfl, a2, -, g2⟩
  have A2 : Hid (Ab W v2) := A1.out.trans a2
  have G2 : Hid (GridOf n gb v2) := g2
  clear a2 g2 A1
  have s0 := cell_of_row _ _ 0 _ _ _ (A2.out.heap RO.out)
  have s1 := cell_of_row _ _ 1 _ _ _ (A2.out.heap RO.out)
  have s2 := cell_of_row _ _ 2 _ _ _ (A2.out.heap RO.out)
  have s3 := cell_of_row _ _ 3 _ _ _ (A2.out.heap RO.out)
  have s4 := cell_of_row _ _ 4 _ _ _ (A2.out.heap RO.out)
  have s5 := cell_of_row _ _ 5 _ _ _ (A2.out.heap RO.out)
  go_wp2_with fail
  refine (LG.out v2).mono ?_
  rintro e9 v3 ⟨rfl, b3⟩
  have A3 : Hid (Ab W v3) := A2.out.trans b3
  have G3 : Hid (GridOf n gb v3) := G2.out.to b3
  clear b3 A2 G2 s0 s1 s2 s3 s4 s5
  have CP := hid (copied13_at pb pw pt ps lb cb lw cw lt ct ls cs B Wt Tr Sp sky st v3 (HB.out.below (A0.out.trans A3.out)) (HW.out.below (A0.out.trans A3.out)) (HT.out.below (A0.out.trans A3.out)) (HS.out.below (A0.out.trans A3.out)) (by have := HL.out; omega))
  have s0 := cell_of_row _ _ 0 _ _ _ (A3.out.heap RO.out)
  have s1 := cell_of_row _ _ 1 _ _ _ (A3.out.heap RO.out)
  have s2 := cell_of_row _ _ 2 _ _ _ (A3.out.heap RO.out)
  have s3 := cell_of_row _ _ 3 _ _ _ (A3.out.heap RO.out)
  have s4 := cell_of_row _ _ 4 _ _ _ (A3.out.heap RO.out)
  have s5 := cell_of_row _ _ 5 _ _ _ (A3.out.heap RO.out)
  go_wp2_with fail
  refine CP.out.mono ?_
  rintro e9 v4 ⟨bb, bw, bt, bs, rfl, b4, rb, rw_, rt, rs, -⟩
  have AV : Hid (Ab v3 (v4.alloc (.cells #[.slice (some ⟨bb, 0, none⟩) lb (lb + 9), .slice (some ⟨bw, 0, none⟩) lw (lw + 9), .slice (some ⟨bt, 0, none⟩) lt (lt + 9), .slice (some ⟨bs, 0, none⟩) ls (ls + 9), .int .i64 sky, .int .i64 st] 29))) := Ab.alloc (show Ab v3 v4 from b4) _
  have GT : Hid ((v4.alloc (.cells #[.slice (some ⟨bb, 0, none⟩) lb (lb + 9), .slice (some ⟨bw, 0, none⟩) lw (lw + 9), .slice (some ⟨bt, 0, none⟩) lt (lt + 9), .slice (some ⟨bs, 0, none⟩) ls (ls + 9), .int .i64 sky, .int .i64 st] 29)).heap[v4.heap.size]? = some (.cells #[.slice (some ⟨bb, 0, none⟩) lb (lb + 9), .slice (some ⟨bw, 0, none⟩) lw (lw + 9), .slice (some ⟨bt, 0, none⟩) lt (lt + 9), .slice (some ⟨bs, 0, none⟩) ls (ls + 9), .int .i64 sky, .int .i64 st] 29)) := heap_alloc_new _ _
  have RB := hid (rb.alloc (.cells #[.slice (some ⟨bb, 0, none⟩) lb (lb + 9), .slice (some ⟨bw, 0, none⟩) lw (lw + 9), .slice (some ⟨bt, 0, none⟩) lt (lt + 9), .slice (some ⟨bs, 0, none⟩) ls (ls + 9), .int .i64 sky, .int .i64 st] 29))
  have RW := hid (rw_.alloc (.cells #[.slice (some ⟨bb, 0, none⟩) lb (lb + 9), .slice (some ⟨bw, 0, none⟩) lw (lw + 9), .slice (some ⟨bt, 0, none⟩) lt (lt + 9), .slice (some ⟨bs, 0, none⟩) ls (ls + 9), .int .i64 sky, .int .i64 st] 29))
  have RT := hid (rt.alloc (.cells #[.slice (some ⟨bb, 0, none⟩) lb (lb + 9), .slice (some ⟨bw, 0, none⟩) lw (lw + 9), .slice (some ⟨bt, 0, none⟩) lt (lt + 9), .slice (some ⟨bs, 0, none⟩) ls (ls + 9), .int .i64 sky, .int .i64 st] 29))
  have RS := hid (rs.alloc (.cells #[.slice (some ⟨bb, 0, none⟩) lb (lb + 9), .slice (some ⟨bw, 0, none⟩) lw (lw + 9), .slice (some ⟨bt, 0, none⟩) lt (lt + 9), .slice (some ⟨bs, 0, none⟩) ls (ls + 9), .int .i64 sky, .int .i64 st] 29))
  clear b4 rb rw_ rt rs CP s0 s1 s2 s3 s4 s5
  go_upto_region 7 with fail
  generalize hV : World.alloc v4 _ = V4 at *
  obtain ⟨gt, hgt⟩ : ∃ g, v4.heap.size = g := ⟨_, rfl⟩
  rw [hgt] at GT
  rw [hgt]
  clear hgt hV
  have p0 := cell_of_row _ _ 0 _ _ _ ((A3.out.trans (AV.out.trans (Ab.refl V4))).heap RP.out)
  have p1 := cell_of_row _ _ 1 _ _ _ ((A3.out.trans (AV.out.trans (Ab.refl V4))).heap RP.out)
  have p2 := cell_of_row _ _ 2 _ _ _ ((A3.out.trans (AV.out.trans (Ab.refl V4))).heap RP.out)
  have p3 := cell_of_row _ _ 3 _ _ _ ((A3.out.trans (AV.out.trans (Ab.refl V4))).heap RP.out)
  have p4 := cell_of_row _ _ 4 _ _ _ ((A3.out.trans (AV.out.trans (Ab.refl V4))).heap RP.out)
  have p5 := cell_of_row _ _ 5 _ _ _ ((A3.out.trans (AV.out.trans (Ab.refl V4))).heap RP.out)
  have p6 := cell_of_row _ _ 6 _ _ _ ((A3.out.trans (AV.out.trans (Ab.refl V4))).heap RP.out)
  have t0 := cell_of_row _ _ 0 _ _ _ ((Ab.refl V4).heap GT.out)
  have t1 := cell_of_row _ _ 1 _ _ _ ((Ab.refl V4).heap GT.out)
  have t2 := cell_of_row _ _ 2 _ _ _ ((Ab.refl V4).heap GT.out)
  have t3 := cell_of_row _ _ 3 _ _ _ ((Ab.refl V4).heap GT.out)
  have t4 := cell_of_row _ _ 4 _ _ _ ((Ab.refl V4).heap GT.out)
  have t5 := cell_of_row _ _ 5 _ _ _ ((Ab.refl V4).heap GT.out)
  go_wp2_with fail
  refine (HAM.out gb (some ⟨bb, 0, none⟩) (lb + 9) B (some ⟨bw, 0, none⟩) (lw + 9) Wt (some ⟨bt, 0, none⟩) (lt + 9) (some ⟨bs, 0, none⟩) (ls + 9) Sp V4 (G3.out.to (AV.out.trans (Ab.refl V4))) (mk_fl (rowIs.ab RB.out (Ab.refl V4)) (fun k hk => (HB.out k hk).1)) (mk_in (rowIs.ab RW.out (Ab.refl V4)) (fun k hk => (HW.out k hk).1)) (mk_fl (rowIs.ab RS.out (Ab.refl V4)) (fun k hk => (HS.out k hk).1))).mono ?_
  rintro e9 v5 ⟨rfl, b5⟩
  have A_v5 : Hid (Ab V4 v5) := ((Ab.refl V4)).trans b5
  clear b5 p0 p1 p2 p3 p4 p5 p6 t0 t1 t2 t3 t4 t5
  have p0 := cell_of_row _ _ 0 _ _ _ ((A3.out.trans (AV.out.trans A_v5.out)).heap RP.out)
  have p1 := cell_of_row _ _ 1 _ _ _ ((A3.out.trans (AV.out.trans A_v5.out)).heap RP.out)
  have p2 := cell_of_row _ _ 2 _ _ _ ((A3.out.trans (AV.out.trans A_v5.out)).heap RP.out)
  have p3 := cell_of_row _ _ 3 _ _ _ ((A3.out.trans (AV.out.trans A_v5.out)).heap RP.out)
  have p4 := cell_of_row _ _ 4 _ _ _ ((A3.out.trans (AV.out.trans A_v5.out)).heap RP.out)
  have p5 := cell_of_row _ _ 5 _ _ _ ((A3.out.trans (AV.out.trans A_v5.out)).heap RP.out)
  have p6 := cell_of_row _ _ 6 _ _ _ ((A3.out.trans (AV.out.trans A_v5.out)).heap RP.out)
  have t0 := cell_of_row _ _ 0 _ _ _ (A_v5.out.heap GT.out)
  have t1 := cell_of_row _ _ 1 _ _ _ (A_v5.out.heap GT.out)
  have t2 := cell_of_row _ _ 2 _ _ _ (A_v5.out.heap GT.out)
  have t3 := cell_of_row _ _ 3 _ _ _ (A_v5.out.heap GT.out)
  have t4 := cell_of_row _ _ 4 _ _ _ (A_v5.out.heap GT.out)
  have t5 := cell_of_row _ _ 5 _ _ _ (A_v5.out.heap GT.out)
  go_wp2_with fail
  refine (HAM.out gb (some ⟨bb, 0, none⟩) (lb + 9) B (some ⟨bw, 0, none⟩) (lw + 9) Wt (some ⟨bt, 0, none⟩) (lt + 9) (some ⟨bs, 0, none⟩) (ls + 9) Sp v5 (G3.out.to (AV.out.trans A_v5.out)) (mk_fl (rowIs.ab RB.out A_v5.out) (fun k hk => (HB.out k hk).1)) (mk_in (rowIs.ab RW.out A_v5.out) (fun k hk => (HW.out k hk).1)) (mk_fl (rowIs.ab RS.out A_v5.out) (fun k hk => (HS.out k hk).1))).mono ?_
  rintro e9 v6 ⟨rfl, b5⟩
  have A56 : Hid (Ab v5 v6) := b5
  have A_v6 : Hid (Ab V4 v6) := (A_v5.out).trans b5
  clear b5 p0 p1 p2 p3 p4 p5 p6 t0 t1 t2 t3 t4 t5
  have ee : (((1 : Int)) != 1) = false := by decide
  have t0 := cell_of_row _ _ 0 _ _ _ (A_v6.out.heap GT.out)
  have t1 := cell_of_row _ _ 1 _ _ _ (A_v6.out.heap GT.out)
  have t2 := cell_of_row _ _ 2 _ _ _ (A_v6.out.heap GT.out)
  have t3 := cell_of_row _ _ 3 _ _ _ (A_v6.out.heap GT.out)
  have t4 := cell_of_row _ _ 4 _ _ _ (A_v6.out.heap GT.out)
  have t5 := cell_of_row _ _ 5 _ _ _ (A_v6.out.heap GT.out)
  have s0 := cell_of_row _ _ 0 _ _ _ ((A3.out.trans (AV.out.trans A_v6.out)).heap RO.out)
  have s1 := cell_of_row _ _ 1 _ _ _ ((A3.out.trans (AV.out.trans A_v6.out)).heap RO.out)
  have s2 := cell_of_row _ _ 2 _ _ _ ((A3.out.trans (AV.out.trans A_v6.out)).heap RO.out)
  have s3 := cell_of_row _ _ 3 _ _ _ ((A3.out.trans (AV.out.trans A_v6.out)).heap RO.out)
  have s4 := cell_of_row _ _ 4 _ _ _ ((A3.out.trans (AV.out.trans A_v6.out)).heap RO.out)
  have s5 := cell_of_row _ _ 5 _ _ _ ((A3.out.trans (AV.out.trans A_v6.out)).heap RO.out)
  go_wp2_with fail
  refine (ints13_at none none 0 0 0 (fun _ => 0) v6 (by omega) (fun k hk => absurd hk (Nat.not_lt_zero k)) (fun k hk => absurd hk (Nat.not_lt_zero k))).mono ?_
  rintro e9 v7 ⟨rfl, b7⟩
  have A_v7 : Hid (Ab V4 v7) := A_v6.out.trans b7
  have A67 : Hid (Ab v6 v7) := b7
  clear b7 t0 t1 t2 t3 t4 t5 s0 s1 s2 s3 s4 s5
  have t0 := cell_of_row _ _ 0 _ _ _ (A_v7.out.heap GT.out)
  have t1 := cell_of_row _ _ 1 _ _ _ (A_v7.out.heap GT.out)
  have t2 := cell_of_row _ _ 2 _ _ _ (A_v7.out.heap GT.out)
  have t3 := cell_of_row _ _ 3 _ _ _ (A_v7.out.heap GT.out)
  have t4 := cell_of_row _ _ 4 _ _ _ (A_v7.out.heap GT.out)
  have t5 := cell_of_row _ _ 5 _ _ _ (A_v7.out.heap GT.out)
  have s0 := cell_of_row _ _ 0 _ _ _ ((A3.out.trans (AV.out.trans A_v7.out)).heap RO.out)
  have s1 := cell_of_row _ _ 1 _ _ _ ((A3.out.trans (AV.out.trans A_v7.out)).heap RO.out)
  have s2 := cell_of_row _ _ 2 _ _ _ ((A3.out.trans (AV.out.trans A_v7.out)).heap RO.out)
  have s3 := cell_of_row _ _ 3 _ _ _ ((A3.out.trans (AV.out.trans A_v7.out)).heap RO.out)
  have s4 := cell_of_row _ _ 4 _ _ _ ((A3.out.trans (AV.out.trans A_v7.out)).heap RO.out)
  have s5 := cell_of_row _ _ 5 _ _ _ ((A3.out.trans (AV.out.trans A_v7.out)).heap RO.out)
  go_wp2_with fail
  refine (still13_at bb bw bt bs pb pw pt ps lb cb lw cw lt ct ls cs sky st v7 (rowIs.ab RB.out A_v7.out) (rowIs.ab RW.out A_v7.out) (rowIs.ab RT.out A_v7.out) (rowIs.ab RS.out A_v7.out) (by have := HL.out; omega) (HB.out.below (A0.out.trans (A3.out.trans (AV.out.trans A_v7.out)))) (HW.out.below (A0.out.trans (A3.out.trans (AV.out.trans A_v7.out)))) (HT.out.below (A0.out.trans (A3.out.trans (AV.out.trans A_v7.out)))) (HS.out.below (A0.out.trans (A3.out.trans (AV.out.trans A_v7.out))))).mono ?_
  rintro e9 v8 ⟨rfl, b8⟩
  have A_v8 : Hid (Ab V4 v8) := A_v7.out.trans b8
  have A68 : Hid (Ab v6 v8) := A67.out.trans b8
  clear b8 t0 t1 t2 t3 t4 t5 s0 s1 s2 s3 s4 s5 ee
  clear A67
  go_upto_region 11 with fail
  go_cut [14] from 62 to 64 (fun s14 wx => ∃ bq, s14 = .slice (some ⟨bq, 0, none⟩) 0 0 ∧ Ab v8 wx)
  case first =>
    have B8 := hid (bl1 v8 (.cells #[] 2))
    go_wp2_with (first
      | (at_builtin; refine wpList_nil13 rfl (.tmp 62) (.tmp 63) rfl v8.heap.size rfl rfl ?_))
    go_meet
    exact ⟨_, rfl, B8.out⟩
  case rest =>
    rename World => V
    obtain ⟨bq, rfl, hq2⟩ := hcut
    have AV8 : Hid (Ab V4 V) := A_v8.out.trans hq2
    clear hq2 A_v8 A68 A_v5 A_v6 A_v7
    obtain ⟨ba, hba⟩ : ∃ x, V.heap.size = x := ⟨_, rfl⟩
    have NB : Hid (V4.heap.size ≤ ba ∧ V.heap.size ≤ ba) := by have := AV8.out.size; exact ⟨by omega, by omega⟩
    clear hba
    go_upto_region 13 with fail
    go_loopw [15] (fun iv wr => iv = .int .i64 0 ∧ wr = V) (fun _ _ => 0)
    case atStart => exact ⟨rfl, rfl⟩
    case round =>
      obtain ⟨rfl, hwr⟩ := hrel
      have hwr2 := hwr.symm
      subst hwr2
      have AO : Hid (Abo V ba V) := Abo.refl V ba
      have OW : Hid (OwnI V4.heap.size (.slice none 0 0) [] V) := OwnI.new V _
      go_upto_region 17 with fail
      go_loopw [10, 16] (fun av iv w5 => ∃ (k : Nat) (l : List Int), k ≤ 16 ∧ iv = .int .i64 (k : Nat) ∧ l.length = 0 + k ∧ OwnI V4.heap.size av l w5 ∧ (∀ g, av.ownBlock = some g → g = ba ∨ V.heap.size ≤ g) ∧ Abo V ba w5) (fun _ iv _ => 16 - (intOf iv).toNat)
      case atStart => exact ⟨0, [], by omega, rfl, by simp, OW.out, fun g hg => by simp [Value.ownBlock] at hg, AO.out⟩
      case round =>
        obtain ⟨k, l, hk, rfl, hl, ow, hg, ao⟩ := hrel
        have OX := hid ow
        have HG := hid hg
        have AO2 := hid ao
        have HK := hid hl
        clear ow hg ao hl OW AO
        by_cases hk16 : k < 16
        · have hkI : (k : Int) < 16 := by omega
          have hkB : (0 : Int) ≤ (k : Int) := by omega
          have HK2 := hid hk16
          have N1 : Hid (∀ j u, (([78] : List Int).map (Value.int .i64))[j]? = some u → (wr.alloc (.cells #[.int .i64 78] 2)).cell? ((⟨wr.heap.size, 0, none⟩ : Addr).add j) = some u) := World.news_of_block (cs := #[.int .i64 78]) (t := 2) (fr := (0, 0)) (heap_alloc_new wr _)
          have O2 := hid (OwnI.alloc OX.out (.cells #[.int .i64 78] 2))
          have LS : Hid (V4.heap.size ≤ (wr.alloc (.cells #[.int .i64 78] 2)).heap.size ∧ V.heap.size ≤ (wr.alloc (.cells #[.int .i64 78] 2)).heap.size) := by
            have h1 := AO2.out.2.2.2.1
            have h2 := AV8.out.size
            have h3 : (wr.alloc (.cells #[.int .i64 78] 2)).heap.size = wr.heap.size + 1 := by
              show (wr.heap.push _).size = _
              simp
            exact ⟨by omega, by omega⟩
          clear hk16
          go_wp2_with (first
            | (at_builtin; refine wpList_app13 rfl (.tmp 78) (.tmp 79) rfl V4.heap.size _ l rfl O2.out ⟨wr.heap.size, 0, none⟩ 1 1 [78] rfl rfl N1.out (by decide) (by have := HK.out; have := HK2.out; have := HL.out; omega) LS.out.1 (l.length + 1) rfl ?_; intro g1 c1 w1 o1 x1 y1 _; have O1 := hid o1; have X1 := hid x1; have Y1 := hid y1; clear o1 x1 y1))
          refine ⟨⟨k + 1, l ++ [78], by have := HK2.out; omega, by simp, by have := HK.out; simp; omega, O1.out, fun g hg => ?_, AO2.out.grown X1.out HG.out⟩, by have := HK2.out; simp [intOf]; omega⟩
          have e : g1 = g := by simpa [Value.ownBlock] using hg
          subst e
          rcases Y1.out with h | h
          · exact HG.out _ h
          · exact .inr (by rw [h]; exact LS.out.2)
        · have e6 : k = 16 := by omega
          subst e6
          have AE : Hid (Ab V4 wr) := AO2.out.ab AV8.out NB.out.1
          have AE3 : Hid (Ab W wr) := A3.out.trans (AV.out.trans AE.out)
          have p0 := cell_of_row _ _ 0 _ _ _ (AE3.out.heap RP.out)
          have p1 := cell_of_row _ _ 1 _ _ _ (AE3.out.heap RP.out)
          have p2 := cell_of_row _ _ 2 _ _ _ (AE3.out.heap RP.out)
          have p3 := cell_of_row _ _ 3 _ _ _ (AE3.out.heap RP.out)
          have p4 := cell_of_row _ _ 4 _ _ _ (AE3.out.heap RP.out)
          have p5 := cell_of_row _ _ 5 _ _ _ (AE3.out.heap RP.out)
          have p6 := cell_of_row _ _ 6 _ _ _ (AE3.out.heap RP.out)
          have s0 := cell_of_row _ _ 0 _ _ _ (AE3.out.heap RO.out)
          have s1 := cell_of_row _ _ 1 _ _ _ (AE3.out.heap RO.out)
          have s2 := cell_of_row _ _ 2 _ _ _ (AE3.out.heap RO.out)
          have s3 := cell_of_row _ _ 3 _ _ _ (AE3.out.heap RO.out)
          have s4 := cell_of_row _ _ 4 _ _ _ (AE3.out.heap RO.out)
          have s5 := cell_of_row _ _ 5 _ _ _ (AE3.out.heap RO.out)
          go_wp2_with fail
          refine (HA3.out gb wr (A0.out.trans AE3.out) (G3.out.to (AV.out.trans AE.out))).mono ?_
          rintro e9 v10 ⟨rfl, b10⟩
          have A10 : Hid (Ab wr v10) := b10
          clear b10 p0 p1 p2 p3 p4 p5 p6 s0 s1 s2 s3 s4 s5
          have ee : (((1 : Int)) == 1) = true := by decide
          go_wp2_with fail
          refine (ints13_at none (some ⟨bq, 0, none⟩) 0 0 0 (fun _ => 0) v10 (by omega) (fun k hk => absurd hk (Nat.not_lt_zero k)) (fun k hk => absurd hk (Nat.not_lt_zero k))).mono ?_
          rintro e9 v11 ⟨rfl, b11⟩
          have A11 : Hid (Ab v10 v11) := b11
          clear b11
          go_wp2_with fail
          refine (ints13_at none (some ⟨bq, 0, none⟩) 0 0 0 (fun _ => 0) v11 (by omega) (fun k hk => absurd hk (Nat.not_lt_zero k)) (fun k hk => absurd hk (Nat.not_lt_zero k))).mono ?_
          rintro e9 v12 ⟨rfl, b12⟩
          have A12 : Hid (Ab v11 v12) := b12
          clear b12
          go_wp2
          go_ret
          exact ⟨rfl, A0.out.trans (AE3.out.trans (A10.out.trans (A11.out.trans A12.out)))⟩
end Go.Proofs.YtbdjbhdbegiipaaGreatDoor

namespace Go.Proofs.YtbdjbhdbegiipaaGreatDoor
open Go.RowKit Tf Cu
attribute [local go_sem] run_bits run_from raw_feq raw_fne raw_flt raw_fgt run_neg run_store_float
set_option maxRecDepth 100000 in
set_option maxHeartbeats 16000000 in
theorem fk13_go (n M N : Nat) (sd : Int) (dt gr dr : Nat) (lim : Int) (rv : Bool) (pr : Option Addr) (lr cr : Nat) {pb pw pt : Option Addr} {sb so cb cw ct cs : Nat} {B : Nat → Nat} {Wt Tr : Nat → Int} {Sp : Nat → Nat} (sky st : Int) (w : World)
    (LV : Hid (∀ v, Ab w v → Calls Tryz.prog 4 #[] v fun e w' => e = .returned (.bool true) ∧ Below v.heap.size v w')) (HN : Hid (1 ≤ n ∧ n ≤ 32)) (HF : Hid (Fr w))
    (LG : Hid (∀ v, Calls Tryz.prog 6 #[.agg #[.slice pb M cb, .slice pw M cw, .slice pt M ct, .slice (some ⟨sb, so, none⟩) N cs, .int .i64 sky, .int .i64 st]] v fun e w' => e = .returned (.bool false) ∧ Below v.heap.size v w'))
    (HAM : Hid (∀ (gb : Nat) (pb : Option Addr) (cb : Nat) (B : Nat → Nat) (pw : Option Addr) (cw : Nat) (Wt : Nat → Int) (pt : Option Addr) (ct : Nat) (ps : Option Addr) (cs : Nat) (Sp : Nat → Nat) (v : World), GridOf n gb v → IsFl v pb M B → IsIn v pw M Wt → IsFl v ps N Sp → Calls Tryz.prog 8 #[.pointer (some ⟨gb, 0, none⟩), .agg #[.int .i64 sd, .float .f64 dt, .float .f64 gr, .float .f64 dr, .int .i64 lim, .bool rv, .slice pr lr cr], .agg #[.slice pb M cb, .slice pw M cw, .slice pt M ct, .slice ps N cs, .int .i64 sky, .int .i64 st]] v fun e w' => ∃ b, e = .returned (.tuple #[.slice (some ⟨b, 0, none⟩) N N, .int .i64 0]) ∧ Below v.heap.size v w' ∧ w'.rowIs b 2 N (fun i => .int .i64 (flB n lim B Wt Sp dt i)) ∧ v.heap.size ≤ b))
    (HA3 : Hid (∀ (gb : Nat) (v : World), Ab w v → GridOf n gb v → Calls Tryz.prog 8 #[.pointer (some ⟨gb, 0, none⟩), .agg #[.int .i64 sd, .float .f64 dt, .float .f64 gr, .float .f64 dr, .int .i64 lim, .bool rv, .slice pr lr cr], .agg #[.slice pb M cb, .slice pw M cw, .slice pt M ct, .slice (some ⟨sb, so, none⟩) N cs, .int .i64 sky, .int .i64 st]] v fun e w' => ∃ b, e = .returned (.tuple #[.slice (some ⟨b, 0, none⟩) N N, .int .i64 0]) ∧ Below v.heap.size v w' ∧ w'.rowIs b 2 N (fun i => .int .i64 (flB n lim B Wt Sp dt i)) ∧ v.heap.size ≤ b))
    (HB : Hid (IsFl w pb M B)) (HW : Hid (IsIn w pw M Wt)) (HT : Hid (IsIn w pt M Tr)) (HS : Hid (IsFl w (some ⟨sb, so, none⟩) N Sp))
    (HL : Hid (0 < N ∧ M ≤ 65536 ∧ N ≤ 65536)) (HD : Hid (∀ i, i < N → -9223372036854775808 ≤ flB n lim B Wt Sp dt i ∧ flB n lim B Wt Sp dt i ≤ 9223372036854775807)) :
    Calls Tryz.prog 3 #[.int .i64 (n : Nat), .agg #[.int .i64 sd, .float .f64 dt, .float .f64 gr, .float .f64 dr, .int .i64 lim, .bool rv, .slice pr lr cr], .agg #[.slice pb M cb, .slice pw M cw, .slice pt M ct, .slice (some ⟨sb, so, none⟩) N cs, .int .i64 sky, .int .i64 st]] w fun e w' => e = .returned (.bool true) ∧ Below w.heap.size w w' := by
  have A0 : Hid (Ab w ((w.alloc (.cells #[.int .i64 sd, .float .f64 dt, .float .f64 gr, .float .f64 dr, .int .i64 lim, .bool rv, .slice pr lr cr] 25)).alloc (.cells #[.slice pb M cb, .slice pw M cw, .slice pt M ct, .slice (some ⟨sb, so, none⟩) N cs, .int .i64 sky, .int .i64 st] 29))) := bl2 _ _ _
  have RP : Hid (((w.alloc (.cells #[.int .i64 sd, .float .f64 dt, .float .f64 gr, .float .f64 dr, .int .i64 lim, .bool rv, .slice pr lr cr] 25)).alloc (.cells #[.slice pb M cb, .slice pw M cw, .slice pt M ct, .slice (some ⟨sb, so, none⟩) N cs, .int .i64 sky, .int .i64 st] 29)).heap[w.heap.size]? = some (.cells #[.int .i64 sd, .float .f64 dt, .float .f64 gr, .float .f64 dr, .int .i64 lim, .bool rv, .slice pr lr cr] 25)) := heap_alloc2_old _ _ _
  have RO : Hid (((w.alloc (.cells #[.int .i64 sd, .float .f64 dt, .float .f64 gr, .float .f64 dr, .int .i64 lim, .bool rv, .slice pr lr cr] 25)).alloc (.cells #[.slice pb M cb, .slice pw M cw, .slice pt M ct, .slice (some ⟨sb, so, none⟩) N cs, .int .i64 sky, .int .i64 st] 29)).heap[w.heap.size + 1]? = some (.cells #[.slice pb M cb, .slice pw M cw, .slice pt M ct, .slice (some ⟨sb, so, none⟩) N cs, .int .i64 sky, .int .i64 st] 29)) := heap_alloc2_new _ _ _
  go_enter Tryz.func3, Tryz.ntmps3
  go_upto_region 1 with fail
  generalize hW : World.alloc (World.alloc w _) _ = W at *
  obtain ⟨gp, hgp⟩ : ∃ g, w.heap.size = g := ⟨_, rfl⟩
  obtain ⟨gs, hgs⟩ : ∃ g, w.heap.size + 1 = g := ⟨_, rfl⟩
  rw [hgp] at RP
  rw [hgs] at RO
  rw [hgs, hgp]
  have GW : Hid (w.heap.size ≤ gp ∧ w.heap.size ≤ gs) := ⟨by omega, by omega⟩
  clear hgs hgp hW
  go_wp2_with fail
  refine (LV.out _ A0.out).mono ?_
  rintro e9 v1 ⟨rfl, b1⟩
  have A1 : Hid (Ab W v1) := b1
  clear b1
  go_wp2_with fail
  refine (new_at n v1 HN.out (HF.out.to (A0.out.trans A1.out))).mono ?_
  rintro e9 v2 ⟨gb, rfl, a2, -, g2⟩
  have A2 : Hid (Ab W v2) := A1.out.trans a2
  have G2 : Hid (GridOf n gb v2) := g2
  clear a2 g2 A1
  have s0 := cell_of_row _ _ 0 _ _ _ (A2.out.heap RO.out)
  have s1 := cell_of_row _ _ 1 _ _ _ (A2.out.heap RO.out)
  have s2 := cell_of_row _ _ 2 _ _ _ (A2.out.heap RO.out)
  have s3 := cell_of_row _ _ 3 _ _ _ (A2.out.heap RO.out)
  have s4 := cell_of_row _ _ 4 _ _ _ (A2.out.heap RO.out)
  have s5 := cell_of_row _ _ 5 _ _ _ (A2.out.heap RO.out)
  go_wp2_with fail
  refine (LG.out v2).mono ?_
  rintro e9 v3 ⟨rfl, b3⟩
  have A3 : Hid (Ab W v3) := A2.out.trans b3
  have G3 : Hid (GridOf n gb v3) := G2.out.to b3
  clear b3 A2 G2 s0 s1 s2 s3 s4 s5
  have CP := hid (copied13_at pb pw pt (some ⟨sb, so, none⟩) M cb M cw M ct N cs B Wt Tr Sp sky st v3 (HB.out.below (A0.out.trans A3.out)) (HW.out.below (A0.out.trans A3.out)) (HT.out.below (A0.out.trans A3.out)) (HS.out.below (A0.out.trans A3.out)) (by have := HL.out; omega))
  have s0 := cell_of_row _ _ 0 _ _ _ (A3.out.heap RO.out)
  have s1 := cell_of_row _ _ 1 _ _ _ (A3.out.heap RO.out)
  have s2 := cell_of_row _ _ 2 _ _ _ (A3.out.heap RO.out)
  have s3 := cell_of_row _ _ 3 _ _ _ (A3.out.heap RO.out)
  have s4 := cell_of_row _ _ 4 _ _ _ (A3.out.heap RO.out)
  have s5 := cell_of_row _ _ 5 _ _ _ (A3.out.heap RO.out)
  go_wp2_with fail
  refine CP.out.mono ?_
  rintro e9 v4 ⟨bb, bw, bt, bs, rfl, b4, rb, rw_, rt, rs, -⟩
  have AV : Hid (Ab v3 (v4.alloc (.cells #[.slice (some ⟨bb, 0, none⟩) M (M + 9), .slice (some ⟨bw, 0, none⟩) M (M + 9), .slice (some ⟨bt, 0, none⟩) M (M + 9), .slice (some ⟨bs, 0, none⟩) N (N + 9), .int .i64 sky, .int .i64 st] 29))) := Ab.alloc (show Ab v3 v4 from b4) _
  have GT : Hid ((v4.alloc (.cells #[.slice (some ⟨bb, 0, none⟩) M (M + 9), .slice (some ⟨bw, 0, none⟩) M (M + 9), .slice (some ⟨bt, 0, none⟩) M (M + 9), .slice (some ⟨bs, 0, none⟩) N (N + 9), .int .i64 sky, .int .i64 st] 29)).heap[v4.heap.size]? = some (.cells #[.slice (some ⟨bb, 0, none⟩) M (M + 9), .slice (some ⟨bw, 0, none⟩) M (M + 9), .slice (some ⟨bt, 0, none⟩) M (M + 9), .slice (some ⟨bs, 0, none⟩) N (N + 9), .int .i64 sky, .int .i64 st] 29)) := heap_alloc_new _ _
  have RB := hid (rb.alloc (.cells #[.slice (some ⟨bb, 0, none⟩) M (M + 9), .slice (some ⟨bw, 0, none⟩) M (M + 9), .slice (some ⟨bt, 0, none⟩) M (M + 9), .slice (some ⟨bs, 0, none⟩) N (N + 9), .int .i64 sky, .int .i64 st] 29))
  have RW := hid (rw_.alloc (.cells #[.slice (some ⟨bb, 0, none⟩) M (M + 9), .slice (some ⟨bw, 0, none⟩) M (M + 9), .slice (some ⟨bt, 0, none⟩) M (M + 9), .slice (some ⟨bs, 0, none⟩) N (N + 9), .int .i64 sky, .int .i64 st] 29))
  have RT := hid (rt.alloc (.cells #[.slice (some ⟨bb, 0, none⟩) M (M + 9), .slice (some ⟨bw, 0, none⟩) M (M + 9), .slice (some ⟨bt, 0, none⟩) M (M + 9), .slice (some ⟨bs, 0, none⟩) N (N + 9), .int .i64 sky, .int .i64 st] 29))
  have RS := hid (rs.alloc (.cells #[.slice (some ⟨bb, 0, none⟩) M (M + 9), .slice (some ⟨bw, 0, none⟩) M (M + 9), .slice (some ⟨bt, 0, none⟩) M (M + 9), .slice (some ⟨bs, 0, none⟩) N (N + 9), .int .i64 sky, .int .i64 st] 29))
  clear b4 rb rw_ rt rs CP s0 s1 s2 s3 s4 s5
  go_upto_region 7 with fail
  generalize hV : World.alloc v4 _ = V4 at *
  obtain ⟨gt, hgt⟩ : ∃ g, v4.heap.size = g := ⟨_, rfl⟩
  rw [hgt] at GT
  rw [hgt]
  clear hgt hV
  have p0 := cell_of_row _ _ 0 _ _ _ ((A3.out.trans (AV.out.trans (Ab.refl V4))).heap RP.out)
  have p1 := cell_of_row _ _ 1 _ _ _ ((A3.out.trans (AV.out.trans (Ab.refl V4))).heap RP.out)
  have p2 := cell_of_row _ _ 2 _ _ _ ((A3.out.trans (AV.out.trans (Ab.refl V4))).heap RP.out)
  have p3 := cell_of_row _ _ 3 _ _ _ ((A3.out.trans (AV.out.trans (Ab.refl V4))).heap RP.out)
  have p4 := cell_of_row _ _ 4 _ _ _ ((A3.out.trans (AV.out.trans (Ab.refl V4))).heap RP.out)
  have p5 := cell_of_row _ _ 5 _ _ _ ((A3.out.trans (AV.out.trans (Ab.refl V4))).heap RP.out)
  have p6 := cell_of_row _ _ 6 _ _ _ ((A3.out.trans (AV.out.trans (Ab.refl V4))).heap RP.out)
  have t0 := cell_of_row _ _ 0 _ _ _ ((Ab.refl V4).heap GT.out)
  have t1 := cell_of_row _ _ 1 _ _ _ ((Ab.refl V4).heap GT.out)
  have t2 := cell_of_row _ _ 2 _ _ _ ((Ab.refl V4).heap GT.out)
  have t3 := cell_of_row _ _ 3 _ _ _ ((Ab.refl V4).heap GT.out)
  have t4 := cell_of_row _ _ 4 _ _ _ ((Ab.refl V4).heap GT.out)
  have t5 := cell_of_row _ _ 5 _ _ _ ((Ab.refl V4).heap GT.out)
  go_wp2_with fail
  refine (HAM.out gb (some ⟨bb, 0, none⟩) (M + 9) B (some ⟨bw, 0, none⟩) (M + 9) Wt (some ⟨bt, 0, none⟩) (M + 9) (some ⟨bs, 0, none⟩) (N + 9) Sp V4 (G3.out.to (AV.out.trans (Ab.refl V4))) (mk_fl (rowIs.ab RB.out (Ab.refl V4)) (fun k hk => (HB.out k hk).1)) (mk_in (rowIs.ab RW.out (Ab.refl V4)) (fun k hk => (HW.out k hk).1)) (mk_fl (rowIs.ab RS.out (Ab.refl V4)) (fun k hk => (HS.out k hk).1))).mono ?_
  rintro e9 v5 ⟨ba, rfl, b5, r5, l5⟩
  have A_v5 : Hid (Ab V4 v5) := ((Ab.refl V4)).trans b5
  have R5 := hid r5
  have L_v5 : Hid (V4.heap.size ≤ ba) := l5
  clear b5 r5 l5 p0 p1 p2 p3 p4 p5 p6 t0 t1 t2 t3 t4 t5
  have p0 := cell_of_row _ _ 0 _ _ _ ((A3.out.trans (AV.out.trans A_v5.out)).heap RP.out)
  have p1 := cell_of_row _ _ 1 _ _ _ ((A3.out.trans (AV.out.trans A_v5.out)).heap RP.out)
  have p2 := cell_of_row _ _ 2 _ _ _ ((A3.out.trans (AV.out.trans A_v5.out)).heap RP.out)
  have p3 := cell_of_row _ _ 3 _ _ _ ((A3.out.trans (AV.out.trans A_v5.out)).heap RP.out)
  have p4 := cell_of_row _ _ 4 _ _ _ ((A3.out.trans (AV.out.trans A_v5.out)).heap RP.out)
  have p5 := cell_of_row _ _ 5 _ _ _ ((A3.out.trans (AV.out.trans A_v5.out)).heap RP.out)
  have p6 := cell_of_row _ _ 6 _ _ _ ((A3.out.trans (AV.out.trans A_v5.out)).heap RP.out)
  have t0 := cell_of_row _ _ 0 _ _ _ (A_v5.out.heap GT.out)
  have t1 := cell_of_row _ _ 1 _ _ _ (A_v5.out.heap GT.out)
  have t2 := cell_of_row _ _ 2 _ _ _ (A_v5.out.heap GT.out)
  have t3 := cell_of_row _ _ 3 _ _ _ (A_v5.out.heap GT.out)
  have t4 := cell_of_row _ _ 4 _ _ _ (A_v5.out.heap GT.out)
  have t5 := cell_of_row _ _ 5 _ _ _ (A_v5.out.heap GT.out)
  go_wp2_with fail
  refine (HAM.out gb (some ⟨bb, 0, none⟩) (M + 9) B (some ⟨bw, 0, none⟩) (M + 9) Wt (some ⟨bt, 0, none⟩) (M + 9) (some ⟨bs, 0, none⟩) (N + 9) Sp v5 (G3.out.to (AV.out.trans A_v5.out)) (mk_fl (rowIs.ab RB.out A_v5.out) (fun k hk => (HB.out k hk).1)) (mk_in (rowIs.ab RW.out A_v5.out) (fun k hk => (HW.out k hk).1)) (mk_fl (rowIs.ab RS.out A_v5.out) (fun k hk => (HS.out k hk).1))).mono ?_
  rintro e9 v6 ⟨bc, rfl, b5, r5, l5⟩
  have A56 : Hid (Ab v5 v6) := b5
  have A_v6 : Hid (Ab V4 v6) := (A_v5.out).trans b5
  have R6 := hid r5
  have L_v6 : Hid (v5.heap.size ≤ bc) := l5
  clear b5 r5 l5 p0 p1 p2 p3 p4 p5 p6 t0 t1 t2 t3 t4 t5
  have ee : (((0 : Int)) != 0) = false := by decide
  have R56 : Hid (v6.rowIs ba 2 N (fun i => .int .i64 (flB n lim B Wt Sp dt i))) := rowIs.ab R5.out A56.out
  have t0 := cell_of_row _ _ 0 _ _ _ (A_v6.out.heap GT.out)
  have t1 := cell_of_row _ _ 1 _ _ _ (A_v6.out.heap GT.out)
  have t2 := cell_of_row _ _ 2 _ _ _ (A_v6.out.heap GT.out)
  have t3 := cell_of_row _ _ 3 _ _ _ (A_v6.out.heap GT.out)
  have t4 := cell_of_row _ _ 4 _ _ _ (A_v6.out.heap GT.out)
  have t5 := cell_of_row _ _ 5 _ _ _ (A_v6.out.heap GT.out)
  have s0 := cell_of_row _ _ 0 _ _ _ ((A3.out.trans (AV.out.trans A_v6.out)).heap RO.out)
  have s1 := cell_of_row _ _ 1 _ _ _ ((A3.out.trans (AV.out.trans A_v6.out)).heap RO.out)
  have s2 := cell_of_row _ _ 2 _ _ _ ((A3.out.trans (AV.out.trans A_v6.out)).heap RO.out)
  have s3 := cell_of_row _ _ 3 _ _ _ ((A3.out.trans (AV.out.trans A_v6.out)).heap RO.out)
  have s4 := cell_of_row _ _ 4 _ _ _ ((A3.out.trans (AV.out.trans A_v6.out)).heap RO.out)
  have s5 := cell_of_row _ _ 5 _ _ _ ((A3.out.trans (AV.out.trans A_v6.out)).heap RO.out)
  go_wp2_with fail
  refine (ints13_at (some ⟨ba, 0, none⟩) (some ⟨bc, 0, none⟩) N N N _ v6 (by have := HL.out; omega) (rowIs.in R56.out (fun i hi => HD.out i hi)) (rowIs.in R6.out (fun i hi => HD.out i hi))).mono ?_
  rintro e9 v7 ⟨rfl, b7⟩
  have A_v7 : Hid (Ab V4 v7) := A_v6.out.trans b7
  have A67 : Hid (Ab v6 v7) := b7
  clear b7 t0 t1 t2 t3 t4 t5 s0 s1 s2 s3 s4 s5
  have t0 := cell_of_row _ _ 0 _ _ _ (A_v7.out.heap GT.out)
  have t1 := cell_of_row _ _ 1 _ _ _ (A_v7.out.heap GT.out)
  have t2 := cell_of_row _ _ 2 _ _ _ (A_v7.out.heap GT.out)
  have t3 := cell_of_row _ _ 3 _ _ _ (A_v7.out.heap GT.out)
  have t4 := cell_of_row _ _ 4 _ _ _ (A_v7.out.heap GT.out)
  have t5 := cell_of_row _ _ 5 _ _ _ (A_v7.out.heap GT.out)
  have s0 := cell_of_row _ _ 0 _ _ _ ((A3.out.trans (AV.out.trans A_v7.out)).heap RO.out)
  have s1 := cell_of_row _ _ 1 _ _ _ ((A3.out.trans (AV.out.trans A_v7.out)).heap RO.out)
  have s2 := cell_of_row _ _ 2 _ _ _ ((A3.out.trans (AV.out.trans A_v7.out)).heap RO.out)
  have s3 := cell_of_row _ _ 3 _ _ _ ((A3.out.trans (AV.out.trans A_v7.out)).heap RO.out)
  have s4 := cell_of_row _ _ 4 _ _ _ ((A3.out.trans (AV.out.trans A_v7.out)).heap RO.out)
  have s5 := cell_of_row _ _ 5 _ _ _ ((A3.out.trans (AV.out.trans A_v7.out)).heap RO.out)
  go_wp2_with fail
  refine (still13_at bb bw bt bs pb pw pt (some ⟨sb, so, none⟩) M cb M cw M ct N cs sky st v7 (rowIs.ab RB.out A_v7.out) (rowIs.ab RW.out A_v7.out) (rowIs.ab RT.out A_v7.out) (rowIs.ab RS.out A_v7.out) (by have := HL.out; omega) (HB.out.below (A0.out.trans (A3.out.trans (AV.out.trans A_v7.out)))) (HW.out.below (A0.out.trans (A3.out.trans (AV.out.trans A_v7.out)))) (HT.out.below (A0.out.trans (A3.out.trans (AV.out.trans A_v7.out)))) (HS.out.below (A0.out.trans (A3.out.trans (AV.out.trans A_v7.out))))).mono ?_
  rintro e9 v8 ⟨rfl, b8⟩
  have A_v8 : Hid (Ab V4 v8) := A_v7.out.trans b8
  have A68 : Hid (Ab v6 v8) := A67.out.trans b8
  clear b8 t0 t1 t2 t3 t4 t5 s0 s1 s2 s3 s4 s5 ee
  have Q5 := hid (rowIs.ab R56.out A68.out)
  have Q6 := hid (rowIs.ab R6.out A68.out)
  have LN : Hid (V4.heap.size ≤ ba ∧ ba < v5.heap.size ∧ v5.heap.size ≤ bc ∧ bc < v8.heap.size ∧ v5.heap.size ≤ v8.heap.size) := ⟨L_v5.out, R5.out.lt, L_v6.out, Q6.out.lt, Nat.le_trans A56.out.size A68.out.size⟩
  clear R5 R56 R6 A56 A67
  go_upto_region 11 with fail
  go_cut [14] from 62 to 64 (fun s14 wx => ∃ bq cq, s14 = .slice (some ⟨bq, 0, none⟩) N cq ∧ v8.heap.size ≤ bq ∧ Ab v8 wx ∧ IsIn wx (some ⟨bq, 0, none⟩) N (fun i => flB n lim B Wt Sp dt i))
  case first =>
    have o0 := hid (own_new13 v8 v8.heap.size (Nat.le_refl _))
    have nr := hid (news_row13 (rowIs.ab Q6.out (bl1 v8 (.cells #[] 2))))
    have LD : Hid (((List.range N).map (fun i => flB n lim B Wt Sp dt i)).length = N) := by show _ = _; simp
    go_wp2_with (first
      | (at_builtin; refine wpList_app13 rfl (.tmp 62) (.tmp 63) rfl v8.heap.size _ [] rfl o0.out ⟨bc, 0, none⟩ N N _ rfl LD.out nr.out (by have := HL.out; omega) (by have := HL.out; simp; omega) (by simp) N (by simp) ?_; intro g1 c1 w1 o1 x1 y1 z1; have O1 := hid o1; have X1 := hid x1; have Z1 := hid z1; clear o1 x1 y1 z1))
    go_meet
    obtain ⟨a0, cap, e1, e2⟩ := O1.out.in (fun x hx => by
      rw [List.nil_append] at hx
      obtain ⟨i, hi, rfl⟩ := List.mem_map.1 hx
      exact HD.out i (List.mem_range.1 hi))
    have lq : (([] : List Int) ++ (List.range N).map (fun i => flB n lim B Wt Sp dt i)).length = N := by simp
    rw [lq] at e1 e2
    injection e1 with e3 e4 e5
    refine ⟨g1, c1, rfl, ?_, ?_, ?_⟩
    · exact Z1.out
    · exact Below.grown (bl1 v8 _ : Below _ _ _) X1.out (by simp) (fun k hk => (World.ownsRow.lt o0.out k hk).1)
    · rw [e3]
      exact fun j hj => by
        obtain ⟨q1, b1, o1, q2, q3, q4⟩ := e2 j hj
        refine ⟨HD.out j hj, b1, o1, q2, q3, ?_⟩
        rw [q4]
        simp [hj]
  case rest =>
    rename World => V
    obtain ⟨bq, cq, rfl, hq1, hq2, hq3⟩ := hcut
    have NB : Hid (bc ≠ ba ∧ bq ≠ ba ∧ V4.heap.size ≤ ba) := by have := LN.out; exact ⟨by omega, by omega, by omega⟩
    have P5 := hid (rowIs.ab Q5.out hq2)
    have P6 := hid (rowIs.ab Q6.out hq2)
    have AV8 : Hid (Ab V4 V) := A_v8.out.trans hq2
    have IQ := hid hq3
    clear hq1 hq2 hq3 Q5 Q6 LN A_v8 A68 A_v5 A_v6 A_v7 L_v5 L_v6
    go_upto_region 13 with fail
    go_loopw [15] (fun iv wr => ∃ c : Nat, c ≤ N ∧ iv = .int .i64 (c : Nat) ∧ Abx V ba N 2 wr ∧ wr.rowIs ba 2 N (fun i => .int .i64 (if i < c then 77 else flB n lim B Wt Sp dt i))) (fun iv _ => N - (intOf iv).toNat)
    case atStart =>
      refine ⟨0, by omega, rfl, ?_, P5.out.congr (fun i _ => by simp)⟩
      obtain ⟨c, hb, hc, _⟩ := P5.out
      exact (Ab.refl V).x hc hb
    case round =>
      obtain ⟨c, hc, rfl, ax, rx⟩ := hrel
      have AX := hid ax
      have RX := hid rx
      clear ax rx P5
      by_cases hcN : c < N
      · have HC := hid hcN
        have hcI : (c : Int) < N := by omega
        have hcB : (c : Int) ≤ 1048576 := by have := HL.out; omega
        have xc := RX.out.cell hcN
        have xf := RX.out.frozen c
        obtain ⟨xv, hxv⟩ : ∃ v, (Value.int .i64 (if c < c then 77 else flB n lim B Wt Sp dt c)) = v := ⟨_, rfl⟩
        rw [hxv] at xc
        clear hxv
        go_wp2
        refine ⟨⟨c + 1, by omega, by simp, AX.out.set c _, (RX.out.set c _).congr (fun i _ => ?_)⟩, by simp [intOf]; omega⟩
        by_cases e : i = c
        · simp [e]
        · by_cases l : i < c
          · simp [e, l, show i < c + 1 by omega]
          · simp [e, l, show ¬ i < c + 1 by omega]
      · have e6 : N = c := by omega
        subst e6
        have AO : Hid (Abo V ba wr) := AX.out.1
        have OW : Hid (OwnI V4.heap.size (.slice (some ⟨ba, 0, none⟩) N N) (List.replicate N 77) wr) := own_row13 (RX.out.congr (fun i hi => by simp [hi])) NB.out.2.2 (by have := HL.out; omega)
        clear AX RX
        go_upto_region 17 with fail
        go_loopw [10, 16] (fun av iv w5 => ∃ (k : Nat) (l : List Int), k ≤ 16 ∧ iv = .int .i64 (k : Nat) ∧ l.length = N + k ∧ OwnI V4.heap.size av l w5 ∧ (∀ g, av.ownBlock = some g → g = ba ∨ V.heap.size ≤ g) ∧ Abo V ba w5) (fun _ iv _ => 16 - (intOf iv).toNat)
        case atStart => exact ⟨0, (List.replicate N 77), by omega, rfl, by simp, OW.out, fun g hg => by simp [Value.ownBlock] at hg; exact .inl hg.symm, AO.out⟩
        case round =>
          obtain ⟨k, l, hk, rfl, hl, ow, hg, ao⟩ := hrel
          have OX := hid ow
          have HG := hid hg
          have AO2 := hid ao
          have HK := hid hl
          clear ow hg ao hl OW AO
          by_cases hk16 : k < 16
          · have hkI : (k : Int) < 16 := by omega
            have hkB : (0 : Int) ≤ (k : Int) := by omega
            have HK2 := hid hk16
            have N1 : Hid (∀ j u, (([78] : List Int).map (Value.int .i64))[j]? = some u → (wr.alloc (.cells #[.int .i64 78] 2)).cell? ((⟨wr.heap.size, 0, none⟩ : Addr).add j) = some u) := World.news_of_block (cs := #[.int .i64 78]) (t := 2) (fr := (0, 0)) (heap_alloc_new wr _)
            have O2 := hid (OwnI.alloc OX.out (.cells #[.int .i64 78] 2))
            have LS : Hid (V4.heap.size ≤ (wr.alloc (.cells #[.int .i64 78] 2)).heap.size ∧ V.heap.size ≤ (wr.alloc (.cells #[.int .i64 78] 2)).heap.size) := by
              have h1 := AO2.out.2.2.2.1
              have h2 := AV8.out.size
              have h3 : (wr.alloc (.cells #[.int .i64 78] 2)).heap.size = wr.heap.size + 1 := by
                show (wr.heap.push _).size = _
                simp
              exact ⟨by omega, by omega⟩
            clear hk16
            go_wp2_with (first
              | (at_builtin; refine wpList_app13 rfl (.tmp 78) (.tmp 79) rfl V4.heap.size _ l rfl O2.out ⟨wr.heap.size, 0, none⟩ 1 1 [78] rfl rfl N1.out (by decide) (by have := HK.out; have := HK2.out; have := HL.out; omega) LS.out.1 (l.length + 1) rfl ?_; intro g1 c1 w1 o1 x1 y1 _; have O1 := hid o1; have X1 := hid x1; have Y1 := hid y1; clear o1 x1 y1))
            refine ⟨⟨k + 1, l ++ [78], by have := HK2.out; omega, by simp, by have := HK.out; simp; omega, O1.out, fun g hg => ?_, AO2.out.grown X1.out HG.out⟩, by have := HK2.out; simp [intOf]; omega⟩
            have e : g1 = g := by simpa [Value.ownBlock] using hg
            subst e
            rcases Y1.out with h | h
            · exact HG.out _ h
            · exact .inr (by rw [h]; exact LS.out.2)
          · have e6 : k = 16 := by omega
            subst e6
            have AE : Hid (Ab V4 wr) := AO2.out.ab AV8.out NB.out.2.2
            have AE3 : Hid (Ab W wr) := A3.out.trans (AV.out.trans AE.out)
            have p0 := cell_of_row _ _ 0 _ _ _ (AE3.out.heap RP.out)
            have p1 := cell_of_row _ _ 1 _ _ _ (AE3.out.heap RP.out)
            have p2 := cell_of_row _ _ 2 _ _ _ (AE3.out.heap RP.out)
            have p3 := cell_of_row _ _ 3 _ _ _ (AE3.out.heap RP.out)
            have p4 := cell_of_row _ _ 4 _ _ _ (AE3.out.heap RP.out)
            have p5 := cell_of_row _ _ 5 _ _ _ (AE3.out.heap RP.out)
            have p6 := cell_of_row _ _ 6 _ _ _ (AE3.out.heap RP.out)
            have s0 := cell_of_row _ _ 0 _ _ _ (AE3.out.heap RO.out)
            have s1 := cell_of_row _ _ 1 _ _ _ (AE3.out.heap RO.out)
            have s2 := cell_of_row _ _ 2 _ _ _ (AE3.out.heap RO.out)
            have s3 := cell_of_row _ _ 3 _ _ _ (AE3.out.heap RO.out)
            have s4 := cell_of_row _ _ 4 _ _ _ (AE3.out.heap RO.out)
            have s5 := cell_of_row _ _ 5 _ _ _ (AE3.out.heap RO.out)
            go_wp2_with fail
            refine (HA3.out gb wr (A0.out.trans AE3.out) (G3.out.to (AV.out.trans AE.out))).mono ?_
            rintro e9 v10 ⟨br, rfl, b10, r10, -⟩
            have A10 : Hid (Ab wr v10) := b10
            have R10 := hid r10
            clear b10 r10 p0 p1 p2 p3 p4 p5 p6 s0 s1 s2 s3 s4 s5
            have I6 := hid ((rowIs.in (rowIs_abo P6.out AO2.out NB.out.1) (fun i hi => HD.out i hi)).below A10.out)
            have IW := hid ((isIn_abo IQ.out AO2.out NB.out.2.1).below A10.out)
            have I10 := hid (rowIs.in R10.out (fun i hi => HD.out i hi))
            have ee : (((0 : Int)) == 0) = true := by decide
            go_wp2_with fail
            refine (ints13_at (some ⟨bc, 0, none⟩) (some ⟨bq, 0, none⟩) N N cq _ v10 (by have := HL.out; omega) I6.out IW.out).mono ?_
            rintro e9 v11 ⟨rfl, b11⟩
            have A11 : Hid (Ab v10 v11) := b11
            clear b11
            go_wp2_with fail
            refine (ints13_at (some ⟨br, 0, none⟩) (some ⟨bq, 0, none⟩) N N cq _ v11 (by have := HL.out; omega) (I10.out.below A11.out) (IW.out.below A11.out)).mono ?_
            rintro e9 v12 ⟨rfl, b12⟩
            have A12 : Hid (Ab v11 v12) := b12
            clear b12
            go_wp2
            go_ret
            exact ⟨rfl, A0.out.trans (AE3.out.trans (A10.out.trans (A11.out.trans A12.out)))⟩
end Go.Proofs.YtbdjbhdbegiipaaGreatDoor

namespace Go.Proofs.YtbdjbhdbegiipaaGreatDoor
open Go.RowKit Tf Cu
attribute [local go_sem] run_bits run_from raw_feq raw_fne raw_flt raw_fgt run_neg run_store_float
theorem fk13_at (QC : QuantaC) (AC : AllC) (side : Int) (sd : Int) (dt gr dr : Nat) (lim : Int) (rv : Bool) (pr : Option Addr) (lr cr : Nat) {pb pw pt ps : Option Addr} {lb cb lw cw lt ct ls cs : Nat} {B : Nat → Nat} {Wt Tr : Nat → Int} {Sp : Nat → Nat} (sky st : Int) (w : World) (hF : Fr w) (sea : SeaAt w pb lb cb B pw lw cw Wt pt lt ct Tr ps ls cs Sp) (hdt : dt < 18446744073709551616) :
    Calls Tryz.prog 3 #[.int .i64 side, .agg #[.int .i64 sd, .float .f64 dt, .float .f64 gr, .float .f64 dr, .int .i64 lim, .bool rv, .slice pr lr cr], .agg #[.slice pb lb cb, .slice pw lw cw, .slice pt lt ct, .slice ps ls cs, .int .i64 sky, .int .i64 st]] w fun e w' => e = .returned (.bool true) ∧ Below w.heap.size w w' := by
  have LV : Hid (∀ v, Ab w v → Calls Tryz.prog 4 #[] v fun e w' => e = .returned (.bool true) ∧ Below v.heap.size v w') := fun v hv => lives13_at QC AC v (hF.to hv)
  by_cases h : 1 ≤ side ∧ side ≤ 32
  · obtain ⟨n, rfl⟩ := Int.eq_ofNat_of_zero_le (show 0 ≤ side by omega)
    have hn : 1 ≤ n ∧ n ≤ 32 := by omega
    have en : (1 ≤ 6 * n * n ∧ 6 * n * n ≤ 6144) ∧ 1 ≤ 12 * n * n ∧ 12 * n * n ≤ 12288 := by
      have h := Nat.mul_le_mul hn.2 hn.2
      have h2 := Nat.mul_le_mul hn.1 hn.1
      rw [Nat.mul_assoc, Nat.mul_assoc]
      omega
    by_cases hl : 65536 < lb ∨ 65536 < lw ∨ 65536 < lt ∨ 65536 < ls
    · exact fk13_long n sd dt gr dr lim rv pr lr cr sky st w LV hn hF hl
    · have LG := hid (fun v => (long13_at pb pw pt ps lb cb lw cw lt ct ls cs sky st v).mono fun _ _ h => ⟨by rw [h.1, decide_eq_false hl], h.2⟩ : ∀ v : World, Calls Tryz.prog 6 #[.agg #[.slice pb lb cb, .slice pw lw cw, .slice pt lt ct, .slice ps ls cs, .int .i64 sky, .int .i64 st]] v fun e w' => e = .returned (.bool false) ∧ Below v.heap.size v w')
      have HAM := AC n
      by_cases fit : lb = 6 * n * n ∧ lw = 6 * n * n ∧ lt = 6 * n * n ∧ ls = 12 * n * n
      · obtain ⟨rfl, rfl, rfl, rfl⟩ := fit
        obtain ⟨sb, so, rfl⟩ := sea.speed.some0 (by omega)
        refine fk13_go n (6 * n * n) (12 * n * n) sd dt gr dr lim rv pr lr cr sky st w LV hn hF LG ?_ ?_ sea.bed sea.water sea.tracer sea.speed (show _ ∧ _ ∧ _ from ⟨by omega, by omega, by omega⟩) ?_
        · exact fun gb' pb' cb' B' pw' cw' Wt' pt' ct' ps' cs' Sp' v g f1 f2 f3 => (HAM gb' sd dt gr dr lim rv pr lr cr pb' _ cb' B' pw' _ cw' Wt' pt' _ ct' ps' _ cs' Sp' sky st v hn g f1 f2 f3 hdt).1 ⟨rfl, rfl, rfl, rfl⟩
        · exact fun gb v a g => (HAM gb sd dt gr dr lim rv pr lr cr pb _ cb B pw _ cw Wt pt _ ct _ _ cs Sp sky st v hn g (sea.bed.below a) (sea.water.below a) (sea.speed.below a) hdt).1 ⟨rfl, rfl, rfl, rfl⟩
        · intro i hi
          have q := qn_in (t := dt) (sea.speed i hi).1 (rdAll_lt13 (k := lim) (lb := 6 * n * n) (lw := 6 * n * n) hn.1 (fun i hi => (sea.bed i hi).1) (fun i hi => (sea.water i hi).1.2) (i : Nat) (Sp i)).1 (show lnE n i < 18446744073709551616 by have := lnE_in hn hi; omega) hdt
          unfold flB
          omega
      · refine fk13_no n sd dt gr dr lim rv pr lr cr sky st w LV hn hF LG ?_ ?_ sea.bed sea.water sea.tracer sea.speed (show _ ∧ _ ∧ _ ∧ _ from ⟨by omega, by omega, by omega, by omega⟩)
        · exact fun gb' pb' cb' B' pw' cw' Wt' pt' ct' ps' cs' Sp' v g f1 f2 f3 => (HAM gb' sd dt gr dr lim rv pr lr cr pb' _ cb' B' pw' _ cw' Wt' pt' _ ct' ps' _ cs' Sp' sky st v hn g f1 f2 f3 hdt).2 fit
        · exact fun gb v a g => (HAM gb sd dt gr dr lim rv pr lr cr pb _ cb B pw _ cw Wt pt _ ct ps _ cs Sp sky st v hn g (sea.bed.below a) (sea.water.below a) (sea.speed.below a) hdt).2 fit
  · exact fk13_side side sd dt gr dr lim rv pr lr cr sky st w LV h
end Go.Proofs.YtbdjbhdbegiipaaGreatDoor
