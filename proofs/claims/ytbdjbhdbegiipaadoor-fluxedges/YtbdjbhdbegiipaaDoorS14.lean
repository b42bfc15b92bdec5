/-
  Some of the texts of this proof, one behind the other.
-/
import Derived.Test.YtbdjbhdbegiipaaDoorS13
namespace Go.Proofs.YtbdjbhdbegiipaaDoor
open Go.RowKit Tf Cu
attribute [local go_sem] run_bits run_from raw_feq raw_fne raw_flt raw_fgt run_neg run_store_float
theorem cell_lt13 {w : World} {a : Addr} {v : Value} (h : w.cell? a = some v) : a.block < w.heap.size := by
  rcases Nat.lt_or_ge a.block w.heap.size with h1 | h1
  · exact h1
  · simp [World.cell?, Array.getElem?_eq_none h1] at h
set_option maxRecDepth 100000 in
set_option maxHeartbeats 32000000 in
theorem fe13_go (n M N : Nat) (sd : Int) (dt gr dr : Nat) (lim : Int) (rv : Bool) (pr : Option Addr) (lr cr : Nat) {pb pw pt : Option Addr} {sb so cb cw ct cs : Nat} (sky st : Int) (k : Nat) {qt : Option Addr} {xb xo yb yo zb zo mb db mw dw mt dt2 ms ds : Nat} (sky2 st2 : Int) {D : Nat → Int} (w : World) (LV : Hid (∀ v, Ab w v → Calls Tryd.prog 6 #[] v fun e w' => e = .returned (.bool true) ∧ Below v.heap.size v w')) (HN : Hid (1 ≤ n ∧ n ≤ 32)) (HF : Hid (Fr w)) (L S R Q a b x dp ln : Nat) (d : Int) (KN : Hid (k < N))
    (LG : Hid (∀ v, Calls Tryd.prog 9 #[.agg #[.slice pb M cb, .slice pw M cw, .slice pt M ct, .slice (some ⟨sb, so, none⟩) N cs, .int .i64 sky, .int .i64 st]] v fun e w' => e = .returned (.bool false) ∧ Below v.heap.size v w'))
    (LO : Hid (∀ v, Calls Tryd.prog 9 #[.agg #[.slice (some ⟨xb, xo, none⟩) mb db, .slice (some ⟨yb, yo, none⟩) mw dw, .slice qt mt dt2, .slice (some ⟨zb, zo, none⟩) ms ds, .int .i64 sky2, .int .i64 st2]] v fun e w' => e = .returned (.bool false) ∧ Below v.heap.size v w'))
    (CA : Hid (∀ gb v, Ab w v → GridOf n gb v → Calls Tryd.prog 10 #[.pointer (some ⟨gb, 0, none⟩), .agg #[.int .i64 sd, .float .f64 dt, .float .f64 gr, .float .f64 dr, .int .i64 lim, .bool rv, .slice pr lr cr], .agg #[.slice pb M cb, .slice pw M cw, .slice pt M ct, .slice (some ⟨sb, so, none⟩) N cs, .int .i64 sky, .int .i64 st]] v fun e w' => ∃ b, e = .returned (.tuple #[.slice (some ⟨b, 0, none⟩) N N, .int .i64 0]) ∧ Below v.heap.size v w' ∧ w'.rowIs b 2 N (fun i => .int .i64 (D i)) ∧ v.heap.size ≤ b))
    (EDG : Hid (∀ gb v, GridOf n gb v → Calls Tryd.prog 11 #[.pointer (some ⟨gb, 0, none⟩), .int .i64 (k : Nat)] v fun e w' => e = .returned (.tuple #[.agg #[.int .i64 (L : Nat), .int .i64 (S : Nat), .int .i64 (R : Nat), .int .i64 (Q : Nat)], .bool true]) ∧ Below v.heap.size v w'))
    (BEH : Hid (∀ gb v, GridOf n gb v → Calls Tryd.prog 12 #[.pointer (some ⟨gb, 0, none⟩), .int .i64 (k : Nat)] v fun e w' => e = .returned (.tuple #[.int .i64 (a : Nat), .int .i64 (b : Nat), .bool true]) ∧ Below v.heap.size v w'))
    (DEP : Hid (∀ gb v, Ab w v → GridOf n gb v → Calls Tryd.prog 13 #[.pointer (some ⟨gb, 0, none⟩), .int .i64 lim, .agg #[.slice pb M cb, .slice pw M cw, .slice pt M ct, .slice (some ⟨sb, so, none⟩) N cs, .int .i64 sky, .int .i64 st], .int .i64 (k : Nat), .float .f64 x] v fun e w' => e = .returned (.float .f64 dp) ∧ Below v.heap.size v w'))
    (LEN : Hid (∀ gb v, GridOf n gb v → Calls Tryd.prog 14 #[.pointer (some ⟨gb, 0, none⟩), .int .i64 (k : Nat)] v fun e w' => e = .returned (.float .f64 ln) ∧ Below v.heap.size v w'))
    (QUA : Hid (∀ v : World, Calls Tryd.prog 7 #[.float .f64 x, .float .f64 dp, .float .f64 ln, .float .f64 dt] v fun e w' => e = .returned (.int .i64 d) ∧ Below v.heap.size v w'))
    (FSp : Hid (∀ v, Ab w v → v.cell? ⟨sb, so + k, none⟩ = some (.float .f64 x))) (DK : Hid (D k = d))
    (HAM : Hid (∀ (gb : Nat) (pb : Option Addr) (cb : Nat) (B : Nat → Nat) (pw : Option Addr) (cw : Nat) (Wt : Nat → Int) (pt : Option Addr) (ct : Nat) (ps : Option Addr) (cs : Nat) (Sp : Nat → Nat) (v : World), GridOf n gb v → IsFl v pb M B → IsIn v pw M Wt → IsFl v ps N Sp → Calls Tryd.prog 10 #[.pointer (some ⟨gb, 0, none⟩), .agg #[.int .i64 sd, .float .f64 dt, .float .f64 gr, .float .f64 dr, .int .i64 lim, .bool rv, .slice pr lr cr], .agg #[.slice pb M cb, .slice pw M cw, .slice pt M ct, .slice ps N cs, .int .i64 sky, .int .i64 st]] v fun e w' => ∃ b, e = .returned (.tuple #[.slice (some ⟨b, 0, none⟩) N N, .int .i64 0]) ∧ Below v.heap.size v w' ∧ w'.rowIs b 2 N (fun i => .int .i64 (flB n lim B Wt Sp dt i)) ∧ v.heap.size ≤ b))
    {B : Nat → Nat} {Wt Tr : Nat → Int} {Sp : Nat → Nat} (HB : Hid (IsFl w pb M B)) (HW : Hid (IsIn w pw M Wt)) (HT : Hid (IsIn w pt M Tr)) (HS : Hid (IsFl w (some ⟨sb, so, none⟩) N Sp)) (HL : Hid (M ≤ 65536 ∧ N ≤ 65536)) (F : Nat → Bool)
    (FQ : Hid (∀ c : Nat, (F c = true ∧ ((((c : Nat) : Int) == ((L : Nat) : Int)) = true ∨ ((((c : Nat) : Int) == ((L : Nat) : Int)) = false ∧ (((c : Nat) : Int) == ((R : Nat) : Int)) = true) ∨ ((((c : Nat) : Int) == ((L : Nat) : Int)) = false ∧ (((c : Nat) : Int) == ((R : Nat) : Int)) = false ∧ (((c : Nat) : Int) == ((a : Nat) : Int)) = true) ∨ ((((c : Nat) : Int) == ((L : Nat) : Int)) = false ∧ (((c : Nat) : Int) == ((R : Nat) : Int)) = false ∧ (((c : Nat) : Int) == ((a : Nat) : Int)) = false ∧ (((c : Nat) : Int) == ((b : Nat) : Int)) = true))) ∨ (F c = false ∧ (((c : Nat) : Int) == ((L : Nat) : Int)) = false ∧ (((c : Nat) : Int) == ((R : Nat) : Int)) = false ∧ (((c : Nat) : Int) == ((a : Nat) : Int)) = false ∧ (((c : Nat) : Int) == ((b : Nat) : Int)) = false)))
    (OB : Nat → Nat) (OW : Nat → Int) (OS : Nat → Nat) (HO : Hid (0 < mb ∧ 0 < mw ∧ 0 < ms))
    (OBF : Hid (∀ m, m < mb → ∀ v, Ab w v → v.cell? ⟨xb, xo + m, none⟩ = some (.float .f64 (OB m))))
    (OWF : Hid (∀ m, m < mw → ∀ v, Ab w v → v.cell? ⟨yb, yo + m, none⟩ = some (.int .i64 (OW m))))
    (OSF : Hid (∀ m, m < ms → ∀ v, Ab w v → v.cell? ⟨zb, zo + m, none⟩ = some (.float .f64 (OS m))))
    (HO2 : Hid ((∀ j, j < mb → OB j < 18446744073709551616) ∧ (∀ j, j < mw → -9223372036854775808 ≤ OW j ∧ OW j ≤ 9223372036854775807) ∧ (∀ j, j < ms → OS j < 18446744073709551616)))
    (HLOC : Hid (∀ (B' : Nat → Nat) (W' : Nat → Int) (S' : Nat → Nat), (∀ j, j < M → F j = true → B' j = B j) → (∀ j, j < M → F j = true → W' j = Wt j) → S' k = Sp k → flB n lim B' W' S' dt k = d)) :
    Calls Tryd.prog 4 #[.int .i64 (n : Nat), .agg #[.int .i64 sd, .float .f64 dt, .float .f64 gr, .float .f64 dr, .int .i64 lim, .bool rv, .slice pr lr cr], .agg #[.slice pb M cb, .slice pw M cw, .slice pt M ct, .slice (some ⟨sb, so, none⟩) N cs, .int .i64 sky, .int .i64 st], .int .i64 (k : Nat), .agg #[.slice (some ⟨xb, xo, none⟩) mb db, .slice (some ⟨yb, yo, none⟩) mw dw, .slice qt mt dt2, .slice (some ⟨zb, zo, none⟩) ms ds, .int .i64 sky2, .int .i64 st2]] w fun e w' => e = .returned (.bool true) ∧ Below w.heap.size w w' := by
  have A0 : Hid (Ab w (((w.alloc (.cells #[.int .i64 sd, .float .f64 dt, .float .f64 gr, .float .f64 dr, .int .i64 lim, .bool rv, .slice pr lr cr] 30)).alloc (.cells #[.slice pb M cb, .slice pw M cw, .slice pt M ct, .slice (some ⟨sb, so, none⟩) N cs, .int .i64 sky, .int .i64 st] 34)).alloc (.cells #[.slice (some ⟨xb, xo, none⟩) mb db, .slice (some ⟨yb, yo, none⟩) mw dw, .slice qt mt dt2, .slice (some ⟨zb, zo, none⟩) ms ds, .int .i64 sky2, .int .i64 st2] 34))) := bl3 _ _ _ _
  have RP : Hid ((((w.alloc (.cells #[.int .i64 sd, .float .f64 dt, .float .f64 gr, .float .f64 dr, .int .i64 lim, .bool rv, .slice pr lr cr] 30)).alloc (.cells #[.slice pb M cb, .slice pw M cw, .slice pt M ct, .slice (some ⟨sb, so, none⟩) N cs, .int .i64 sky, .int .i64 st] 34)).alloc (.cells #[.slice (some ⟨xb, xo, none⟩) mb db, .slice (some ⟨yb, yo, none⟩) mw dw, .slice qt mt dt2, .slice (some ⟨zb, zo, none⟩) ms ds, .int .i64 sky2, .int .i64 st2] 34)).heap[w.heap.size]? = some (.cells #[.int .i64 sd, .float .f64 dt, .float .f64 gr, .float .f64 dr, .int .i64 lim, .bool rv, .slice pr lr cr] 30)) := Ab.heap (bl2 _ _ _) (heap_alloc_new _ _)
  have RO : Hid ((((w.alloc (.cells #[.int .i64 sd, .float .f64 dt, .float .f64 gr, .float .f64 dr, .int .i64 lim, .bool rv, .slice pr lr cr] 30)).alloc (.cells #[.slice pb M cb, .slice pw M cw, .slice pt M ct, .slice (some ⟨sb, so, none⟩) N cs, .int .i64 sky, .int .i64 st] 34)).alloc (.cells #[.slice (some ⟨xb, xo, none⟩) mb db, .slice (some ⟨yb, yo, none⟩) mw dw, .slice qt mt dt2, .slice (some ⟨zb, zo, none⟩) ms ds, .int .i64 sky2, .int .i64 st2] 34)).heap[w.heap.size + 1]? = some (.cells #[.slice pb M cb, .slice pw M cw, .slice pt M ct, .slice (some ⟨sb, so, none⟩) N cs, .int .i64 sky, .int .i64 st] 34)) := Ab.heap (bl1 _ _) (heap_alloc2_new _ _ _)
  have RD : Hid ((((w.alloc (.cells #[.int .i64 sd, .float .f64 dt, .float .f64 gr, .float .f64 dr, .int .i64 lim, .bool rv, .slice pr lr cr] 30)).alloc (.cells #[.slice pb M cb, .slice pw M cw, .slice pt M ct, .slice (some ⟨sb, so, none⟩) N cs, .int .i64 sky, .int .i64 st] 34)).alloc (.cells #[.slice (some ⟨xb, xo, none⟩) mb db, .slice (some ⟨yb, yo, none⟩) mw dw, .slice qt mt dt2, .slice (some ⟨zb, zo, none⟩) ms ds, .int .i64 sky2, .int .i64 st2] 34)).heap[w.heap.size + 2]? = some (.cells #[.slice (some ⟨xb, xo, none⟩) mb db, .slice (some ⟨yb, yo, none⟩) mw dw, .slice qt mt dt2, .slice (some ⟨zb, zo, none⟩) ms ds, .int .i64 sky2, .int .i64 st2] 34)) := heap_alloc3_new _ _ _ _
  go_enter Tryd.func4, Tryd.ntmps4
  go_upto_region 1 with fail
  generalize hW : World.alloc (World.alloc (World.alloc w _) _) _ = W at *
  obtain ⟨gp, hgp⟩ : ∃ g, w.heap.size = g := ⟨_, rfl⟩
  obtain ⟨gs, hgs⟩ : ∃ g, w.heap.size + 1 = g := ⟨_, rfl⟩
  obtain ⟨go, hgo⟩ : ∃ g, w.heap.size + 2 = g := ⟨_, rfl⟩
  rw [hgp] at RP
  rw [hgs] at RO
  rw [hgo] at RD
  rw [hgo, hgs, hgp]
  clear hgs hgp hgo hW
  go_wp2_with fail
  refine (LV.out _ A0.out).mono ?_
  rintro e9 v1 ⟨rfl, b1⟩
  have A1 : Hid (Ab W v1) := b1
  clear b1
  go_wp2_with fail
  refine (new_at n v1 HN.out (HF.out.to (A0.out.trans A1.out))).mono ?_
  rintro e9 v2 ⟨gb, rfl, a2, -, g2⟩
  have A2 : Hid (Ab W v2) := A1.out.trans a2
  have G2 : Hid (GridOf n gb v2) := g2
  clear a2 g2 A1
  have s0 := cell_of_row _ _ 0 _ _ _ (A2.out.heap RO.out)
  have s1 := cell_of_row _ _ 1 _ _ _ (A2.out.heap RO.out)
  have s2 := cell_of_row _ _ 2 _ _ _ (A2.out.heap RO.out)
  have s3 := cell_of_row _ _ 3 _ _ _ (A2.out.heap RO.out)
  have s4 := cell_of_row _ _ 4 _ _ _ (A2.out.heap RO.out)
  have s5 := cell_of_row _ _ 5 _ _ _ (A2.out.heap RO.out)
  have o0 := cell_of_row _ _ 0 _ _ _ (A2.out.heap RD.out)
  have o1 := cell_of_row _ _ 1 _ _ _ (A2.out.heap RD.out)
  have o2 := cell_of_row _ _ 2 _ _ _ (A2.out.heap RD.out)
  have o3 := cell_of_row _ _ 3 _ _ _ (A2.out.heap RD.out)
  have o4 := cell_of_row _ _ 4 _ _ _ (A2.out.heap RD.out)
  have o5 := cell_of_row _ _ 5 _ _ _ (A2.out.heap RD.out)
  go_wp2_with fail
  refine (LG.out v2).mono ?_
  rintro e9 v3 ⟨rfl, b3⟩
  have A3 : Hid (Ab W v3) := A2.out.trans b3
  have G3 : Hid (GridOf n gb v3) := G2.out.to b3
  clear b3 A2 G2 s0 s1 s2 s3 s4 s5 o0 o1 o2 o3 o4 o5
  have o0 := cell_of_row _ _ 0 _ _ _ (A3.out.heap RD.out)
  have o1 := cell_of_row _ _ 1 _ _ _ (A3.out.heap RD.out)
  have o2 := cell_of_row _ _ 2 _ _ _ (A3.out.heap RD.out)
  have o3 := cell_of_row _ _ 3 _ _ _ (A3.out.heap RD.out)
  have o4 := cell_of_row _ _ 4 _ _ _ (A3.out.heap RD.out)
  have o5 := cell_of_row _ _ 5 _ _ _ (A3.out.heap RD.out)
  go_wp2_with fail
  refine (LO.out v3).mono ?_
  rintro e9 v4 ⟨rfl, b4⟩
  have A4 : Hid (Ab W v4) := A3.out.trans b4
  have G4 : Hid (GridOf n gb v4) := G3.out.to b4
  clear b4 A3 G3 o0 o1 o2 o3 o4 o5
  have s0 := cell_of_row _ _ 0 _ _ _ (A4.out.heap RO.out)
  have s1 := cell_of_row _ _ 1 _ _ _ (A4.out.heap RO.out)
  have s2 := cell_of_row _ _ 2 _ _ _ (A4.out.heap RO.out)
  have s3 := cell_of_row _ _ 3 _ _ _ (A4.out.heap RO.out)
  have s4 := cell_of_row _ _ 4 _ _ _ (A4.out.heap RO.out)
  have s5 := cell_of_row _ _ 5 _ _ _ (A4.out.heap RO.out)
  have p0 := cell_of_row _ _ 0 _ _ _ (A4.out.heap RP.out)
  have p1 := cell_of_row _ _ 1 _ _ _ (A4.out.heap RP.out)
  have p2 := cell_of_row _ _ 2 _ _ _ (A4.out.heap RP.out)
  have p3 := cell_of_row _ _ 3 _ _ _ (A4.out.heap RP.out)
  have p4 := cell_of_row _ _ 4 _ _ _ (A4.out.heap RP.out)
  have p5 := cell_of_row _ _ 5 _ _ _ (A4.out.heap RP.out)
  have p6 := cell_of_row _ _ 6 _ _ _ (A4.out.heap RP.out)
  go_wp2_with fail
  refine (CA.out gb v4 (A0.out.trans A4.out) G4.out).mono ?_
  rintro e9 v5 ⟨bl, rfl, b5, r5, -⟩
  have A5 : Hid (Ab W v5) := A4.out.trans b5
  have G5 : Hid (GridOf n gb v5) := G4.out.to b5
  have R5 := hid r5
  clear b5 r5 A4 G4 s0 s1 s2 s3 s4 s5 p0 p1 p2 p3 p4 p5 p6
  go_wp2_with fail
  refine (EDG.out gb v5 G5.out).mono ?_
  rintro e9 v6 ⟨rfl, b6⟩
  have A6 : Hid (Ab v5 (v6.alloc (.cells #[.int .i64 (L : Nat), .int .i64 (S : Nat), .int .i64 (R : Nat), .int .i64 (Q : Nat)] 43))) := Ab.alloc (show Ab v5 v6 from b6) _
  have GE : Hid ((v6.alloc (.cells #[.int .i64 (L : Nat), .int .i64 (S : Nat), .int .i64 (R : Nat), .int .i64 (Q : Nat)] 43)).heap[v6.heap.size]? = some (.cells #[.int .i64 (L : Nat), .int .i64 (S : Nat), .int .i64 (R : Nat), .int .i64 (Q : Nat)] 43)) := heap_alloc_new _ _
  clear b6
  go_upto_region 10 with fail
  generalize hV : World.alloc v6 _ = V at *
  obtain ⟨ge, hge⟩ : ∃ g, v6.heap.size = g := ⟨_, rfl⟩
  rw [hge] at GE
  rw [hge]
  clear hV hge
  go_wp2_with fail
  refine (BEH.out gb V (G5.out.to A6.out)).mono ?_
  rintro e9 v7 ⟨rfl, b7⟩
  have A7 : Hid (Ab v5 v7) := A6.out.trans b7
  have GE7 : Hid (v7.heap[ge]? = some (.cells #[.int .i64 (L : Nat), .int .i64 (S : Nat), .int .i64 (R : Nat), .int .i64 (Q : Nat)] 43)) := Ab.heap b7 GE.out
  clear b7 A6 GE
  have s3 := cell_of_row _ _ 3 _ _ _ ((A5.out.trans A7.out).heap RO.out)
  have kN := KN.out
  have kI : (k : Int) < N := by omega
  have kb : decide ((k : Int) < 0) = false := by rw [decide_eq_false_iff_not]; omega
  have kc : decide ((N : Int) ≤ (k : Int)) = false := by rw [decide_eq_false_iff_not]; omega
  go_upto_region 13 with fail
  clear s3
  have dd : ((d : Int) != d) = false := by simp
  obtain ⟨UU, E, hF1, hF2⟩ := cls v7
  have HU := hid hF2
  have HU1 := hid hF1
  have HX : Hid (∀ u, Ab v5 (E u)) := fun u => Ab.trans A7.out (hF1 u)
  have s0 : ∀ u, (E u).cell? ⟨gs, 0, none⟩ = some (.slice pb M cb) := fun u => cell_of_row _ _ 0 _ _ _ ((A5.out.trans (A7.out.trans (hF1 u))).heap RO.out)
  have s1 : ∀ u, (E u).cell? ⟨gs, 1, none⟩ = some (.slice pw M cw) := fun u => cell_of_row _ _ 1 _ _ _ ((A5.out.trans (A7.out.trans (hF1 u))).heap RO.out)
  have s2 : ∀ u, (E u).cell? ⟨gs, 2, none⟩ = some (.slice pt M ct) := fun u => cell_of_row _ _ 2 _ _ _ ((A5.out.trans (A7.out.trans (hF1 u))).heap RO.out)
  have s3 : ∀ u, (E u).cell? ⟨gs, 3, none⟩ = some (.slice (some ⟨sb, so, none⟩) N cs) := fun u => cell_of_row _ _ 3 _ _ _ ((A5.out.trans (A7.out.trans (hF1 u))).heap RO.out)
  have s4 : ∀ u, (E u).cell? ⟨gs, 4, none⟩ = some (.int .i64 sky) := fun u => cell_of_row _ _ 4 _ _ _ ((A5.out.trans (A7.out.trans (hF1 u))).heap RO.out)
  have s5 : ∀ u, (E u).cell? ⟨gs, 5, none⟩ = some (.int .i64 st) := fun u => cell_of_row _ _ 5 _ _ _ ((A5.out.trans (A7.out.trans (hF1 u))).heap RO.out)
  have p1 : ∀ u, (E u).cell? ⟨gp, 1, none⟩ = some (.float .f64 dt) := fun u => cell_of_row _ _ 1 _ _ _ ((A5.out.trans (A7.out.trans (hF1 u))).heap RP.out)
  have p4 : ∀ u, (E u).cell? ⟨gp, 4, none⟩ = some (.int .i64 lim) := fun u => cell_of_row _ _ 4 _ _ _ ((A5.out.trans (A7.out.trans (hF1 u))).heap RP.out)
  have sx : ∀ u, (E u).cell? ⟨sb, so + k, none⟩ = some (.float .f64 x) := fun u => FSp.out _ (A0.out.trans (A5.out.trans (A7.out.trans (hF1 u))))
  have lx : ∀ u, (E u).cell? ⟨bl, k, none⟩ = some (.int .i64 d) := fun u => ((rowIs.ab R5.out (A7.out.trans (hF1 u))).cell kN).trans (by rw [DK.out])
  have DD0 := HU.out _ (Ab.refl v7).drew
  clear hF1 hF2
  refine region_cls E (by kernel_rfl) (by kernel_rfl) DD0 ?_
  repeat (go_big_quiet_step (first
    | (with_reducible rfl)
    | (go_at_call 13; exact calls_cls HU HU1 (DEP.out gb _ (A0.out.trans (A5.out.trans (HX.out _))) (G5.out.to (HX.out _))))
    | (go_at_call 14; exact calls_cls HU HU1 (LEN.out gb _ (G5.out.to (HX.out _))))
    | (go_at_call 7; exact calls_cls HU HU1 (QUA.out _))))
  refine wpQuiet_nil ?_
  intro z8 hwz
  obtain ⟨u0, hu⟩ := hwz
  have GE8 : Hid (z8.heap[ge]? = some (.cells #[.int .i64 (L : Nat), .int .i64 (S : Nat), .int .i64 (R : Nat), .int .i64 (Q : Nat)] 43)) := by rw [hu]; exact (HU1.out u0).heap GE7.out
  have AZ : Hid (Ab v5 z8) := by rw [hu]; exact HX.out u0
  clear hu u0
  clear HU HU1 HX DD0 s0 s1 s2 s3 s4 s5 p1 p4 sx lx
  clear E UU
  have A8 : Hid (Ab W z8) := A5.out.trans AZ.out
  have G8 : Hid (GridOf n gb z8) := G5.out.to AZ.out
  have R8 := hid (rowIs.ab R5.out AZ.out)
  clear AZ A7 GE7 G5 R5 dd
  have o0 := cell_of_row _ _ 0 _ _ _ (A8.out.heap RD.out)
  have o1 := cell_of_row _ _ 1 _ _ _ (A8.out.heap RD.out)
  have o2 := cell_of_row _ _ 2 _ _ _ (A8.out.heap RD.out)
  have o3 := cell_of_row _ _ 3 _ _ _ (A8.out.heap RD.out)
  have o4 := cell_of_row _ _ 4 _ _ _ (A8.out.heap RD.out)
  have o5 := cell_of_row _ _ 5 _ _ _ (A8.out.heap RD.out)
  have q1 : (((mb : Nat) : Int) == 0) = false := by have := HO.out; rw [beq_eq_false_iff_ne]; omega
  have q2 : (((mw : Nat) : Int) == 0) = false := by have := HO.out; rw [beq_eq_false_iff_ne]; omega
  have q3 : (((ms : Nat) : Int) == 0) = false := by have := HO.out; rw [beq_eq_false_iff_ne]; omega
  have CP := hid (copied13_at pb pw pt (some ⟨sb, so, none⟩) M cb M cw M ct N cs B Wt Tr Sp sky st z8 (HB.out.below (A0.out.trans A8.out)) (HW.out.below (A0.out.trans A8.out)) (HT.out.below (A0.out.trans A8.out)) (HS.out.below (A0.out.trans A8.out)) (by have := HL.out; omega))
  have s0 := cell_of_row _ _ 0 _ _ _ (A8.out.heap RO.out)
  have s1 := cell_of_row _ _ 1 _ _ _ (A8.out.heap RO.out)
  have s2 := cell_of_row _ _ 2 _ _ _ (A8.out.heap RO.out)
  have s3 := cell_of_row _ _ 3 _ _ _ (A8.out.heap RO.out)
  have s4 := cell_of_row _ _ 4 _ _ _ (A8.out.heap RO.out)
  have s5 := cell_of_row _ _ 5 _ _ _ (A8.out.heap RO.out)
  go_wp2_with fail
  refine CP.out.mono ?_
  rintro e9 v9 ⟨bb, bw, bt, bs, rfl, b9, rb, rw_, rt, rs, nb⟩
  have CX : Hid (CpX z8 v9.heap.size bb bw bt bs M N #[.slice (some ⟨bb, 0, none⟩) M (M + 9), .slice (some ⟨bw, 0, none⟩) M (M + 9), .slice (some ⟨bt, 0, none⟩) M (M + 9), .slice (some ⟨bs, 0, none⟩) N (N + 9), .int .i64 sky, .int .i64 st] 34 (.float .f64 4635118810238550016) (.int .i64 77) (.float .f64 0) (.int .i64 0) (fun k => .float .f64 (B k)) (fun k => .int .i64 (Wt k)) (fun k => .int .i64 (Tr k)) (fun k => .float .f64 (Sp k)) (v9.alloc (.cells #[.slice (some ⟨bb, 0, none⟩) M (M + 9), .slice (some ⟨bw, 0, none⟩) M (M + 9), .slice (some ⟨bt, 0, none⟩) M (M + 9), .slice (some ⟨bs, 0, none⟩) N (N + 9), .int .i64 sky, .int .i64 st] 34))) := ⟨Ab.alloc (show Ab z8 v9 from b9) _, heap_alloc_new _ _, rb.alloc _, rw_.alloc _, rt.alloc _, rs.alloc _⟩
  have UN : Hid (Unl z8 v9.heap.size bb bw bt bs) := ⟨⟨by omega, by omega, by omega, by omega⟩, ⟨by have := rb.lt; omega, by have := rw_.lt; omega, by have := rt.lt; omega, by have := rs.lt; omega⟩, by omega, by omega, by omega, by omega, by omega, by omega⟩
  clear b9 rb rw_ rt rs nb CP s0 s1 s2 s3 s4 s5 o0 o1 o2 o3 o4 o5 q1 q2 q3 kb kc
  go_upto_region 19 with fail
  generalize hV : World.alloc v9 _ = V9 at *
  obtain ⟨gt, hgt⟩ : ∃ g, v9.heap.size = g := ⟨_, rfl⟩
  rw [hgt] at CX UN
  rw [hgt]
  clear hgt hV
  go_loopw [20] (fun iv wr => ∃ c : Nat, c ≤ M ∧ iv = .int .i64 (c : Nat) ∧ CpX z8 gt bb bw bt bs M N #[.slice (some ⟨bb, 0, none⟩) M (M + 9), .slice (some ⟨bw, 0, none⟩) M (M + 9), .slice (some ⟨bt, 0, none⟩) M (M + 9), .slice (some ⟨bs, 0, none⟩) N (N + 9), .int .i64 sky, .int .i64 st] 34 (.float .f64 4635118810238550016) (.int .i64 77) (.float .f64 0) (.int .i64 0) (fun k => .float .f64 (if k < c ∧ F k = false then OB (k % mb) else B k)) (fun k => .int .i64 (if k < c ∧ F k = false then OW (k % mw) else Wt k)) (fun k => .int .i64 (if k < c ∧ F k = false then 5 else Tr k)) (fun k => .float .f64 (Sp k)) wr) (fun iv _ => M - (intOf iv).toNat)
  case atStart => exact ⟨0, by omega, rfl, CX.out.congr (fun k _ => by simp) (fun k _ => by simp) (fun k _ => by simp) (fun k _ => rfl)⟩
  case round =>
    obtain ⟨c, hc, rfl, cx⟩ := hrel
    have CR := hid cx
    clear cx CX
    have t0 := cell_of_row _ _ 0 _ _ _ CR.out.2.1
    by_cases hcM : c < M
    · have HC := hid hcM
      have hcI : (c : Int) < M := by omega
      have hcB : (c : Int) ≤ 1048576 := by have := HL.out; omega
      have e0 := cell_of_row _ _ 0 _ _ _ (CR.out.1.heap GE8.out)
      have e2 := cell_of_row _ _ 2 _ _ _ (CR.out.1.heap GE8.out)
      clear hcM
      rcases FQ.out c with ⟨fc, fq⟩ | ⟨fc, n1, n2, n3, n4⟩
      · have FC := hid fc
        clear fc
        have FIN : Hid ((∃ c' : Nat, c' ≤ M ∧ Value.int .i64 (↑c + 1) = .int .i64 (c' : Nat) ∧ CpX z8 gt bb bw bt bs M N #[.slice (some ⟨bb, 0, none⟩) M (M + 9), .slice (some ⟨bw, 0, none⟩) M (M + 9), .slice (some ⟨bt, 0, none⟩) M (M + 9), .slice (some ⟨bs, 0, none⟩) N (N + 9), .int .i64 sky, .int .i64 st] 34 (.float .f64 4635118810238550016) (.int .i64 77) (.float .f64 0) (.int .i64 0) (fun k => .float .f64 (if k < c' ∧ F k = false then OB (k % mb) else B k)) (fun k => .int .i64 (if k < c' ∧ F k = false then OW (k % mw) else Wt k)) (fun k => .int .i64 (if k < c' ∧ F k = false then 5 else Tr k)) (fun k => .float .f64 (Sp k)) wr) ∧ M - (intOf (Value.int .i64 (↑c + 1))).toNat < M - (intOf (Value.int .i64 (c : Nat))).toNat) :=
          ⟨⟨c + 1, by have := HC.out; omega, by simp, CR.out.congr (fun k _ => upd_yes (Value.float .f64) (fun k => OB (k % mb)) B FC.out k) (fun k _ => upd_yes (Value.int .i64) (fun k => OW (k % mw)) Wt FC.out k) (fun k _ => upd_yes (Value.int .i64) (fun _ => 5) Tr FC.out k) (fun _ _ => rfl)⟩, by have := HC.out; simp [intOf]; omega⟩
        rcases fq with m1 | ⟨m1, m2⟩ | ⟨m1, m2, m3⟩ | ⟨m1, m2, m3, m4⟩
        · go_wp2
          exact FIN.out
        · go_wp2
          exact FIN.out
        · go_wp2
          exact FIN.out
        · go_wp2
          exact FIN.out
      · have FC := hid fc
        clear fc
        obtain ⟨m1, hm1⟩ : ∃ y, c % mb = y := ⟨_, rfl⟩
        have lm1 : m1 < mb := by rw [← hm1]; exact Nat.mod_lt _ (by have := HO.out; omega)
        have im1 : (m1 : Int) < mb := by omega
        have tm1 : (c : Int).tmod mb = m1 := by rw [← hm1]; rw [Int.tmod_eq_emod_of_nonneg (by omega)]; rfl
        have Hm1 := hid hm1
        have Lm1 := hid lm1
        clear hm1 lm1
        obtain ⟨m2, hm2⟩ : ∃ y, c % mw = y := ⟨_, rfl⟩
        have lm2 : m2 < mw := by rw [← hm2]; exact Nat.mod_lt _ (by have := HO.out; omega)
        have im2 : (m2 : Int) < mw := by omega
        have tm2 : (c : Int).tmod mw = m2 := by rw [← hm2]; rw [Int.tmod_eq_emod_of_nonneg (by omega)]; rfl
        have Hm2 := hid hm2
        have Lm2 := hid lm2
        clear hm2 lm2
        have mbz : ¬ (((mb : Nat) : Int) = 0) := by have := HO.out; omega
        have mby : (((mb : Nat) : Int) == 0) = false := by have := HO.out; rw [beq_eq_false_iff_ne]; omega
        have mwz : ¬ (((mw : Nat) : Int) = 0) := by have := HO.out; omega
        have mwy : (((mw : Nat) : Int) == 0) = false := by have := HO.out; rw [beq_eq_false_iff_ne]; omega
        go_upto_region 22 with fail
        clear t0 e0 e2
        obtain ⟨UU, E, hF1, hF2⟩ := cls wr
        have HU := hid hF2
        have HU1 := hid hF1
        have HX : Hid (∀ u, Ab wr (E u)) := fun u => Ab.trans (Ab.refl wr) (hF1 u)
        have ta : ∀ u, (E u).cell? ⟨gt, 0, none⟩ = some (.slice (some ⟨bb, 0, none⟩) M (M + 9)) := fun u => cell_of_row _ _ 0 _ _ _ ((CR.out.to (hF1 u)).2.1)
        have tb : ∀ u, (E u).cell? ⟨go, 0, none⟩ = some (.slice (some ⟨xb, xo, none⟩) mb db) := fun u => cell_of_row _ _ 0 _ _ _ ((A8.out.trans (CR.out.1.trans (hF1 u))).heap RD.out)
        have tc : ∀ u, (E u).cell? ⟨xb, xo + m1, none⟩ = some (.float .f64 (OB m1)) := fun u => OBF.out m1 Lm1.out _ (A0.out.trans (A8.out.trans (CR.out.1.trans (hF1 u))))
        have DD0 := HU.out _ (Ab.refl wr).drew
        clear hF1 hF2
        refine region_tail 13 E (by kernel_rfl) (by kernel_rfl) (by kernel_rfl) DD0 ?_
        simp only [List.take_succ_cons, List.take_zero, List.drop_succ_cons, List.drop_zero]
        repeat (go_big_quiet_step (first
          | (with_reducible rfl)
        ))
        refine wpQuiet_nil ?_
        intro y1 hwz
        obtain ⟨u0, hu⟩ := hwz
        have AZ : Hid (Ab wr y1) := by rw [hu]; exact HX.out u0
        clear hu u0
        clear HU HU1 HX DD0 ta tb tc
        clear E UU
        have C1 := hid (CR.out.to AZ.out)
        have xc := C1.out.2.2.1.cell (show c < M + 9 by have := HC.out; omega)
        have xf := C1.out.2.2.1.frozen c
        have S1 := hid (C1.out.setB UN.out c (.float .f64 (OB m1)) HC.out)
        clear AZ CR
        go_upto_region 23 with fail
        clear xc xf C1
        generalize World.setCell y1 _ _ = u1 at *
        have CR := S1
        clear S1
        obtain ⟨UU, E, hF1, hF2⟩ := cls u1
        have HU := hid hF2
        have HU1 := hid hF1
        have HX : Hid (∀ u, Ab u1 (E u)) := fun u => Ab.trans (Ab.refl u1) (hF1 u)
        have ta : ∀ u, (E u).cell? ⟨gt, 1, none⟩ = some (.slice (some ⟨bw, 0, none⟩) M (M + 9)) := fun u => cell_of_row _ _ 1 _ _ _ ((CR.out.to (hF1 u)).2.1)
        have tb : ∀ u, (E u).cell? ⟨go, 1, none⟩ = some (.slice (some ⟨yb, yo, none⟩) mw dw) := fun u => cell_of_row _ _ 1 _ _ _ ((A8.out.trans (CR.out.1.trans (hF1 u))).heap RD.out)
        have tc : ∀ u, (E u).cell? ⟨yb, yo + m2, none⟩ = some (.int .i64 (OW m2)) := fun u => OWF.out m2 Lm2.out _ (A0.out.trans (A8.out.trans (CR.out.1.trans (hF1 u))))
        have DD0 := HU.out _ (Ab.refl u1).drew
        clear hF1 hF2
        refine region_tail 13 E (by kernel_rfl) (by kernel_rfl) (by kernel_rfl) DD0 ?_
        simp only [List.take_succ_cons, List.take_zero, List.drop_succ_cons, List.drop_zero]
        repeat (go_big_quiet_step (first
          | (with_reducible rfl)
        ))
        refine wpQuiet_nil ?_
        intro y2 hwz
        obtain ⟨u0, hu⟩ := hwz
        have AZ : Hid (Ab u1 y2) := by rw [hu]; exact HX.out u0
        clear hu u0
        clear HU HU1 HX DD0 ta tb tc
        clear E UU
        have C1 := hid (CR.out.to AZ.out)
        have xc := C1.out.2.2.2.1.cell (show c < M + 9 by have := HC.out; omega)
        have xf := C1.out.2.2.2.1.frozen c
        have S1 := hid (C1.out.setW UN.out c (.int .i64 (OW m2)) HC.out)
        clear AZ CR
        go_upto_region 24 with fail
        clear xc xf C1
        generalize World.setCell y2 _ _ = u2 at *
        have t2 := cell_of_row _ _ 2 _ _ _ S1.out.2.1
        have xc := S1.out.2.2.2.2.1.cell (show c < M + 9 by have := HC.out; omega)
        have xf := S1.out.2.2.2.2.1.frozen c
        have S2 := hid (S1.out.setT UN.out c (.int .i64 5) HC.out)
        go_wp2
        refine ⟨⟨c + 1, by have := HC.out; omega, by simp, S2.out.congr (fun j _ => ?_) (fun j _ => ?_) (fun j _ => ?_) (fun _ _ => rfl)⟩, by have := HC.out; simp [intOf]; omega⟩
        · rw [← Hm1.out]; exact upd_no (Value.float .f64) (fun k => OB (k % mb)) B FC.out j
        · rw [← Hm2.out]; exact upd_no (Value.int .i64) (fun k => OW (k % mw)) Wt FC.out j
        · exact upd_no (Value.int .i64) (fun _ => 5) Tr FC.out j
    · have e6 : M = c := by omega
      subst e6
      have CY : Hid (CpX z8 gt bb bw bt bs M N #[.slice (some ⟨bb, 0, none⟩) M (M + 9), .slice (some ⟨bw, 0, none⟩) M (M + 9), .slice (some ⟨bt, 0, none⟩) M (M + 9), .slice (some ⟨bs, 0, none⟩) N (N + 9), .int .i64 sky, .int .i64 st] 34 (.float .f64 4635118810238550016) (.int .i64 77) (.float .f64 0) (.int .i64 0) (fun k => .float .f64 (if k < M ∧ F k = false then OB (k % mb) else B k)) (fun k => .int .i64 (if k < M ∧ F k = false then OW (k % mw) else Wt k)) (fun k => .int .i64 (if k < M ∧ F k = false then 5 else Tr k)) (fun j => .float .f64 (if j < 0 ∧ (j == k) = false then OS (j % ms) else Sp j)) wr) := CR.out.congr (fun _ _ => rfl) (fun _ _ => rfl) (fun _ _ => rfl) (fun j _ => by simp)
      clear CR
      go_upto_region 26 with fail
      clear t0
      go_loopw [21] (fun iv w2 => ∃ c : Nat, c ≤ N ∧ iv = .int .i64 (c : Nat) ∧ CpX z8 gt bb bw bt bs M N #[.slice (some ⟨bb, 0, none⟩) M (M + 9), .slice (some ⟨bw, 0, none⟩) M (M + 9), .slice (some ⟨bt, 0, none⟩) M (M + 9), .slice (some ⟨bs, 0, none⟩) N (N + 9), .int .i64 sky, .int .i64 st] 34 (.float .f64 4635118810238550016) (.int .i64 77) (.float .f64 0) (.int .i64 0) (fun k => .float .f64 (if k < M ∧ F k = false then OB (k % mb) else B k)) (fun k => .int .i64 (if k < M ∧ F k = false then OW (k % mw) else Wt k)) (fun k => .int .i64 (if k < M ∧ F k = false then 5 else Tr k)) (fun j => .float .f64 (if j < c ∧ (j == k) = false then OS (j % ms) else Sp j)) w2) (fun iv _ => N - (intOf iv).toNat)
      case atStart => exact ⟨0, by omega, rfl, CY.out⟩
      case round =>
        obtain ⟨c, hc, rfl, cx⟩ := hrel
        have CR := hid cx
        clear cx CY
        have t3 := cell_of_row _ _ 3 _ _ _ CR.out.2.1
        by_cases hcN : c < N
        · have HC := hid hcN
          have hcI : (c : Int) < N := by omega
          have hcB : (c : Int) ≤ 1048576 := by have := HL.out; omega
          clear hcN
          by_cases ek : c = k
          · have n1 : ((c : Int) != (k : Int)) = false := by rw [ek]; simp
            have EK := hid ek
            clear ek
            go_wp2
            exact ⟨⟨c + 1, by have := HC.out; omega, by simp, CR.out.congr (fun _ _ => rfl) (fun _ _ => rfl) (fun _ _ => rfl) (fun j _ => upd_yes (F := fun j => j == k) (Value.float .f64) (fun j => OS (j % ms)) Sp (by simp [EK.out]) j)⟩, by have := HC.out; simp [intOf]; omega⟩
          · have n1 : ((c : Int) != (k : Int)) = true := by rw [bne_iff_ne]; omega
            have EK := hid ek
            clear ek
            obtain ⟨m3, hm3⟩ : ∃ y, c % ms = y := ⟨_, rfl⟩
            have lm3 : m3 < ms := by rw [← hm3]; exact Nat.mod_lt _ (by have := HO.out; omega)
            have im3 : (m3 : Int) < ms := by omega
            have tm3 : (c : Int).tmod ms = m3 := by rw [← hm3]; rw [Int.tmod_eq_emod_of_nonneg (by omega)]; rfl
            have Hm3 := hid hm3
            have Lm3 := hid lm3
            clear hm3 lm3
            have msz : ¬ (((ms : Nat) : Int) = 0) := by have := HO.out; omega
            have msy : (((ms : Nat) : Int) == 0) = false := by have := HO.out; rw [beq_eq_false_iff_ne]; omega
            go_upto_region 29 with fail
            clear t3
            obtain ⟨UU, E, hF1, hF2⟩ := cls wr
            have HU := hid hF2
            have HU1 := hid hF1
            have HX : Hid (∀ u, Ab wr (E u)) := fun u => Ab.trans (Ab.refl wr) (hF1 u)
            have ta : ∀ u, (E u).cell? ⟨gt, 3, none⟩ = some (.slice (some ⟨bs, 0, none⟩) N (N + 9)) := fun u => cell_of_row _ _ 3 _ _ _ ((CR.out.to (hF1 u)).2.1)
            have tb : ∀ u, (E u).cell? ⟨go, 3, none⟩ = some (.slice (some ⟨zb, zo, none⟩) ms ds) := fun u => cell_of_row _ _ 3 _ _ _ ((A8.out.trans (CR.out.1.trans (hF1 u))).heap RD.out)
            have tc : ∀ u, (E u).cell? ⟨zb, zo + m3, none⟩ = some (.float .f64 (OS m3)) := fun u => OSF.out m3 Lm3.out _ (A0.out.trans (A8.out.trans (CR.out.1.trans (hF1 u))))
            have DD0 := HU.out _ (Ab.refl wr).drew
            clear hF1 hF2
            refine region_tail 13 E (by kernel_rfl) (by kernel_rfl) (by kernel_rfl) DD0 ?_
            simp only [List.take_succ_cons, List.take_zero, List.drop_succ_cons, List.drop_zero]
            repeat (go_big_quiet_step (first
              | (with_reducible rfl)
            ))
            refine wpQuiet_nil ?_
            intro y3 hwz
            obtain ⟨u0, hu⟩ := hwz
            have AZ : Hid (Ab wr y3) := by rw [hu]; exact HX.out u0
            clear hu u0
            clear HU HU1 HX DD0 ta tb tc
            clear E UU
            have C1 := hid (CR.out.to AZ.out)
            have xc := C1.out.2.2.2.2.2.cell (show c < N + 9 by have := HC.out; omega)
            have xf := C1.out.2.2.2.2.2.frozen c
            have S1 := hid (C1.out.setS UN.out c (.float .f64 (OS m3)) HC.out)
            go_wp2
            refine ⟨⟨c + 1, by have := HC.out; omega, by simp, S1.out.congr (fun _ _ => rfl) (fun _ _ => rfl) (fun _ _ => rfl) (fun j _ => ?_)⟩, by have := HC.out; simp [intOf]; omega⟩
            rw [← Hm3.out]
            exact upd_no (F := fun j => j == k) (Value.float .f64) (fun j => OS (j % ms)) Sp (by simpa using EK.out) j
        · have e6 : N = c := by omega
          subst e6
          have AR : Hid (Ab W wr) := A8.out.trans CR.out.1
          have IB := hid (mk_fl CR.out.2.2.1 (fun j hj => by by_cases q : j < M ∧ F j = false
                                                             · rw [if_pos q]; exact (HO2.out.1 _ (Nat.mod_lt _ (by have := HO.out; omega)))
                                                             · rw [if_neg q]; exact (HB.out j hj).1))
          have IW := hid (mk_in CR.out.2.2.2.1 (fun j hj => by by_cases q : j < M ∧ F j = false
                                                               · rw [if_pos q]; exact (HO2.out.2.1 _ (Nat.mod_lt _ (by have := HO.out; omega)))
                                                               · rw [if_neg q]; exact (HW.out j hj).1))
          have IS := hid (mk_fl CR.out.2.2.2.2.2 (fun j hj => by by_cases q : j < N ∧ (j == k) = false
                                                                 · rw [if_pos q]; exact (HO2.out.2.2 _ (Nat.mod_lt _ (by have := HO.out; omega)))
                                                                 · rw [if_neg q]; exact (HS.out j hj).1))
          have p0 := cell_of_row _ _ 0 _ _ _ (AR.out.heap RP.out)
          have p1 := cell_of_row _ _ 1 _ _ _ (AR.out.heap RP.out)
          have p2 := cell_of_row _ _ 2 _ _ _ (AR.out.heap RP.out)
          have p3 := cell_of_row _ _ 3 _ _ _ (AR.out.heap RP.out)
          have p4 := cell_of_row _ _ 4 _ _ _ (AR.out.heap RP.out)
          have p5 := cell_of_row _ _ 5 _ _ _ (AR.out.heap RP.out)
          have p6 := cell_of_row _ _ 6 _ _ _ (AR.out.heap RP.out)
          have t0 := cell_of_row _ _ 0 _ _ _ CR.out.2.1
          have t1 := cell_of_row _ _ 1 _ _ _ CR.out.2.1
          have t2 := cell_of_row _ _ 2 _ _ _ CR.out.2.1
          have t3x := cell_of_row _ _ 3 _ _ _ CR.out.2.1
          have t4 := cell_of_row _ _ 4 _ _ _ CR.out.2.1
          have t5 := cell_of_row _ _ 5 _ _ _ CR.out.2.1
          go_wp2_with fail
          refine (HAM.out gb (some ⟨bb, 0, none⟩) (M + 9) _ (some ⟨bw, 0, none⟩) (M + 9) _ (some ⟨bt, 0, none⟩) (M + 9) (some ⟨bs, 0, none⟩) (N + 9) _ wr (G8.out.to CR.out.1) IB.out IW.out IS.out).mono ?_
          rintro e9 v10 ⟨bm, rfl, b10, r10, -⟩
          have A10 : Hid (Ab z8 v10) := CR.out.1.trans b10
          have M10 : Hid (v10.cell? ⟨bm, k, none⟩ = some (.int .i64 d)) := by
            have h := r10.cell kN
            rw [HLOC.out _ _ _ (fun j hj q => by rw [if_neg (by simp [q])]) (fun j hj q => by rw [if_neg (by simp [q])]) (by simp)] at h
            exact h
          have L10 : Hid (v10.cell? ⟨bl, k, none⟩ = some (.int .i64 d)) := ((rowIs.ab R8.out A10.out).cell kN).trans (by rw [DK.out])
          clear b10 r10 p0 p1 p2 p3 p4 p5 p6 t0 t1 t2 t3 t3x t4 t5
          have dd : ((d : Int) == d) = true := by simp
          have nn : ((N : Int) == (N : Int)) = true := by simp
          go_upto_region 31 with fail
          obtain ⟨UU, E, hF1, hF2⟩ := cls v10
          have HU := hid hF2
          have HU1 := hid hF1
          have HX : Hid (∀ u, Ab z8 (E u)) := fun u => Ab.trans A10.out (hF1 u)
          have mx : ∀ u, (E u).cell? ⟨bm, k, none⟩ = some (.int .i64 d) := fun u => (Below.cell (hF1 u) (cell_lt13 M10.out)).trans M10.out
          have lx : ∀ u, (E u).cell? ⟨bl, k, none⟩ = some (.int .i64 d) := fun u => (Below.cell (hF1 u) (cell_lt13 L10.out)).trans L10.out
          have DD0 := HU.out _ (Ab.refl v10).drew
          clear hF1 hF2
          refine region_cls E (by kernel_rfl) (by kernel_rfl) DD0 ?_
          repeat (go_big_quiet_step (first
            | (with_reducible rfl)
          ))
          refine wpQuiet_nil ?_
          intro y9 hwz
          obtain ⟨u0, hu⟩ := hwz
          have AZ : Hid (Ab z8 y9) := by rw [hu]; exact HX.out u0
          clear hu u0
          clear HU HU1 HX DD0 mx lx
          clear E UU
          go_wp2
          go_ret
          exact ⟨rfl, A0.out.trans (A8.out.trans AZ.out)⟩
end Go.Proofs.YtbdjbhdbegiipaaDoor
