/-
  Some of the texts of this proof, one behind the other.
-/
import Derived.Test.YtgalgnjgpmcngaaGreatDoorZ16
namespace Go.Proofs.YtgalgnjgpmcngaaGreatDoor
open Go.RowKit Tf Cu Go.Deep
attribute [local go_sem] run_bits run_from raw_feq raw_fne raw_flt raw_fgt run_neg run_store_float
namespace Fc
set_option maxRecDepth 100000 in
set_option maxHeartbeats 8000000 in
theorem rlev_go (rb : Nat) (bb bo wb wo : Nat) (lb cb lw cw : Nat) (pt : Option Addr) (lt ct : Nat) (ps : Option Addr) (ls cs : Nat) (sky st : Int) (c : Nat) (b : Nat) (x a : Int) (y : Nat) (w : World) (hb : (c : Int) < lb) (hw : (c : Int) < lw)
    (AR : Hid (∀ v, Ab w v → Calls Tryz.prog 68 #[.pointer (some ⟨rb, 0, none⟩), .int .i64 (c : Nat)] v fun e w' => e = .returned (.int .i64 a) ∧ Below v.heap.size v w'))
    (LE : Hid (∀ v, Calls Tryz.prog 67 #[.float .f64 b, .int .i64 x, .int .i64 a] v fun e w' => e = .returned (.float .f64 y) ∧ Below v.heap.size v w'))
    (CB : Hid (∀ v, Ab w v → v.cell? ⟨bb, bo + c, none⟩ = some (.float .f64 b))) (CW : Hid (∀ v, Ab w v → v.cell? ⟨wb, wo + c, none⟩ = some (.int .i64 x))) :
    Calls Tryz.prog 38 #[.pointer (some ⟨rb, 0, none⟩), .agg #[.slice (some ⟨bb, bo, none⟩) lb cb, .slice (some ⟨wb, wo, none⟩) lw cw, .slice pt lt ct, .slice ps ls cs, .int .i64 sky, .int .i64 st], .int .i64 (c : Nat)] w fun e w' => e = .returned (.float .f64 y) ∧ Below w.heap.size w w' := by
  have A0 : Hid (Ab w (w.alloc (.cells #[.slice (some ⟨bb, bo, none⟩) lb cb, .slice (some ⟨wb, wo, none⟩) lw cw, .slice pt lt ct, .slice ps ls cs, .int .i64 sky, .int .i64 st] 29))) := bl1 _ _
  have R0 : Hid ((w.alloc (.cells #[.slice (some ⟨bb, bo, none⟩) lb cb, .slice (some ⟨wb, wo, none⟩) lw cw, .slice pt lt ct, .slice ps ls cs, .int .i64 sky, .int .i64 st] 29)).heap[w.heap.size]? = some (.cells #[.slice (some ⟨bb, bo, none⟩) lb cb, .slice (some ⟨wb, wo, none⟩) lw cw, .slice pt lt ct, .slice ps ls cs, .int .i64 sky, .int .i64 st] 29)) := heap_alloc_new _ _
  go_enter Tryz.func38, Tryz.ntmps38
  go_upto_region 1 with fail
  obtain ⟨gs, hgs⟩ : ∃ g, w.heap.size = g := ⟨_, rfl⟩
  generalize hW : World.alloc w _ = W at *
  rw [hgs] at R0 ⊢
  clear hgs hW
  obtain ⟨UU, E, hF1, hF2⟩ := cls W
  have HU := hid hF2
  have HU1 := hid hF1
  have HX : Hid (∀ u, Ab w (E u)) := fun u => A0.out.trans (hF1 u)
  have s0 : ∀ u, (E u).cell? ⟨gs, 0, none⟩ = some (.slice (some ⟨bb, bo, none⟩) lb cb) := fun u => cell_of_row _ _ 0 _ _ _ ((hF1 u).heap R0.out)
  have s1 : ∀ u, (E u).cell? ⟨gs, 1, none⟩ = some (.slice (some ⟨wb, wo, none⟩) lw cw) := fun u => cell_of_row _ _ 1 _ _ _ ((hF1 u).heap R0.out)
  have s3 : ∀ u, (E u).cell? ⟨bb, bo + c, none⟩ = some (.float .f64 b) := fun u => CB.out _ (HX.out u)
  have s4 : ∀ u, (E u).cell? ⟨wb, wo + c, none⟩ = some (.int .i64 x) := fun u => CW.out _ (HX.out u)
  have DD0 := HU.out _ (Ab.refl W).drew
  clear hF1 hF2
  refine region_cls E (by kernel_rfl) (by kernel_rfl) DD0 ?_
  repeat (go_big_quiet_step (first
    | (with_reducible rfl)
    | (go_at_call 68; exact calls_cls HU HU1 (AR.out _ (HX.out _)))
    | (go_at_call 67; exact calls_cls HU HU1 (LE.out _))))
  refine wpQuiet_nil ?_
  intro z hwz
  obtain ⟨u0, hu⟩ := hwz
  have AZ : Hid (Ab w z) := by rw [hu]; exact HX.out u0
  clear hu u0
  clear HU HU1 HX DD0 s0 s1 s3 s4
  clear E UU
  go_wp2
  go_ret
  exact ⟨rfl, AZ.out⟩
set_option maxRecDepth 100000 in
set_option maxHeartbeats 8000000 in
theorem rdep_go (rb : Nat) (bb bo wb wo : Nat) (lb cb lw cw : Nat) (pt : Option Addr) (lt ct : Nat) (ps : Option Addr) (ls cs : Nat) (sky st : Int) (c : Nat) (b : Nat) (x a : Int) (y : Nat) (w : World) (_hb : (c : Int) < lb) (hw : (c : Int) < lw)
    (AR : Hid (∀ v, Ab w v → Calls Tryz.prog 68 #[.pointer (some ⟨rb, 0, none⟩), .int .i64 (c : Nat)] v fun e w' => e = .returned (.int .i64 a) ∧ Below v.heap.size v w'))
    (LE : Hid (∀ v, Calls Tryz.prog 70 #[.int .i64 x, .int .i64 a] v fun e w' => e = .returned (.float .f64 y) ∧ Below v.heap.size v w'))
    (CB : Hid (∀ v, Ab w v → v.cell? ⟨bb, bo + c, none⟩ = some (.float .f64 b))) (CW : Hid (∀ v, Ab w v → v.cell? ⟨wb, wo + c, none⟩ = some (.int .i64 x))) :
    Calls Tryz.prog 40 #[.pointer (some ⟨rb, 0, none⟩), .agg #[.slice (some ⟨bb, bo, none⟩) lb cb, .slice (some ⟨wb, wo, none⟩) lw cw, .slice pt lt ct, .slice ps ls cs, .int .i64 sky, .int .i64 st], .int .i64 (c : Nat)] w fun e w' => e = .returned (.float .f64 y) ∧ Below w.heap.size w w' := by
  have A0 : Hid (Ab w (w.alloc (.cells #[.slice (some ⟨bb, bo, none⟩) lb cb, .slice (some ⟨wb, wo, none⟩) lw cw, .slice pt lt ct, .slice ps ls cs, .int .i64 sky, .int .i64 st] 29))) := bl1 _ _
  have R0 : Hid ((w.alloc (.cells #[.slice (some ⟨bb, bo, none⟩) lb cb, .slice (some ⟨wb, wo, none⟩) lw cw, .slice pt lt ct, .slice ps ls cs, .int .i64 sky, .int .i64 st] 29)).heap[w.heap.size]? = some (.cells #[.slice (some ⟨bb, bo, none⟩) lb cb, .slice (some ⟨wb, wo, none⟩) lw cw, .slice pt lt ct, .slice ps ls cs, .int .i64 sky, .int .i64 st] 29)) := heap_alloc_new _ _
  go_enter Tryz.func40, Tryz.ntmps40
  go_upto_region 1 with fail
  obtain ⟨gs, hgs⟩ : ∃ g, w.heap.size = g := ⟨_, rfl⟩
  generalize hW : World.alloc w _ = W at *
  rw [hgs] at R0 ⊢
  clear hgs hW
  obtain ⟨UU, E, hF1, hF2⟩ := cls W
  have HU := hid hF2
  have HU1 := hid hF1
  have HX : Hid (∀ u, Ab w (E u)) := fun u => A0.out.trans (hF1 u)
  have s0 : ∀ u, (E u).cell? ⟨gs, 0, none⟩ = some (.slice (some ⟨bb, bo, none⟩) lb cb) := fun u => cell_of_row _ _ 0 _ _ _ ((hF1 u).heap R0.out)
  have s1 : ∀ u, (E u).cell? ⟨gs, 1, none⟩ = some (.slice (some ⟨wb, wo, none⟩) lw cw) := fun u => cell_of_row _ _ 1 _ _ _ ((hF1 u).heap R0.out)
  have s3 : ∀ u, (E u).cell? ⟨bb, bo + c, none⟩ = some (.float .f64 b) := fun u => CB.out _ (HX.out u)
  have s4 : ∀ u, (E u).cell? ⟨wb, wo + c, none⟩ = some (.int .i64 x) := fun u => CW.out _ (HX.out u)
  have DD0 := HU.out _ (Ab.refl W).drew
  clear hF1 hF2
  refine region_cls E (by kernel_rfl) (by kernel_rfl) DD0 ?_
  repeat (go_big_quiet_step (first
    | (with_reducible rfl)
    | (go_at_call 68; exact calls_cls HU HU1 (AR.out _ (HX.out _)))
    | (go_at_call 70; exact calls_cls HU HU1 (LE.out _))))
  refine wpQuiet_nil ?_
  intro z hwz
  obtain ⟨u0, hu⟩ := hwz
  have AZ : Hid (Ab w z) := by rw [hu]; exact HX.out u0
  clear hu u0
  clear HU HU1 HX DD0 s0 s1 s3 s4
  clear E UU
  go_wp2
  go_ret
  exact ⟨rfl, AZ.out⟩
/-- the reference's level of a cell -/
theorem rlev16 {n rb : Nat} {pb pw : Option Addr} {lb lw : Nat} {B : Nat → Nat} {Wt : Nat → Int} (cb cw : Nat) (pt : Option Addr) (lt ct : Nat) (ps : Option Addr) (ls cs : Nat) (sky st : Int) {c : Nat} {w : World} (hn : 1 ≤ n ∧ n ≤ 32) (g : RefOf n rb w) (IB : IsFl w pb lb B) (IW : IsIn w pw lw Wt) (hb : lb = 6 * n * n) (hw : lw = 6 * n * n) (hc : c < 6 * n * n) :
    Calls Tryz.prog 38 #[.pointer (some ⟨rb, 0, none⟩), .agg #[.slice pb lb cb, .slice pw lw cw, .slice pt lt ct, .slice ps ls cs, .int .i64 sky, .int .i64 st], .int .i64 (c : Nat)] w fun e w' => e = .returned (.float .f64 (lvC n B Wt c)) ∧ Below w.heap.size w w' := by
  obtain ⟨bb, bo, rfl⟩ := IB.some0 (by omega)
  obtain ⟨wb, wo, rfl⟩ := IW.some0 (by omega)
  exact rlev_go rb bb bo wb wo lb cb lw cw pt lt ct ps ls cs sky st c (B c) (Wt c) (arC n c) _ w (by omega) (by omega) (fun v hv => rArea_at (fun v => rarea_ok n _ v hn hc) (g.to hv)) (fun v => (rlevel_at11 (B c) (Wt c) (arC n c) v (IB.at0 (by omega)).1 (IW.at0 (by omega)).1 (arC_in n c).2).mono fun _ _ h => ⟨h.1, by obtain ⟨_, q, rfl⟩ := h; exact Ab.drewN (Ab.refl _) q⟩) (fun v hv => ((IB.below hv).at0 (by omega)).2.2) (fun v hv => ((IW.below hv).at0 (by omega)).2.2)
/-- the reference's depth of a cell -/
theorem rdep16 {n rb : Nat} {pb pw : Option Addr} {lb lw : Nat} {B : Nat → Nat} {Wt : Nat → Int} (cb cw : Nat) (pt : Option Addr) (lt ct : Nat) (ps : Option Addr) (ls cs : Nat) (sky st : Int) {c : Nat} {w : World} (hn : 1 ≤ n ∧ n ≤ 32) (g : RefOf n rb w) (IB : IsFl w pb lb B) (IW : IsIn w pw lw Wt) (hb : lb = 6 * n * n) (hw : lw = 6 * n * n) (hc : c < 6 * n * n) :
    Calls Tryz.prog 40 #[.pointer (some ⟨rb, 0, none⟩), .agg #[.slice pb lb cb, .slice pw lw cw, .slice pt lt ct, .slice ps ls cs, .int .i64 sky, .int .i64 st], .int .i64 (c : Nat)] w fun e w' => e = .returned (.float .f64 (dpC n Wt c)) ∧ Below w.heap.size w w' := by
  obtain ⟨bb, bo, rfl⟩ := IB.some0 (by omega)
  obtain ⟨wb, wo, rfl⟩ := IW.some0 (by omega)
  exact rdep_go rb bb bo wb wo lb cb lw cw pt lt ct ps ls cs sky st c (B c) (Wt c) (arC n c) _ w (by omega) (by omega) (fun v hv => rArea_at (fun v => rarea_ok n _ v hn hc) (g.to hv)) (fun v => (rdepth_at11 (Wt c) (arC n c) v (IW.at0 (by omega)).1 (arC_in n c).2).mono fun _ _ h => ⟨h.1, by obtain ⟨_, q, rfl⟩ := h; exact Ab.drewN (Ab.refl _) q⟩) (fun v hv => ((IB.below hv).at0 (by omega)).2.2) (fun v hv => ((IW.below hv).at0 (by omega)).2.2)
set_option maxRecDepth 100000 in
set_option maxHeartbeats 4000000 in
theorem rmag16 (x : Nat) (w : World) (hx : x < 18446744073709551616) : Calls Tryz.prog 41 #[.float .f64 x] w fun e w' => e = .returned (.float .f64 (mg x)) ∧ w' = w := by
  have C := hid (refBelow_any x w)
  have nk := negFloat_eq x hx
  cases g : ng x
  · rw [g] at C
    have e : mg x = x := by
      have m : mg x = x ∨ x = mg x + 9223372036854775808 := by unfold mg; omega
      rcases m with m | m
      · exact m
      · exfalso; rw [← Bool.not_eq_true] at g; apply g; unfold ng; simp; omega
    rw [e]
    clear nk g e
    go_enter Tryz.func41, Tryz.ntmps41
    go_wp2_with fail
    refine C.out.mono ?_
    rintro e9 v ⟨rfl, hv⟩
    have hv2 := hv.symm
    subst hv2
    go_wp2
    go_ret
    exact ⟨rfl, rfl⟩
  · rw [g] at C
    have e : negB x = mg x := by
      have := negB_mg hx
      have h2 := negB_ng hx
      rw [g] at h2
      simp at h2
      have m2 : mg (negB x) = negB x ∨ negB x = mg (negB x) + 9223372036854775808 := by
        have := negB_lt' hx
        unfold mg; omega
      rcases m2 with m2 | m2
      · omega
      · exfalso
        unfold ng at h2
        simp at h2
        omega
    rw [← e]
    clear g e
    go_enter Tryz.func41, Tryz.ntmps41
    go_wp2_with fail
    refine C.out.mono ?_
    rintro e9 v ⟨rfl, hv⟩
    have hv2 := hv.symm
    subst hv2
    go_wp2
    go_ret
    exact ⟨rfl, rfl⟩
set_option maxRecDepth 100000 in
set_option maxHeartbeats 4000000 in
theorem rcut16 (x : Nat) (w : World) : Calls Tryz.prog 42 #[.float .f64 x] w fun e w' => e = .returned (.float .f64 (cuB x)) ∧ w' = w := by
  have CN := hid (fun v => refNone_any x v)
  have CC := hid (fun v => refCanon_any x v)
  unfold cuB
  cases g1 : fgt x 4652218415073722368
  · cases g2 : flt x 13875590451928498176
    · cases g3 : isN x
      · rw [g3] at CN
        simp only [Bool.false_eq_true, if_false]
        generalize canonB x = y at *
        go_enter Tryz.func42, Tryz.ntmps42
        go_wp2_with fail
        refine (CN.out _).mono ?_
        rintro e9 v ⟨rfl, hv⟩
        have hv2 := hv.symm
        subst hv2
        go_wp2_with fail
        refine (CC.out _).mono ?_
        rintro e9 v ⟨rfl, hv⟩
        have hv2 := hv.symm
        subst hv2
        go_wp2
        go_ret
        exact ⟨rfl, rfl⟩
      · rw [g3] at CN
        simp only [Bool.false_eq_true, if_false, if_true]
        go_enter Tryz.func42, Tryz.ntmps42
        go_wp2_with fail
        refine (CN.out _).mono ?_
        rintro e9 v ⟨rfl, hv⟩
        have hv2 := hv.symm
        subst hv2
        go_wp2
        go_ret
        exact ⟨rfl, rfl⟩
    · simp only [Bool.false_eq_true, if_false, if_true]
      go_enter Tryz.func42, Tryz.ntmps42
      go_wp2
      go_ret
      exact ⟨rfl, rfl⟩
  · simp only [if_true]
    go_enter Tryz.func42, Tryz.ntmps42
    go_wp2
    go_ret
    exact ⟨rfl, rfl⟩
end Fc
end Go.Proofs.YtgalgnjgpmcngaaGreatDoor

namespace Go.Proofs.YtgalgnjgpmcngaaGreatDoor
open Go.RowKit Tf Cu Go.Deep
attribute [local go_sem] run_bits run_from raw_feq raw_fne raw_flt raw_fgt run_neg run_store_float
namespace Fc
set_option maxRecDepth 100000 in
set_option maxHeartbeats 4000000 in
theorem ropen_no (rb : Nat) (pb pw pt ps : Option Addr) (lb cb lw cw lt ct ls cs : Nat) (sky st e : Int) (q : Bool) (w : World)
    (FT : Hid (∀ v, Ab w v → Calls Tryz.prog 35 #[.pointer (some ⟨rb, 0, none⟩), .agg #[.slice pb lb cb, .slice pw lw cw, .slice pt lt ct, .slice ps ls cs, .int .i64 sky, .int .i64 st]] v fun x w' => x = .returned (.bool q) ∧ Below v.heap.size v w'))
    (EG : Hid (q = true → ∀ v, Ab w v → Calls Tryz.prog 37 #[.pointer (some ⟨rb, 0, none⟩), .int .i64 e] v fun x w' => x = .returned (.tuple #[.agg #[.int .i64 0, .int .i64 0, .int .i64 0, .int .i64 0], .bool false]) ∧ Below v.heap.size v w')) :
    Calls Tryz.prog 13 #[.pointer (some ⟨rb, 0, none⟩), .agg #[.slice pb lb cb, .slice pw lw cw, .slice pt lt ct, .slice ps ls cs, .int .i64 sky, .int .i64 st], .int .i64 e] w fun x w' => x = .returned (.bool false) ∧ Below w.heap.size w w' := by
  have A0 : Hid (Ab w (w.alloc (.cells #[.slice pb lb cb, .slice pw lw cw, .slice pt lt ct, .slice ps ls cs, .int .i64 sky, .int .i64 st] 29))) := bl1 _ _
  have R0 : Hid ((w.alloc (.cells #[.slice pb lb cb, .slice pw lw cw, .slice pt lt ct, .slice ps ls cs, .int .i64 sky, .int .i64 st] 29)).heap[w.heap.size]? = some (.cells #[.slice pb lb cb, .slice pw lw cw, .slice pt lt ct, .slice ps ls cs, .int .i64 sky, .int .i64 st] 29)) := heap_alloc_new _ _
  have c0 := cell_of_row _ _ 0 _ _ _ R0.out
  have c1 := cell_of_row _ _ 1 _ _ _ R0.out
  have c2 := cell_of_row _ _ 2 _ _ _ R0.out
  have c3 := cell_of_row _ _ 3 _ _ _ R0.out
  have c4 := cell_of_row _ _ 4 _ _ _ R0.out
  have c5 := cell_of_row _ _ 5 _ _ _ R0.out
  go_enter Tryz.func13, Tryz.ntmps13
  go_wp2_with fail
  refine (FT.out _ A0.out).mono ?_
  rintro e9 v1 ⟨rfl, k1⟩
  have W1 : Hid (Ab w v1) := A0.out.call k1
  clear k1 c0 c1 c2 c3 c4 c5 A0 R0
  cases q
  · go_wp2
    go_ret
    exact ⟨rfl, W1.out⟩
  · go_wp2_with fail
    refine (EG.out trivial _ W1.out).mono ?_
    rintro e9 v2 ⟨rfl, k2⟩
    have W2 : Hid (Ab w (v2.alloc (.cells #[.int .i64 0, .int .i64 0, .int .i64 0, .int .i64 0] 82))) := (W1.out.call k2).trans (bl1 _ _)
    clear k2
    go_wp2
    go_ret
    exact ⟨rfl, W2.out⟩
set_option maxRecDepth 100000 in
set_option maxHeartbeats 16000000 in
theorem ropen_go (rb bb bo lb cb wb wo lw cw : Nat) (pt : Option Addr) (lt ct : Nat) (ps : Option Addr) (ls cs : Nat) (sky st : Int) (k lc rc sl sr : Nat) (wl wr : Int) (bl br ll lr : Nat) (al ar q1 q2 : Bool) (w : World) (hl : (lc : Int) < lw) (hr : (rc : Int) < lw) (hl2 : (lc : Int) < lb) (hr2 : (rc : Int) < lb)
    (hal : decide (0 < wl) = al) (har : decide (0 < wr) = ar) (hq1 : (flt lr bl || feq lr bl) = q1) (hq2 : (flt ll br || feq ll br) = q2)
    (FT : Hid (∀ v, Ab w v → Calls Tryz.prog 35 #[.pointer (some ⟨rb, 0, none⟩), .agg #[.slice (some ⟨bb, bo, none⟩) lb cb, .slice (some ⟨wb, wo, none⟩) lw cw, .slice pt lt ct, .slice ps ls cs, .int .i64 sky, .int .i64 st]] v fun x w' => x = .returned (.bool true) ∧ Below v.heap.size v w'))
    (EG : Hid (∀ v, Ab w v → Calls Tryz.prog 37 #[.pointer (some ⟨rb, 0, none⟩), .int .i64 (k : Nat)] v fun x w' => x = .returned (.tuple #[.agg #[.int .i64 (lc : Nat), .int .i64 (sl : Nat), .int .i64 (rc : Nat), .int .i64 (sr : Nat)], .bool true]) ∧ Below v.heap.size v w'))
    (LL : Hid (∀ v, Ab w v → Calls Tryz.prog 38 #[.pointer (some ⟨rb, 0, none⟩), .agg #[.slice (some ⟨bb, bo, none⟩) lb cb, .slice (some ⟨wb, wo, none⟩) lw cw, .slice pt lt ct, .slice ps ls cs, .int .i64 sky, .int .i64 st], .int .i64 (lc : Nat)] v fun x w' => x = .returned (.float .f64 ll) ∧ Below v.heap.size v w'))
    (LR : Hid (∀ v, Ab w v → Calls Tryz.prog 38 #[.pointer (some ⟨rb, 0, none⟩), .agg #[.slice (some ⟨bb, bo, none⟩) lb cb, .slice (some ⟨wb, wo, none⟩) lw cw, .slice pt lt ct, .slice ps ls cs, .int .i64 sky, .int .i64 st], .int .i64 (rc : Nat)] v fun x w' => x = .returned (.float .f64 lr) ∧ Below v.heap.size v w'))
    (Clc : Hid (∀ v, Ab w v → v.cell? ⟨bb, bo + lc, none⟩ = some (.float .f64 bl))) (Crc : Hid (∀ v, Ab w v → v.cell? ⟨bb, bo + rc, none⟩ = some (.float .f64 br)))
    (WL : Hid (∀ v, Ab w v → v.cell? ⟨wb, wo + lc, none⟩ = some (.int .i64 wl))) (WR : Hid (∀ v, Ab w v → v.cell? ⟨wb, wo + rc, none⟩ = some (.int .i64 wr))) :
    Calls Tryz.prog 13 #[.pointer (some ⟨rb, 0, none⟩), .agg #[.slice (some ⟨bb, bo, none⟩) lb cb, .slice (some ⟨wb, wo, none⟩) lw cw, .slice pt lt ct, .slice ps ls cs, .int .i64 sky, .int .i64 st], .int .i64 (k : Nat)] w fun x w' => x = .returned (.bool (!((!al && !ar) || (!al && q1) || (!ar && q2)))) ∧ Below w.heap.size w w' := by
  have A0 : Hid (Ab w (w.alloc (.cells #[.slice (some ⟨bb, bo, none⟩) lb cb, .slice (some ⟨wb, wo, none⟩) lw cw, .slice pt lt ct, .slice ps ls cs, .int .i64 sky, .int .i64 st] 29))) := bl1 _ _
  have R0 : Hid ((w.alloc (.cells #[.slice (some ⟨bb, bo, none⟩) lb cb, .slice (some ⟨wb, wo, none⟩) lw cw, .slice pt lt ct, .slice ps ls cs, .int .i64 sky, .int .i64 st] 29)).heap[w.heap.size]? = some (.cells #[.slice (some ⟨bb, bo, none⟩) lb cb, .slice (some ⟨wb, wo, none⟩) lw cw, .slice pt lt ct, .slice ps ls cs, .int .i64 sky, .int .i64 st] 29)) := heap_alloc_new _ _
  go_enter Tryz.func13, Tryz.ntmps13
  go_upto_region 1 with fail
  obtain ⟨gs, hgs⟩ : ∃ g, w.heap.size = g := ⟨_, rfl⟩
  generalize hW : World.alloc w _ = W at *
  rw [hgs] at R0 ⊢
  clear hgs hW
  have c0 := cell_of_row _ _ 0 _ _ _ R0.out
  have c1 := cell_of_row _ _ 1 _ _ _ R0.out
  have c2 := cell_of_row _ _ 2 _ _ _ R0.out
  have c3 := cell_of_row _ _ 3 _ _ _ R0.out
  have c4 := cell_of_row _ _ 4 _ _ _ R0.out
  have c5 := cell_of_row _ _ 5 _ _ _ R0.out
  go_wp2_with fail
  refine (FT.out _ A0.out).mono ?_
  rintro e9 v1 ⟨rfl, k1⟩
  have W1 : Hid (Ab w v1) := A0.out.call k1
  have S1 := hid (Ab.heap k1 R0.out)
  clear k1 c0 c1 c2 c3 c4 c5 A0 R0 FT
  go_wp2_with fail
  refine (EG.out _ W1.out).mono ?_
  rintro e9 v2 ⟨rfl, k2⟩
  have W2 : Hid (Ab w v2) := W1.out.call k2
  have S2 := hid (Ab.heap k2 S1.out)
  clear k2 W1 S1 EG
  go_upto_region 4 with fail
  obtain ⟨ge, hge⟩ : ∃ g, v2.heap.size = g := ⟨_, rfl⟩
  have E3 := hid (heap_alloc_new v2 (.cells #[.int .i64 (lc : Nat), .int .i64 (sl : Nat), .int .i64 (rc : Nat), .int .i64 (sr : Nat)] 82))
  have W_a : Hid (Ab w (v2.alloc (.cells #[.int .i64 (lc : Nat), .int .i64 (sl : Nat), .int .i64 (rc : Nat), .int .i64 (sr : Nat)] 82))) := W2.out.trans (bl1 _ _)
  have S_a : Hid ((v2.alloc (.cells #[.int .i64 (lc : Nat), .int .i64 (sl : Nat), .int .i64 (rc : Nat), .int .i64 (sr : Nat)] 82)).heap[gs]? = _) := Ab.heap (bl1 _ _) S2.out
  generalize hV : v2.alloc (.cells #[.int .i64 (lc : Nat), .int .i64 (sl : Nat), .int .i64 (rc : Nat), .int .i64 (sr : Nat)] 82) = a at *
  rw [hge] at E3 ⊢
  clear hV hge W2 S2
  have e0 := cell_of_row _ _ 0 _ _ _ E3.out
  have e2 := cell_of_row _ _ 2 _ _ _ E3.out
  have c1 := cell_of_row _ _ 1 _ _ _ S_a.out
  have xl := WL.out _ W_a.out
  have xr := WR.out _ W_a.out
  cases al
  · cases ar
    · go_wp2
      go_ret
      exact ⟨rfl, W_a.out⟩
    · go_upto_region 12 with fail
      clear e0 e2 c1 xl xr
      obtain ⟨UU, E, hF1, hF2⟩ := cls a
      have HU := hid hF2
      have HU1 := hid hF1
      have HX : Hid (∀ u, Ab w (E u)) := fun u => W_a.out.trans (hF1 u)
      have s0 : ∀ u, (E u).cell? ⟨gs, 0, none⟩ = some (.slice (some ⟨bb, bo, none⟩) lb cb) := fun u => cell_of_row _ _ 0 _ _ _ ((hF1 u).heap S_a.out)
      have s1 : ∀ u, (E u).cell? ⟨gs, 1, none⟩ = some (.slice (some ⟨wb, wo, none⟩) lw cw) := fun u => cell_of_row _ _ 1 _ _ _ ((hF1 u).heap S_a.out)
      have s2 : ∀ u, (E u).cell? ⟨gs, 2, none⟩ = some (.slice pt lt ct) := fun u => cell_of_row _ _ 2 _ _ _ ((hF1 u).heap S_a.out)
      have s3 : ∀ u, (E u).cell? ⟨gs, 3, none⟩ = some (.slice ps ls cs) := fun u => cell_of_row _ _ 3 _ _ _ ((hF1 u).heap S_a.out)
      have s4 : ∀ u, (E u).cell? ⟨gs, 4, none⟩ = some (.int .i64 sky) := fun u => cell_of_row _ _ 4 _ _ _ ((hF1 u).heap S_a.out)
      have s5 : ∀ u, (E u).cell? ⟨gs, 5, none⟩ = some (.int .i64 st) := fun u => cell_of_row _ _ 5 _ _ _ ((hF1 u).heap S_a.out)
      have s6 : ∀ u, (E u).cell? ⟨bb, bo + lc, none⟩ = some (.float .f64 bl) := fun u => Clc.out _ (HX.out u)
      have DD0 := HU.out _ (Ab.refl a).drew
      clear hF1 hF2
      refine region_cls E (by kernel_rfl) (by kernel_rfl) DD0 ?_
      repeat (go_big_quiet_step (first
        | (with_reducible rfl)
        | (go_at_call 38; exact calls_cls HU HU1 (LR.out _ (HX.out _)))))
      refine wpQuiet_nil ?_
      intro b hwz
      obtain ⟨u0, hu⟩ := hwz
      have AZ : Hid (Ab a b) := by rw [hu]; exact HU1.out u0
      clear hu u0
      clear HU HU1 DD0 HX s0 s1 s2 s3 s4 s5 s6
      clear E UU
      have W_b : Hid (Ab w b) := W_a.out.trans AZ.out
      have S_b := hid (Ab.heap AZ.out S_a.out)
      clear AZ W_a S_a
      cases q1
      · go_upto_region 14 with fail
        obtain ⟨UU, E, hF1, hF2⟩ := cls b
        have HU := hid hF2
        have HU1 := hid hF1
        have HX : Hid (∀ u, Ab w (E u)) := fun u => W_b.out.trans (hF1 u)
        have DD0 := HU.out _ (Ab.refl b).drew
        clear hF1 hF2
        refine region_cls E (by kernel_rfl) (by kernel_rfl) DD0 ?_
        repeat (go_big_quiet_step (first
          | (with_reducible rfl)))
        refine wpQuiet_nil ?_
        intro c hwz
        obtain ⟨u0, hu⟩ := hwz
        have AZ : Hid (Ab b c) := by rw [hu]; exact HU1.out u0
        clear hu u0
        clear HU HU1 DD0 HX
        clear E UU
        have W_c : Hid (Ab w c) := W_b.out.trans AZ.out
        have S_c := hid (Ab.heap AZ.out S_b.out)
        clear AZ W_b S_b
        go_wp2
        go_ret
        exact ⟨rfl, W_c.out⟩
      · go_wp2
        go_ret
        exact ⟨rfl, W_b.out⟩
  · cases ar
    · go_upto_region 12 with fail
      clear e0 e2 c1 xl xr
      obtain ⟨UU, E, hF1, hF2⟩ := cls a
      have HU := hid hF2
      have HU1 := hid hF1
      have HX : Hid (∀ u, Ab w (E u)) := fun u => W_a.out.trans (hF1 u)
      have DD0 := HU.out _ (Ab.refl a).drew
      clear hF1 hF2
      refine region_cls E (by kernel_rfl) (by kernel_rfl) DD0 ?_
      repeat (go_big_quiet_step (first
        | (with_reducible rfl)))
      refine wpQuiet_nil ?_
      intro b hwz
      obtain ⟨u0, hu⟩ := hwz
      have AZ : Hid (Ab a b) := by rw [hu]; exact HU1.out u0
      clear hu u0
      clear HU HU1 DD0 HX
      clear E UU
      have W_b : Hid (Ab w b) := W_a.out.trans AZ.out
      have S_b := hid (Ab.heap AZ.out S_a.out)
      clear AZ W_a S_a
      go_upto_region 14 with fail
      obtain ⟨UU, E, hF1, hF2⟩ := cls b
      have HU := hid hF2
      have HU1 := hid hF1
      have HX : Hid (∀ u, Ab w (E u)) := fun u => W_b.out.trans (hF1 u)
      have s0 : ∀ u, (E u).cell? ⟨gs, 0, none⟩ = some (.slice (some ⟨bb, bo, none⟩) lb cb) := fun u => cell_of_row _ _ 0 _ _ _ ((hF1 u).heap S_b.out)
      have s1 : ∀ u, (E u).cell? ⟨gs, 1, none⟩ = some (.slice (some ⟨wb, wo, none⟩) lw cw) := fun u => cell_of_row _ _ 1 _ _ _ ((hF1 u).heap S_b.out)
      have s2 : ∀ u, (E u).cell? ⟨gs, 2, none⟩ = some (.slice pt lt ct) := fun u => cell_of_row _ _ 2 _ _ _ ((hF1 u).heap S_b.out)
      have s3 : ∀ u, (E u).cell? ⟨gs, 3, none⟩ = some (.slice ps ls cs) := fun u => cell_of_row _ _ 3 _ _ _ ((hF1 u).heap S_b.out)
      have s4 : ∀ u, (E u).cell? ⟨gs, 4, none⟩ = some (.int .i64 sky) := fun u => cell_of_row _ _ 4 _ _ _ ((hF1 u).heap S_b.out)
      have s5 : ∀ u, (E u).cell? ⟨gs, 5, none⟩ = some (.int .i64 st) := fun u => cell_of_row _ _ 5 _ _ _ ((hF1 u).heap S_b.out)
      have s6 : ∀ u, (E u).cell? ⟨bb, bo + rc, none⟩ = some (.float .f64 br) := fun u => Crc.out _ (HX.out u)
      have DD0 := HU.out _ (Ab.refl b).drew
      clear hF1 hF2
      refine region_cls E (by kernel_rfl) (by kernel_rfl) DD0 ?_
      repeat (go_big_quiet_step (first
        | (with_reducible rfl)
        | (go_at_call 38; exact calls_cls HU HU1 (LL.out _ (HX.out _)))))
      refine wpQuiet_nil ?_
      intro c hwz
      obtain ⟨u0, hu⟩ := hwz
      have AZ : Hid (Ab b c) := by rw [hu]; exact HU1.out u0
      clear hu u0
      clear HU HU1 DD0 HX s0 s1 s2 s3 s4 s5 s6
      clear E UU
      have W_c : Hid (Ab w c) := W_b.out.trans AZ.out
      have S_c := hid (Ab.heap AZ.out S_b.out)
      clear AZ W_b S_b
      cases q2
      · go_wp2
        go_ret
        exact ⟨rfl, W_c.out⟩
      · go_wp2
        go_ret
        exact ⟨rfl, W_c.out⟩
    · go_upto_region 12 with fail
      clear e0 e2 c1 xl xr
      obtain ⟨UU, E, hF1, hF2⟩ := cls a
      have HU := hid hF2
      have HU1 := hid hF1
      have HX : Hid (∀ u, Ab w (E u)) := fun u => W_a.out.trans (hF1 u)
      have DD0 := HU.out _ (Ab.refl a).drew
      clear hF1 hF2
      refine region_cls E (by kernel_rfl) (by kernel_rfl) DD0 ?_
      repeat (go_big_quiet_step (first
        | (with_reducible rfl)))
      refine wpQuiet_nil ?_
      intro b hwz
      obtain ⟨u0, hu⟩ := hwz
      have AZ : Hid (Ab a b) := by rw [hu]; exact HU1.out u0
      clear hu u0
      clear HU HU1 DD0 HX
      clear E UU
      have W_b : Hid (Ab w b) := W_a.out.trans AZ.out
      have S_b := hid (Ab.heap AZ.out S_a.out)
      clear AZ W_a S_a
      go_upto_region 14 with fail
      obtain ⟨UU, E, hF1, hF2⟩ := cls b
      have HU := hid hF2
      have HU1 := hid hF1
      have HX : Hid (∀ u, Ab w (E u)) := fun u => W_b.out.trans (hF1 u)
      have DD0 := HU.out _ (Ab.refl b).drew
      clear hF1 hF2
      refine region_cls E (by kernel_rfl) (by kernel_rfl) DD0 ?_
      repeat (go_big_quiet_step (first
        | (with_reducible rfl)))
      refine wpQuiet_nil ?_
      intro c hwz
      obtain ⟨u0, hu⟩ := hwz
      have AZ : Hid (Ab b c) := by rw [hu]; exact HU1.out u0
      clear hu u0
      clear HU HU1 DD0 HX
      clear E UU
      have W_c : Hid (Ab w c) := W_b.out.trans AZ.out
      have S_c := hid (Ab.heap AZ.out S_b.out)
      clear AZ W_b S_b
      go_wp2
      go_ret
      exact ⟨rfl, W_c.out⟩
end Fc
end Go.Proofs.YtgalgnjgpmcngaaGreatDoor

namespace Go.Proofs.YtgalgnjgpmcngaaGreatDoor
open Go.RowKit Tf Cu Go.Deep
attribute [local go_sem] run_bits run_from raw_feq raw_fne raw_flt raw_fgt run_neg run_store_float
namespace Fc
set_option maxRecDepth 100000 in
set_option maxHeartbeats 32000000 in
theorem rspeed_no (rp : Option Addr) (sd : Int) (dt gr dr : Nat) (lim : Int) (rv : Bool) (pr : Option Addr) (lr cr : Nat) (pb pw pt ps : Option Addr) (lb cb lw cw lt ct ls cs : Nat) (sky st e : Int) (w : World)
    (OP : Hid (∀ v, Ab w v → Calls Tryz.prog 13 #[.pointer rp, .agg #[.slice pb lb cb, .slice pw lw cw, .slice pt lt ct, .slice ps ls cs, .int .i64 sky, .int .i64 st], .int .i64 e] v fun x w' => x = .returned (.bool false) ∧ Below v.heap.size v w')) :
    Calls Tryz.prog 14 #[.pointer rp, .agg #[.int .i64 sd, .float .f64 dt, .float .f64 gr, .float .f64 dr, .int .i64 lim, .bool rv, .slice pr lr cr], .agg #[.slice pb lb cb, .slice pw lw cw, .slice pt lt ct, .slice ps ls cs, .int .i64 sky, .int .i64 st], .int .i64 e] w fun x w' => x = .returned (.float .f64 0) ∧ Below w.heap.size w w' := by
  have A0 : Hid (Ab w ((w.alloc (.cells #[.int .i64 sd, .float .f64 dt, .float .f64 gr, .float .f64 dr, .int .i64 lim, .bool rv, .slice pr lr cr] 25)).alloc (.cells #[.slice pb lb cb, .slice pw lw cw, .slice pt lt ct, .slice ps ls cs, .int .i64 sky, .int .i64 st] 29))) := bl2 _ _ _
  have S0 : Hid (((w.alloc (.cells #[.int .i64 sd, .float .f64 dt, .float .f64 gr, .float .f64 dr, .int .i64 lim, .bool rv, .slice pr lr cr] 25)).alloc (.cells #[.slice pb lb cb, .slice pw lw cw, .slice pt lt ct, .slice ps ls cs, .int .i64 sky, .int .i64 st] 29)).heap[w.heap.size + 1]? = some (.cells #[.slice pb lb cb, .slice pw lw cw, .slice pt lt ct, .slice ps ls cs, .int .i64 sky, .int .i64 st] 29)) := heap_alloc2_new _ _ _
  have c0 := cell_of_row _ _ 0 _ _ _ S0.out
  have c1 := cell_of_row _ _ 1 _ _ _ S0.out
  have c2 := cell_of_row _ _ 2 _ _ _ S0.out
  have c3 := cell_of_row _ _ 3 _ _ _ S0.out
  have c4 := cell_of_row _ _ 4 _ _ _ S0.out
  have c5 := cell_of_row _ _ 5 _ _ _ S0.out
  go_enter Tryz.func14, Tryz.ntmps14
  go_wp2_with fail
  refine (OP.out _ A0.out).mono ?_
  rintro e9 v1 ⟨rfl, k1⟩
  have W1 : Hid (Ab w v1) := A0.out.call k1
  clear k1
  go_wp2
  go_ret
  exact ⟨rfl, W1.out⟩
set_option maxRecDepth 100000 in
set_option maxHeartbeats 32000000 in
theorem rspeed_go (n rb : Nat) (sd : Int) (dt gr dr : Nat) (lim : Int) (rv : Bool) (pr : Option Addr) (lr cr : Nat) (pb pw pt : Option Addr) (sb so lb cb lw cw lt ct ls cs : Nat) (sky st : Int) (k lc rc sl sr : Nat) (u ll lv dl dv gap : Nat) (w : World) (ht : dt < 18446744073709551616) (hG : gr < 18446744073709551616) (hD : dr < 18446744073709551616) (hu : u < 18446744073709551616) (h1 : ll < 18446744073709551616) (h2 : lv < 18446744073709551616) (h3 : dl < 18446744073709551616) (h4 : dv < 18446744073709551616) (hg : gap < 18446744073709551616) (hk : (k : Int) < ls) (G0 : Hid (RefOf n rb w))
    (OP : Hid (∀ v, Ab w v → Calls Tryz.prog 13 #[.pointer (some ⟨rb, 0, none⟩), .agg #[.slice pb lb cb, .slice pw lw cw, .slice pt lt ct, .slice (some ⟨sb, so, none⟩) ls cs, .int .i64 sky, .int .i64 st], .int .i64 (k : Nat)] v fun x w' => x = .returned (.bool true) ∧ Below v.heap.size v w'))
    (EG : Hid (∀ v, RefOf n rb v → Calls Tryz.prog 37 #[.pointer (some ⟨rb, 0, none⟩), .int .i64 (k : Nat)] v fun x w' => x = .returned (.tuple #[.agg #[.int .i64 (lc : Nat), .int .i64 (sl : Nat), .int .i64 (rc : Nat), .int .i64 (sr : Nat)], .bool true]) ∧ Below v.heap.size v w'))
    (GP : Hid (∀ v, RefOf n rb v → Calls Tryz.prog 39 #[.pointer (some ⟨rb, 0, none⟩), .int .i64 (k : Nat)] v fun x w' => x = .returned (.float .f64 gap) ∧ Below v.heap.size v w'))
    (LL : Hid (∀ v, Ab w v → Calls Tryz.prog 38 #[.pointer (some ⟨rb, 0, none⟩), .agg #[.slice pb lb cb, .slice pw lw cw, .slice pt lt ct, .slice (some ⟨sb, so, none⟩) ls cs, .int .i64 sky, .int .i64 st], .int .i64 (lc : Nat)] v fun x w' => x = .returned (.float .f64 ll) ∧ Below v.heap.size v w'))
    (LR : Hid (∀ v, Ab w v → Calls Tryz.prog 38 #[.pointer (some ⟨rb, 0, none⟩), .agg #[.slice pb lb cb, .slice pw lw cw, .slice pt lt ct, .slice (some ⟨sb, so, none⟩) ls cs, .int .i64 sky, .int .i64 st], .int .i64 (rc : Nat)] v fun x w' => x = .returned (.float .f64 lv) ∧ Below v.heap.size v w'))
    (DL : Hid (∀ v, Ab w v → Calls Tryz.prog 40 #[.pointer (some ⟨rb, 0, none⟩), .agg #[.slice pb lb cb, .slice pw lw cw, .slice pt lt ct, .slice (some ⟨sb, so, none⟩) ls cs, .int .i64 sky, .int .i64 st], .int .i64 (lc : Nat)] v fun x w' => x = .returned (.float .f64 dl) ∧ Below v.heap.size v w'))
    (DR : Hid (∀ v, Ab w v → Calls Tryz.prog 40 #[.pointer (some ⟨rb, 0, none⟩), .agg #[.slice pb lb cb, .slice pw lw cw, .slice pt lt ct, .slice (some ⟨sb, so, none⟩) ls cs, .int .i64 sky, .int .i64 st], .int .i64 (rc : Nat)] v fun x w' => x = .returned (.float .f64 dv) ∧ Below v.heap.size v w'))
    (CU : Hid (∀ v, Ab w v → v.cell? ⟨sb, so + k, none⟩ = some (.float .f64 u))) :
    Calls Tryz.prog 14 #[.pointer (some ⟨rb, 0, none⟩), .agg #[.int .i64 sd, .float .f64 dt, .float .f64 gr, .float .f64 dr, .int .i64 lim, .bool rv, .slice pr lr cr], .agg #[.slice pb lb cb, .slice pw lw cw, .slice pt lt ct, .slice (some ⟨sb, so, none⟩) ls cs, .int .i64 sky, .int .i64 st], .int .i64 (k : Nat)] w fun x w' => x = .returned (.float .f64 (spB gr dt dr u ll lv dl dv gap)) ∧ Below w.heap.size w w' := by
  have A0 : Hid (Ab w ((w.alloc (.cells #[.int .i64 sd, .float .f64 dt, .float .f64 gr, .float .f64 dr, .int .i64 lim, .bool rv, .slice pr lr cr] 25)).alloc (.cells #[.slice pb lb cb, .slice pw lw cw, .slice pt lt ct, .slice (some ⟨sb, so, none⟩) ls cs, .int .i64 sky, .int .i64 st] 29))) := bl2 _ _ _
  have P0 : Hid (((w.alloc (.cells #[.int .i64 sd, .float .f64 dt, .float .f64 gr, .float .f64 dr, .int .i64 lim, .bool rv, .slice pr lr cr] 25)).alloc (.cells #[.slice pb lb cb, .slice pw lw cw, .slice pt lt ct, .slice (some ⟨sb, so, none⟩) ls cs, .int .i64 sky, .int .i64 st] 29)).heap[w.heap.size]? = some (.cells #[.int .i64 sd, .float .f64 dt, .float .f64 gr, .float .f64 dr, .int .i64 lim, .bool rv, .slice pr lr cr] 25)) := heap_alloc2_old _ _ _
  have S0 : Hid (((w.alloc (.cells #[.int .i64 sd, .float .f64 dt, .float .f64 gr, .float .f64 dr, .int .i64 lim, .bool rv, .slice pr lr cr] 25)).alloc (.cells #[.slice pb lb cb, .slice pw lw cw, .slice pt lt ct, .slice (some ⟨sb, so, none⟩) ls cs, .int .i64 sky, .int .i64 st] 29)).heap[w.heap.size + 1]? = some (.cells #[.slice pb lb cb, .slice pw lw cw, .slice pt lt ct, .slice (some ⟨sb, so, none⟩) ls cs, .int .i64 sky, .int .i64 st] 29)) := heap_alloc2_new _ _ _
  go_enter Tryz.func14, Tryz.ntmps14
  go_upto_region 1 with fail
  obtain ⟨gp, hgp⟩ : ∃ g, w.heap.size = g := ⟨_, rfl⟩
  obtain ⟨gs, hgs⟩ : ∃ g, w.heap.size + 1 = g := ⟨_, rfl⟩
  generalize hW : World.alloc (World.alloc w _) _ = W at *
  rw [hgs] at S0 ⊢
  rw [hgp] at P0 ⊢
  clear hgp hgs hW
  have c0 := cell_of_row _ _ 0 _ _ _ S0.out
  have c1 := cell_of_row _ _ 1 _ _ _ S0.out
  have c2 := cell_of_row _ _ 2 _ _ _ S0.out
  have c3 := cell_of_row _ _ 3 _ _ _ S0.out
  have c4 := cell_of_row _ _ 4 _ _ _ S0.out
  have c5 := cell_of_row _ _ 5 _ _ _ S0.out
  go_wp2_with fail
  refine (OP.out _ A0.out).mono ?_
  rintro e9 v1 ⟨rfl, k1⟩
  have W1 : Hid (Ab w v1) := A0.out.call k1
  have S1 := hid (Ab.heap k1 S0.out)
  have P1 := hid (Ab.heap k1 P0.out)
  clear k1 c0 c1 c2 c3 c4 c5 A0 S0 P0 OP
  go_wp2_with fail
  refine (EG.out _ (G0.out.to W1.out)).mono ?_
  rintro e9 v2 ⟨rfl, k1⟩
  have W2 : Hid (Ab w v2) := W1.out.call k1
  have S2 := hid (Ab.heap k1 S1.out)
  have P2 := hid (Ab.heap k1 P1.out)
  clear k1 W1 S1 P1 EG
  go_upto_region 4 with fail
  obtain ⟨ge, hge⟩ : ∃ g, v2.heap.size = g := ⟨_, rfl⟩
  have E3 := hid (heap_alloc_new v2 (.cells #[.int .i64 (lc : Nat), .int .i64 (sl : Nat), .int .i64 (rc : Nat), .int .i64 (sr : Nat)] 82))
  have W_a : Hid (Ab w (v2.alloc (.cells #[.int .i64 (lc : Nat), .int .i64 (sl : Nat), .int .i64 (rc : Nat), .int .i64 (sr : Nat)] 82))) := W2.out.trans (bl1 _ _)
  have S_a : Hid ((v2.alloc (.cells #[.int .i64 (lc : Nat), .int .i64 (sl : Nat), .int .i64 (rc : Nat), .int .i64 (sr : Nat)] 82)).heap[gs]? = some (.cells #[.slice pb lb cb, .slice pw lw cw, .slice pt lt ct, .slice (some ⟨sb, so, none⟩) ls cs, .int .i64 sky, .int .i64 st] 29)) := Ab.heap (bl1 _ _) S2.out
  have P_a : Hid ((v2.alloc (.cells #[.int .i64 (lc : Nat), .int .i64 (sl : Nat), .int .i64 (rc : Nat), .int .i64 (sr : Nat)] 82)).heap[gp]? = some (.cells #[.int .i64 sd, .float .f64 dt, .float .f64 gr, .float .f64 dr, .int .i64 lim, .bool rv, .slice pr lr cr] 25)) := Ab.heap (bl1 _ _) P2.out
  generalize hV : v2.alloc (.cells #[.int .i64 (lc : Nat), .int .i64 (sl : Nat), .int .i64 (rc : Nat), .int .i64 (sr : Nat)] 82) = a at *
  rw [hge] at E3 ⊢
  clear hV hge W2 S2 P2
  have G_a : Hid (RefOf n rb a) := G0.out.to W_a.out
  have e0 := cell_of_row _ _ 0 _ _ _ E3.out
  have e2 := cell_of_row _ _ 2 _ _ _ E3.out
  have p1 := cell_of_row _ _ 1 _ _ _ P_a.out
  have p2 := cell_of_row _ _ 2 _ _ _ P_a.out
  obtain ⟨r1, n1, hr1, i1⟩ := mul_o (P := Tryz.prog) a gr dt hG ht
  have I1 := hid i1
  clear i1
  go_upto_region 7 with fail
  clear e0 e2 p1 p2 hr1 E3
  have W_b : Hid (Ab w (a.drewN n1)) := Ab.drewN W_a.out n1
  have S_b : Hid ((a.drewN n1).heap[gs]? = some (.cells #[.slice pb lb cb, .slice pw lw cw, .slice pt lt ct, .slice (some ⟨sb, so, none⟩) ls cs, .int .i64 sky, .int .i64 st] 29)) := Ab.heap (Ab.drewN (Ab.refl _) n1) S_a.out
  have P_b : Hid ((a.drewN n1).heap[gp]? = some (.cells #[.int .i64 sd, .float .f64 dt, .float .f64 gr, .float .f64 dr, .int .i64 lim, .bool rv, .slice pr lr cr] 25)) := Ab.heap (Ab.drewN (Ab.refl _) n1) P_a.out
  have G_b : Hid (RefOf n rb (a.drewN n1)) := G_a.out.to (Ab.drewN (Ab.refl _) n1)
  clear W_a S_a P_a G_a
  generalize a.drewN n1 = b at *
  go_cut [13] from 37 to 47 (fun s13 wx => ∃ r2, s13 = .float .f64 r2 ∧ Ab b wx ∧ r2 < 18446744073709551616 ∧ dvB r2 gap = puB gr dt ll lv gap)
  case first =>
    cases e : Ieee.double.sub lv ll with
    | some rd =>
      have hs : ∀ (t : TypeId) (v : World), (binOp .sub t (.float .f64 lv) (.float .f64 ll)).run Tryz.prog v = .ok (.float .f64 rd) v := fun t v => run_float_arith v .sub t .f64 _ _ _ e
      have i2 : IsC rd (sbB lv ll) := sub_isC h1 e h2
      have I2 := hid i2
      clear i2 e
      obtain ⟨UU, E, hF1, hF2⟩ := cls b
      have HU := hid hF2
      have HU1 := hid hF1
      have HX : Hid (∀ u, Ab w (E u)) := fun u => W_b.out.trans (hF1 u)
      have s0 : ∀ u, (E u).cell? ⟨gs, 0, none⟩ = some (.slice pb lb cb) := fun u => cell_of_row _ _ 0 _ _ _ ((hF1 u).heap S_b.out)
      have s1 : ∀ u, (E u).cell? ⟨gs, 1, none⟩ = some (.slice pw lw cw) := fun u => cell_of_row _ _ 1 _ _ _ ((hF1 u).heap S_b.out)
      have s2 : ∀ u, (E u).cell? ⟨gs, 2, none⟩ = some (.slice pt lt ct) := fun u => cell_of_row _ _ 2 _ _ _ ((hF1 u).heap S_b.out)
      have s3 : ∀ u, (E u).cell? ⟨gs, 3, none⟩ = some (.slice (some ⟨sb, so, none⟩) ls cs) := fun u => cell_of_row _ _ 3 _ _ _ ((hF1 u).heap S_b.out)
      have s4 : ∀ u, (E u).cell? ⟨gs, 4, none⟩ = some (.int .i64 sky) := fun u => cell_of_row _ _ 4 _ _ _ ((hF1 u).heap S_b.out)
      have s5 : ∀ u, (E u).cell? ⟨gs, 5, none⟩ = some (.int .i64 st) := fun u => cell_of_row _ _ 5 _ _ _ ((hF1 u).heap S_b.out)
      have DD0 := HU.out _ (Ab.refl b).drew
      clear hF1 hF2
      refine region_tail 10 E (by kernel_rfl) (by kernel_rfl) (by kernel_rfl) DD0 ?_
      simp only [List.take_succ_cons, List.take_zero, List.drop_succ_cons, List.drop_zero]
      repeat (go_big_quiet_step (first
        | (with_reducible rfl)
        | (go_at_call_of 38 rc; exact calls_cls HU HU1 (LR.out _ (HX.out _)))
        | (go_at_call_of 38 lc; exact calls_cls HU HU1 (LL.out _ (HX.out _)))))
      refine wpQuiet_nil ?_
      intro z_b hwz
      obtain ⟨u0, hu⟩ := hwz
      have AZ : Hid (Ab b z_b) := by rw [hu]; exact HU1.out u0
      clear hu u0
      clear HU HU1 DD0 HX s0 s1 s2 s3 s4 s5
      clear E UU
      have AZ9 := AZ
      have W_z_b : Hid (Ab w z_b) := W_b.out.trans AZ.out
      have S_z_b := hid (Ab.heap AZ.out S_b.out)
      have P_z_b := hid (Ab.heap AZ.out P_b.out)
      have G_z_b := hid (G_b.out.to AZ.out)
      clear AZ W_b S_b P_b G_b
      obtain ⟨r2, n3, hr2, i3⟩ := mul_o (P := Tryz.prog) z_b r1 rd I1.out.1 I2.out.1
      have PU : Hid (dvB r2 gap = puB gr dt ll lv gap) := pu_o hG ht h1 h2 hg I1.out I2.out i3
      have H3 := hid i3.1
      have AZZ := AZ9
      clear i3
      go_wp2_with fail
      go_meet
      exact ⟨r2, rfl, Ab.drewN AZZ.out n3, H3.out, PU.out⟩
    | none =>
      have hs : ∀ (t : TypeId) (v : World), (binOp .sub t (.float .f64 lv) (.float .f64 ll)).run Tryz.prog v = .ok (.float .f64 (nanOf v lv ll)) v.drew := fun t v => run_nan_sub v t _ _ e
      have hm : ∀ (t : TypeId) (v v' : World), (binOp .mul t (.float .f64 r1) (.float .f64 (nanOf v lv ll))).run Tryz.prog v' = .ok (.float .f64 (nanOf v' r1 (nanOf v lv ll))) v'.drew := fun t v v' => run_nan_mul v' t _ _ (mul_nan _ _ (.inr (isN_nanOf _ _ _)))
      have PN : Hid (∀ v v', dvB (nanOf v' r1 (nanOf v lv ll)) gap = puB gr dt ll lv gap) := fun v v' => by
        rw [dvB_nan (isN_nanOf _ _ _)]
        have q : sbB lv ll = quiet := by
          unfold sbB
          rw [sub_add lv ll h1] at e
          exact addB_none e
        unfold puB
        rw [q, mlB_comm]
        have m : mlB quiet (mlB gr dt) = quiet := mlB_none (mul_nan _ _ (.inl (by decide)))
        rw [m]
        exact (dvB_nan (by decide)).symm
      have s0 := cell_of_row _ _ 0 _ _ _ S_b.out
      have s1 := cell_of_row _ _ 1 _ _ _ S_b.out
      have s2 := cell_of_row _ _ 2 _ _ _ S_b.out
      have s3 := cell_of_row _ _ 3 _ _ _ S_b.out
      have s4 := cell_of_row _ _ 4 _ _ _ S_b.out
      have s5 := cell_of_row _ _ 5 _ _ _ S_b.out
      have SX : Hid (∀ v, Ab b v → ∀ i, v.cell? ⟨gs, i, none⟩ = b.cell? ⟨gs, i, none⟩) := fun v hv i => Below.cell hv (lt_of_block S_b.out)
      go_region_with (first
        | (go_at_call_of 38 rc; refine (LR.out _ (by first | exact Ab.drew W_b.out | exact W_b.out.trans (by assumption))).mono ?_; rintro e9 y1 ⟨rfl, k9⟩; have KB : Ab b y1 := (by first | exact Ab.call (Ab.drew (Ab.refl b)) k9 | exact Ab.call (by assumption) k9); have d0 : y1.cell? ⟨gs, 0, none⟩ = some (.slice pb lb cb) := (SX.out _ KB 0).trans s0; have d1 : y1.cell? ⟨gs, 1, none⟩ = some (.slice pw lw cw) := (SX.out _ KB 1).trans s1; have d2 : y1.cell? ⟨gs, 2, none⟩ = some (.slice pt lt ct) := (SX.out _ KB 2).trans s2; have d3 : y1.cell? ⟨gs, 3, none⟩ = some (.slice (some ⟨sb, so, none⟩) ls cs) := (SX.out _ KB 3).trans s3; have d4 : y1.cell? ⟨gs, 4, none⟩ = some (.int .i64 sky) := (SX.out _ KB 4).trans s4; have d5 : y1.cell? ⟨gs, 5, none⟩ = some (.int .i64 st) := (SX.out _ KB 5).trans s5)
        | (go_at_call_of 38 lc; refine (LL.out _ (by first | exact Ab.drew W_b.out | exact W_b.out.trans (by assumption))).mono ?_; rintro e9 y2 ⟨rfl, k9⟩; have KC : Ab b y2 := (by first | exact Ab.call (Ab.drew (Ab.refl b)) k9 | exact Ab.call (by assumption) k9); have f0 : y2.cell? ⟨gs, 0, none⟩ = some (.slice pb lb cb) := (SX.out _ KC 0).trans s0; have f1 : y2.cell? ⟨gs, 1, none⟩ = some (.slice pw lw cw) := (SX.out _ KC 1).trans s1; have f2 : y2.cell? ⟨gs, 2, none⟩ = some (.slice pt lt ct) := (SX.out _ KC 2).trans s2; have f3 : y2.cell? ⟨gs, 3, none⟩ = some (.slice (some ⟨sb, so, none⟩) ls cs) := (SX.out _ KC 3).trans s3; have f4 : y2.cell? ⟨gs, 4, none⟩ = some (.int .i64 sky) := (SX.out _ KC 4).trans s4; have f5 : y2.cell? ⟨gs, 5, none⟩ = some (.int .i64 st) := (SX.out _ KC 5).trans s5))
      all_goals
        go_wp2_with fail
        go_meet
        refine ⟨_, rfl, ?_, nanOf_lt _ _ _, PN.out _ _⟩
        first
          | exact Ab.drewN KB _
          | exact Ab.drewN KC _
          | exact Ab.drew (Ab.drew KB)
          | exact Ab.drew (Ab.drew KC)
  case rest =>
    rename World => c
    obtain ⟨r2, rfl, hq1, hq2, hq3⟩ := hcut
    have W_c : Hid (Ab w c) := W_b.out.trans hq1
    have S_c := hid (Ab.heap hq1 S_b.out)
    have P_c := hid (Ab.heap hq1 P_b.out)
    have G_c := hid (G_b.out.to hq1)
    have PU := hid hq3
    have H2 := hid hq2
    clear hq1 hq2 hq3 W_b S_b P_b G_b I1
    go_wp2_with fail
    refine (GP.out _ G_c.out).mono ?_
    rintro e9 d ⟨rfl, k9⟩
    have W_d : Hid (Ab w d) := W_c.out.call k9
    have S_d := hid (Ab.heap k9 S_c.out)
    have P_d := hid (Ab.heap k9 P_c.out)
    have G_d := hid (G_c.out.to k9)
    clear k9 W_c S_c P_c G_c GP
    obtain ⟨r3, n3, hr3, i3⟩ := div_any (P := Tryz.prog) d r2 gap
    rw [PU.out] at i3
    obtain ⟨r4, n4, hr4, i4⟩ := sub_o (P := Tryz.prog) (d.drewN n3) u r3 hu i3.1
    rw [u1_o hu i3] at i4
    have I4 := hid i4
    have xu : (d.drewN n3).cell? ⟨sb, so + k, none⟩ = some (.float .f64 u) := CU.out _ (Ab.drewN W_d.out n3)
    have c3 : (d.drewN n3).cell? ⟨gs, 3, none⟩ = some (.slice (some ⟨sb, so, none⟩) ls cs) := cell_of_row _ _ 3 _ _ _ (Ab.heap (Ab.drewN (Ab.refl _) n3) S_d.out)
    clear i3 i4 PU H2
    go_upto_region 10 with fail
    clear xu c3 hr3 hr4
    have W_f : Hid (Ab w (d.drewN (n3 + n4))) := Ab.drewN W_d.out (n3 + n4)
    have S_f : Hid ((d.drewN (n3 + n4)).heap[gs]? = some (.cells #[.slice pb lb cb, .slice pw lw cw, .slice pt lt ct, .slice (some ⟨sb, so, none⟩) ls cs, .int .i64 sky, .int .i64 st] 29)) := Ab.heap (Ab.drewN (Ab.refl _) (n3 + n4)) S_d.out
    have P_f : Hid ((d.drewN (n3 + n4)).heap[gp]? = some (.cells #[.int .i64 sd, .float .f64 dt, .float .f64 gr, .float .f64 dr, .int .i64 lim, .bool rv, .slice pr lr cr] 25)) := Ab.heap (Ab.drewN (Ab.refl _) (n3 + n4)) P_d.out
    have G_f : Hid (RefOf n rb (d.drewN (n3 + n4))) := G_d.out.to (Ab.drewN (Ab.refl _) (n3 + n4))
    clear W_d S_d P_d G_d
    generalize d.drewN (n3 + n4) = f at *
    obtain ⟨UU, E, hF1, hF2⟩ := cls f
    have HU := hid hF2
    have HU1 := hid hF1
    have HX : Hid (∀ u, Ab w (E u)) := fun u => W_f.out.trans (hF1 u)
    have s0 : ∀ u, (E u).cell? ⟨gs, 0, none⟩ = some (.slice pb lb cb) := fun u => cell_of_row _ _ 0 _ _ _ ((hF1 u).heap S_f.out)
    have s1 : ∀ u, (E u).cell? ⟨gs, 1, none⟩ = some (.slice pw lw cw) := fun u => cell_of_row _ _ 1 _ _ _ ((hF1 u).heap S_f.out)
    have s2 : ∀ u, (E u).cell? ⟨gs, 2, none⟩ = some (.slice pt lt ct) := fun u => cell_of_row _ _ 2 _ _ _ ((hF1 u).heap S_f.out)
    have s3 : ∀ u, (E u).cell? ⟨gs, 3, none⟩ = some (.slice (some ⟨sb, so, none⟩) ls cs) := fun u => cell_of_row _ _ 3 _ _ _ ((hF1 u).heap S_f.out)
    have s4 : ∀ u, (E u).cell? ⟨gs, 4, none⟩ = some (.int .i64 sky) := fun u => cell_of_row _ _ 4 _ _ _ ((hF1 u).heap S_f.out)
    have s5 : ∀ u, (E u).cell? ⟨gs, 5, none⟩ = some (.int .i64 st) := fun u => cell_of_row _ _ 5 _ _ _ ((hF1 u).heap S_f.out)
    have DD0 := HU.out _ (Ab.refl f).drew
    clear hF1 hF2
    refine region_tail 8 E (by kernel_rfl) (by kernel_rfl) (by kernel_rfl) DD0 ?_
    simp only [List.take_succ_cons, List.take_zero, List.drop_succ_cons, List.drop_zero]
    repeat (go_big_quiet_step (first
      | (with_reducible rfl)
      | (go_at_call_of 40 lc; exact calls_cls HU HU1 (DL.out _ (HX.out _)))
      | (go_at_call_of 40 rc; exact calls_cls HU HU1 (DR.out _ (HX.out _)))))
    refine wpQuiet_nil ?_
    intro z_f hwz
    obtain ⟨u0, hu⟩ := hwz
    have AZ : Hid (Ab f z_f) := by rw [hu]; exact HU1.out u0
    clear hu u0
    clear HU HU1 DD0 HX s0 s1 s2 s3 s4 s5
    clear E UU
    have AZ9 := AZ
    have W_z_f : Hid (Ab w z_f) := W_f.out.trans AZ.out
    have S_z_f := hid (Ab.heap AZ.out S_f.out)
    have P_z_f := hid (Ab.heap AZ.out P_f.out)
    have G_z_f := hid (G_f.out.to AZ.out)
    clear AZ W_f S_f P_f G_f
    obtain ⟨rs, n5, hr5, i5, -⟩ := add_o (P := Tryz.prog) z_f dl dv h3 h4
    obtain ⟨rh, n6, hr6, i6⟩ := mul_o (P := Tryz.prog) (z_f.drewN n5) 4602678819172646912 rs (by decide) i5.1
    have HO := hid (h_o h3 h4 i5 i6)
    have HR := hid i6.1
    clear i5 i6 AZ9
    go_upto_region 11 with fail
    clear hr5 hr6
    have W_g : Hid (Ab w (z_f.drewN (n5 + n6))) := Ab.drewN W_z_f.out (n5 + n6)
    have S_g : Hid ((z_f.drewN (n5 + n6)).heap[gs]? = some (.cells #[.slice pb lb cb, .slice pw lw cw, .slice pt lt ct, .slice (some ⟨sb, so, none⟩) ls cs, .int .i64 sky, .int .i64 st] 29)) := Ab.heap (Ab.drewN (Ab.refl _) (n5 + n6)) S_z_f.out
    have P_g : Hid ((z_f.drewN (n5 + n6)).heap[gp]? = some (.cells #[.int .i64 sd, .float .f64 dt, .float .f64 gr, .float .f64 dr, .int .i64 lim, .bool rv, .slice pr lr cr] 25)) := Ab.heap (Ab.drewN (Ab.refl _) (n5 + n6)) P_z_f.out
    have G_g : Hid (RefOf n rb (z_f.drewN (n5 + n6))) := G_z_f.out.to (Ab.drewN (Ab.refl _) (n5 + n6))
    clear W_z_f S_z_f P_z_f G_z_f
    generalize z_f.drewN (n5 + n6) = g at *
    obtain ⟨q, hq⟩ : ∃ b, fgt rh 0 = b := ⟨_, rfl⟩
    cases q
    · have e : spB gr dt dr u ll lv dl dv gap = 0 := by
        unfold spB
        rw [← HO.out.1, hq]
        rfl
      have EE := hid e
      clear e
      go_wp2
      go_ret
      exact ⟨by rw [EE.out]; rfl, W_g.out⟩
    · have EH := hid (HO.out.2 hq)
      obtain ⟨r6, n7, hr7, i7⟩ := mul_o (P := Tryz.prog) g dr dt hD ht
      have p1 := cell_of_row _ _ 1 _ _ _ P_g.out
      have p3 := cell_of_row _ _ 3 _ _ _ P_g.out
      have I7 := hid i7
      clear i7
      go_wp2_with fail
      refine (rmag16 r4 _ I4.out.1).mono ?_
      rintro e9 g1 ⟨rfl, hv⟩
      have hv2 := hv.symm
      subst hv2
      clear p1 p3
      obtain ⟨r7, n8, hr8, i8⟩ := mul_o (P := Tryz.prog) (g.drewN n7) r6 (mg r4) I7.out.1 (mg_lt64 _)
      obtain ⟨r8, n9, hr9, i9⟩ := div_any (P := Tryz.prog) (g.drewN (n7 + n8)) r7 rh
      have D8 : Hid (dvB r7 rh = dvB (mlB (mlB dr dt) (mg (u1B gr dt u ll lv gap))) rh) := dg_o hD ht HR.out I7.out (mg_lt64 _) (mag_o I4.out) i8
      rw [D8.out] at i9
      obtain ⟨r9, n10, hr10, j1, j2⟩ := add_o (P := Tryz.prog) (g.drewN (n7 + n8 + n9)) 4607182418800017408 r8 (by decide) i9.1
      obtain ⟨r10, n11, hr11, i11⟩ := div_any (P := Tryz.prog) (g.drewN (n7 + n8 + n9 + n10)) r4 r9
      have RES := hid (sp_o (D := dr) I4.out EH.out hq i9 j1.1 j2 i11)
      have CC := hid (fun v => rcut16 r10 v)
      rw [RES.out] at CC
      clear i8 i9 j1 j2 i11
      go_wp2_with fail
      refine (CC.out _).mono ?_
      rintro e9 g2 ⟨rfl, hv⟩
      have hv2 := hv.symm
      subst hv2
      go_wp2
      go_ret
      exact ⟨rfl, by first | exact Ab.drewN W_g.out _ | exact Ab.drewN (Ab.drewN (Ab.drewN (Ab.drewN (Ab.drewN W_g.out _) _) _) _) _⟩
end Fc
end Go.Proofs.YtgalgnjgpmcngaaGreatDoor
