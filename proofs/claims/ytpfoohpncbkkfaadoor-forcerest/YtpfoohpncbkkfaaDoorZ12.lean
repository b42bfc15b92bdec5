/-
  Some of the texts of this proof, one behind the other.
-/
import Derived.Deep.QuietTactic
import Derived.Test.YtpfoohpncbkkfaaDoorZ11
namespace Go.Proofs.YtpfoohpncbkkfaaDoor
open Go.RowKit Tf Cu Go.Deep
attribute [local go_sem] run_bits run_from raw_feq raw_fne raw_flt raw_fgt run_neg run_store_float
namespace Fc
theorem gp_lt {n k : Nat} (hn : 1 ≤ n ∧ n ≤ 32) (hk : k < 12 * n * n) : gpE n k < 18446744073709551616 := by
  obtain ⟨t1, _, _⟩ := edT_spec hn.1 hk
  have h := (GpC_le hn (t_cell t1) (s := edT n k % 4) (by omega)).2
  unfold gpE
  omega
theorem same16_n (x y : Nat) (v : World) : Calls Tryd.prog 12 #[.float .f64 x, .float .f64 y] v fun e w' => e = .returned (.bool (x == y)) ∧ w' = v := by
  go_enter Tryd.func12, Tryd.ntmps12
  go_wp2
  go_ret
  refine ⟨?_, rfl⟩
  have e : ((x : Int) == (y : Int)) = (x == y) := by
    by_cases h : x = y
    · subst h
      rw [beq_self_eq_true, beq_self_eq_true]
    · have h2 : ¬ (x : Int) = (y : Int) := by omega
      rw [beq_eq_false_iff_ne.2 h, beq_eq_false_iff_ne.2 h2]
  rw [← e]
  rfl
set_option maxRecDepth 100000 in
set_option maxHeartbeats 16000000 in
theorem rest16_go (side : Int) (n M N : Nat) (bb bo wb wo : Nat) (sd : Int) (dt gr dr : Nat) (lim : Int) (rv : Bool) (pr : Option Addr) (lr cr : Nat) (lb cb : Nat) (B : Nat → Nat) (lw cw : Nat) (Wt : Nat → Int) (pt : Option Addr) (lt ct : Nat) (sb so : Nat) (ls cs : Nat) (Sp : Nat → Nat) (sky st : Int) (X : Nat → Nat) (L R sL sR : Nat → Nat) (ar : Nat → Int) (w : World) (hN : N ≤ 65536) (hM : M ≤ 65536)
    (LV : Hid (∀ v, Ab w v → Calls Tryd.prog 9 #[] v fun e w' => e = .returned (.bool true) ∧ Below v.heap.size v w'))
    (NT : Hid (∀ v, Ab w v → Calls Tryd.prog 10 #[.int .i64 side, .agg #[.slice (some ⟨bb, bo, none⟩) lb cb, .slice (some ⟨wb, wo, none⟩) lw cw, .slice pt lt ct, .slice (some ⟨sb, so, none⟩) ls cs, .int .i64 sky, .int .i64 st]] v fun e w' => Below v.heap.size v w' ∧ ((∃ gb, e = .returned (.pointer (some ⟨gb, 0, none⟩)) ∧ GridOf n gb w') ∨ e = .returned (.pointer none))))
    (EG : Hid (∀ gb v, Ab w v → GridOf n gb v → ∀ k : Nat, k < N → Calls Tryd.prog 14 #[.pointer (some ⟨gb, 0, none⟩), .int .i64 (k : Nat)] v fun e w' => e = .returned (.tuple #[.agg #[.int .i64 (L k : Nat), .int .i64 (sL k : Nat), .int .i64 (R k : Nat), .int .i64 (sR k : Nat)], .bool true]) ∧ Below v.heap.size v w'))
    (GA : Hid (∀ gb v, Ab w v → GridOf n gb v → ∀ c : Nat, c < M → Calls Tryd.prog 17 #[.pointer (some ⟨gb, 0, none⟩), .int .i64 (c : Nat)] v fun e w' => e = .returned (.int .i64 (ar c)) ∧ Below v.heap.size v w'))
    (LE : Hid (∀ v, ∀ c : Nat, c < M → Calls Tryd.prog 16 #[.float .f64 (B c), .int .i64 (Wt c), .int .i64 (ar c)] v fun e w' => e = .returned (.float .f64 (lvl (B c) (Wt c) (ar c))) ∧ Below v.heap.size v w'))
    (SP : Hid (∀ gb v, Ab w v → GridOf n gb v → ∀ k : Nat, k < N → Calls Tryd.prog 18 #[.pointer (some ⟨gb, 0, none⟩), .agg #[.int .i64 sd, .float .f64 dt, .float .f64 gr, .float .f64 dr, .int .i64 lim, .bool rv, .slice pr lr cr], .agg #[.slice (some ⟨bb, bo, none⟩) lb cb, .slice (some ⟨wb, wo, none⟩) lw cw, .slice pt lt ct, .slice (some ⟨sb, so, none⟩) ls cs, .int .i64 sky, .int .i64 st], .int .i64 (k : Nat)] v fun e w' => e = .returned (.float .f64 (X k)) ∧ Below v.heap.size v w'))
    (IB : Hid (IsFl w (some ⟨bb, bo, none⟩) lb B)) (IW : Hid (IsIn w (some ⟨wb, wo, none⟩) lw Wt)) (IS : Hid (IsFl w (some ⟨sb, so, none⟩) ls Sp)) (hls : ls = N) (hlb : lb = M) (hlw : lw = M)
    (AB : Hid (∀ c, ar c ≤ 9223372036854775807)) (LR : Hid (∀ k, k < N → L k < M ∧ R k < M))
    (XC : Hid (∀ k, k < N → lvl (B (L k)) (Wt (L k)) (ar (L k)) = lvl (B (R k)) (Wt (R k)) (ar (R k)) → mg (lvl (B (L k)) (Wt (L k)) (ar (L k))) < 9218868437227405312 → mg (Sp k) = 0 → X k = 0)) :
    Calls Tryd.prog 4 #[.int .i64 side, .agg #[.int .i64 sd, .float .f64 dt, .float .f64 gr, .float .f64 dr, .int .i64 lim, .bool rv, .slice pr lr cr], .agg #[.slice (some ⟨bb, bo, none⟩) lb cb, .slice (some ⟨wb, wo, none⟩) lw cw, .slice pt lt ct, .slice (some ⟨sb, so, none⟩) ls cs, .int .i64 sky, .int .i64 st]] w fun e w' => e = .returned (.bool true) ∧ Below w.heap.size w w' := by
  subst hls hlw
  have HLB := hid hlb
  clear hlb
  have A0 : Hid (Ab w ((w.alloc (.cells #[.int .i64 sd, .float .f64 dt, .float .f64 gr, .float .f64 dr, .int .i64 lim, .bool rv, .slice pr lr cr] 25)).alloc (.cells #[.slice (some ⟨bb, bo, none⟩) lb cb, .slice (some ⟨wb, wo, none⟩) lw cw, .slice pt lt ct, .slice (some ⟨sb, so, none⟩) ls cs, .int .i64 sky, .int .i64 st] 29))) := bl2 _ _ _
  have P0 : Hid (((w.alloc (.cells #[.int .i64 sd, .float .f64 dt, .float .f64 gr, .float .f64 dr, .int .i64 lim, .bool rv, .slice pr lr cr] 25)).alloc (.cells #[.slice (some ⟨bb, bo, none⟩) lb cb, .slice (some ⟨wb, wo, none⟩) lw cw, .slice pt lt ct, .slice (some ⟨sb, so, none⟩) ls cs, .int .i64 sky, .int .i64 st] 29)).heap[w.heap.size]? = some (.cells #[.int .i64 sd, .float .f64 dt, .float .f64 gr, .float .f64 dr, .int .i64 lim, .bool rv, .slice pr lr cr] 25)) := heap_alloc2_old _ _ _
  have S0 : Hid (((w.alloc (.cells #[.int .i64 sd, .float .f64 dt, .float .f64 gr, .float .f64 dr, .int .i64 lim, .bool rv, .slice pr lr cr] 25)).alloc (.cells #[.slice (some ⟨bb, bo, none⟩) lb cb, .slice (some ⟨wb, wo, none⟩) lw cw, .slice pt lt ct, .slice (some ⟨sb, so, none⟩) ls cs, .int .i64 sky, .int .i64 st] 29)).heap[w.heap.size + 1]? = some (.cells #[.slice (some ⟨bb, bo, none⟩) lb cb, .slice (some ⟨wb, wo, none⟩) lw cw, .slice pt lt ct, .slice (some ⟨sb, so, none⟩) ls cs, .int .i64 sky, .int .i64 st] 29)) := heap_alloc2_new _ _ _
  go_enter Tryd.func4, Tryd.ntmps4
  go_upto_region 1 with fail
  obtain ⟨gp, hgp⟩ : ∃ g, w.heap.size = g := ⟨_, rfl⟩
  obtain ⟨gs, hgs⟩ : ∃ g, w.heap.size + 1 = g := ⟨_, rfl⟩
  generalize hW : World.alloc (World.alloc w _) _ = W at *
  rw [hgs] at S0 ⊢
  rw [hgp] at P0 ⊢
  clear hgp hgs hW
  go_wp2_with fail
  refine (LV.out _ A0.out).mono ?_
  rintro e9 v1 ⟨rfl, k1⟩
  have A1 : Hid (Ab w v1) := A0.out.call k1
  have P1 := hid (Ab.heap k1 P0.out)
  have S1 := hid (Ab.heap k1 S0.out)
  clear k1 A0 P0 S0
  have c0 := cell_of_row _ _ 0 _ _ _ S1.out
  have c1 := cell_of_row _ _ 1 _ _ _ S1.out
  have c2 := cell_of_row _ _ 2 _ _ _ S1.out
  have c3 := cell_of_row _ _ 3 _ _ _ S1.out
  have c4 := cell_of_row _ _ 4 _ _ _ S1.out
  have c5 := cell_of_row _ _ 5 _ _ _ S1.out
  go_wp2_with fail
  refine (NT.out _ A1.out).mono ?_
  rintro e9 v2 ⟨k1, ⟨gb, rfl, g1⟩ | rfl⟩
  · have A2 : Hid (Ab w v2) := A1.out.call k1
    have P2 := hid (Ab.heap k1 P1.out)
    have S2 := hid (Ab.heap k1 S1.out)
    have G2 := hid g1
    clear k1 g1 A1 P1 S1 c0 c1 c2 c3 c4 c5 LV NT
    have c0 := cell_of_row _ _ 0 _ _ _ S2.out
    have c1 := cell_of_row _ _ 1 _ _ _ S2.out
    have c2 := cell_of_row _ _ 2 _ _ _ S2.out
    have c3 := cell_of_row _ _ 3 _ _ _ S2.out
    have c4 := cell_of_row _ _ 4 _ _ _ S2.out
    have c5 := cell_of_row _ _ 5 _ _ _ S2.out
    have NB := hid hN
    have MB := hid hM
    clear hN hM
    go_wp2
    clear c0 c1 c2 c3 c4 c5
    go_loopw [8] (fun iv wr => ∃ k : Nat, k ≤ ls ∧ iv = .int .i64 (k : Nat) ∧ Ab v2 wr) (fun iv _ => ls - (intOf iv).toNat)
    case atStart => exact ⟨0, by omega, rfl, Ab.refl _⟩
    case round =>
      obtain ⟨k, hk, rfl, a1⟩ := hrel
      have AR := hid a1
      clear a1
      have AW : Hid (Ab w wr) := A2.out.trans AR.out
      have GR := hid (G2.out.to AR.out)
      have SR := hid (Ab.heap AR.out S2.out)
      have PR := hid (Ab.heap AR.out P2.out)
      have c3 := cell_of_row _ _ 3 _ _ _ SR.out
      by_cases hkn : k < ls
      · have HK := hid hkn
        have kI : (k : Int) < ls := by omega
        have kB : (k : Int) ≤ 65536 := by have := NB.out; omega
        obtain ⟨l1, l2⟩ := LR.out k hkn
        have HX := hid (XC.out k hkn)
        have CE : Hid (∀ v, Ab wr v → Calls Tryd.prog 14 #[.pointer (some ⟨gb, 0, none⟩), .int .i64 (k : Nat)] v fun e w' => e = .returned (.tuple #[.agg #[.int .i64 (L k : Nat), .int .i64 (sL k : Nat), .int .i64 (R k : Nat), .int .i64 (sR k : Nat)], .bool true]) ∧ Below v.heap.size v w') := fun v hv => EG.out gb v (AW.out.trans hv) (GR.out.to hv) k hkn
        have CS : Hid (∀ v, Ab wr v → Calls Tryd.prog 18 #[.pointer (some ⟨gb, 0, none⟩), .agg #[.int .i64 sd, .float .f64 dt, .float .f64 gr, .float .f64 dr, .int .i64 lim, .bool rv, .slice pr lr cr], .agg #[.slice (some ⟨bb, bo, none⟩) lb cb, .slice (some ⟨wb, wo, none⟩) lw cw, .slice pt lt ct, .slice (some ⟨sb, so, none⟩) ls cs, .int .i64 sky, .int .i64 st], .int .i64 (k : Nat)] v fun e w' => e = .returned (.float .f64 (X k)) ∧ Below v.heap.size v w') := fun v hv => SP.out gb v (AW.out.trans hv) (GR.out.to hv) k hkn
        have AR_lc : Hid (∀ v, Ab wr v → Calls Tryd.prog 17 #[.pointer (some ⟨gb, 0, none⟩), .int .i64 (L k : Nat)] v fun e w' => e = .returned (.int .i64 (ar (L k))) ∧ Below v.heap.size v w') := fun v hv => GA.out gb v (AW.out.trans hv) (GR.out.to hv) _ l1
        have AR_rc : Hid (∀ v, Ab wr v → Calls Tryd.prog 17 #[.pointer (some ⟨gb, 0, none⟩), .int .i64 (R k : Nat)] v fun e w' => e = .returned (.int .i64 (ar (R k))) ∧ Below v.heap.size v w') := fun v hv => GA.out gb v (AW.out.trans hv) (GR.out.to hv) _ l2
        have LE_lc : Hid (∀ v, Calls Tryd.prog 16 #[.float .f64 (B (L k)), .int .i64 (Wt (L k)), .int .i64 (ar (L k))] v fun e w' => e = .returned (.float .f64 (lvl (B (L k)) (Wt (L k)) (ar (L k)))) ∧ Below v.heap.size v w') := fun v => LE.out v _ l1
        have LE_rc : Hid (∀ v, Calls Tryd.prog 16 #[.float .f64 (B (R k)), .int .i64 (Wt (R k)), .int .i64 (ar (R k))] v fun e w' => e = .returned (.float .f64 (lvl (B (R k)) (Wt (R k)) (ar (R k)))) ∧ Below v.heap.size v w') := fun v => LE.out v _ l2
        have lB1 : L k < lb := by rw [HLB.out]; exact l1
        have rB1 : R k < lb := by rw [HLB.out]; exact l2
        have CB_lc : Hid (∀ v, Ab wr v → v.cell? ⟨bb, bo + L k, none⟩ = some (.float .f64 (B (L k)))) := fun v hv => (((IB.out.below (AW.out.trans hv)).at0 lB1).2.2)
        have CB_rc : Hid (∀ v, Ab wr v → v.cell? ⟨bb, bo + R k, none⟩ = some (.float .f64 (B (R k)))) := fun v hv => (((IB.out.below (AW.out.trans hv)).at0 rB1).2.2)
        have CW_lc : Hid (∀ v, Ab wr v → v.cell? ⟨wb, wo + L k, none⟩ = some (.int .i64 (Wt (L k)))) := fun v hv => (((IW.out.below (AW.out.trans hv)).at0 l1).2.2)
        have CW_rc : Hid (∀ v, Ab wr v → v.cell? ⟨wb, wo + R k, none⟩ = some (.int .i64 (Wt (R k)))) := fun v hv => (((IW.out.below (AW.out.trans hv)).at0 l2).2.2)
        have CU : Hid (∀ v, Ab wr v → v.cell? ⟨sb, so + k, none⟩ = some (.float .f64 (Sp k))) := fun v hv => (((IS.out.below (AW.out.trans hv)).at0 hkn).2.2)
        have ub := (IS.out.at0 hkn).1
        have hva : lvl (B (L k)) (Wt (L k)) (ar (L k)) < 18446744073709551616 := lvl_lt (IB.out.at0 lB1).1 (IW.out.at0 l1).1 (AB.out _)
        generalize lvl (B (L k)) (Wt (L k)) (ar (L k)) = va at *
        generalize lvl (B (R k)) (Wt (R k)) (ar (R k)) = vb at *
        generalize ar (L k) = al at *
        generalize ar (R k) = ar' at *
        generalize B (L k) = blc at *
        generalize B (R k) = brc at *
        generalize Wt (L k) = wlc at *
        generalize Wt (R k) = wrc at *
        generalize L k = lc at *
        generalize R k = rc at *
        generalize sL k = sl at *
        generalize sR k = sr at *
        generalize X k = x at *
        generalize Sp k = us at *
        have lI : (lc : Int) < lw := by omega
        have rI : (rc : Int) < lw := by omega
        have lB : (lc : Int) < lb := by omega
        have rB : (rc : Int) < lb := by omega
        clear hkn hk l1 l2 lB1 rB1
        go_wp2_with fail
        refine (CE.out _ (Ab.refl _)).mono ?_
        rintro e9 v6 ⟨rfl, k6⟩
        have A6 : Hid (Ab wr v6) := k6
        clear k6 CE c3
        have S6 := hid (Ab.heap A6.out SR.out)
        go_upto_region 12 with fail
        obtain ⟨ge, hge⟩ : ∃ g, v6.heap.size = g := ⟨_, rfl⟩
        have E_v7 := hid (heap_alloc_new v6 (.cells #[.int .i64 (lc : Nat), .int .i64 (sl : Nat), .int .i64 (rc : Nat), .int .i64 (sr : Nat)] 39))
        have A_v7 : Hid (Ab wr (v6.alloc (.cells #[.int .i64 (lc : Nat), .int .i64 (sl : Nat), .int .i64 (rc : Nat), .int .i64 (sr : Nat)] 39))) := A6.out.trans (bl1 _ _)
        have S_v7 : Hid ((v6.alloc (.cells #[.int .i64 (lc : Nat), .int .i64 (sl : Nat), .int .i64 (rc : Nat), .int .i64 (sr : Nat)] 39)).heap[gs]? = _) := Ab.heap (bl1 _ _) S6.out
        generalize hV : v6.alloc (.cells #[.int .i64 (lc : Nat), .int .i64 (sl : Nat), .int .i64 (rc : Nat), .int .i64 (sr : Nat)] 39) = v7 at *
        rw [hge] at E_v7 ⊢
        clear hV hge S6 A6
        obtain ⟨UU, E, hF1, hF2⟩ := cls v7
        have HU := hid hF2
        have HU1 := hid hF1
        have s0 : ∀ u, (E u).cell? ⟨gs, 0, none⟩ = some (.slice (some ⟨bb, bo, none⟩) lb cb) := fun u => cell_of_row _ _ 0 _ _ _ ((hF1 u).heap S_v7.out)
        have s1 : ∀ u, (E u).cell? ⟨gs, 1, none⟩ = some (.slice (some ⟨wb, wo, none⟩) lw cw) := fun u => cell_of_row _ _ 1 _ _ _ ((hF1 u).heap S_v7.out)
        have s2 : ∀ u, (E u).cell? ⟨ge, 0, none⟩ = some (.int .i64 (lc : Nat)) := fun u => cell_of_row _ _ 0 _ _ _ ((hF1 u).heap E_v7.out)
        have s3 : ∀ u, (E u).cell? ⟨bb, bo + lc, none⟩ = some (.float .f64 (blc)) := fun u => CB_lc.out _ (A_v7.out.trans (hF1 u))
        have s4 : ∀ u, (E u).cell? ⟨wb, wo + lc, none⟩ = some (.int .i64 (wlc)) := fun u => CW_lc.out _ (A_v7.out.trans (hF1 u))
        have HX : Hid (∀ u, Ab wr (E u)) := fun u => A_v7.out.trans (hF1 u)
        have DD0 := HU.out _ (Ab.refl v7).drew
        clear hF1 hF2
        refine region_cls E (by kernel_rfl) (by kernel_rfl) DD0 ?_
        repeat (go_big_quiet_step (first
          | (with_reducible rfl)
          | (go_at_call 17; exact calls_cls HU HU1 (AR_lc.out _ (HX.out _)))
          | (go_at_call 16; exact calls_cls HU HU1 (LE_lc.out _))))
        refine wpQuiet_nil ?_
        intro z_v7 hwz
        obtain ⟨u0, hu⟩ := hwz
        have AZ : Hid (Ab v7 z_v7) := by rw [hu]; exact HU1.out u0
        clear hu u0
        clear HU HU1 HX DD0 s0 s1 s2 s3 s4
        clear E UU
        have A_z_v7 : Hid (Ab wr z_v7) := A_v7.out.trans AZ.out
        have S_z_v7 := hid (Ab.heap AZ.out S_v7.out)
        have E_z_v7 := hid (Ab.heap AZ.out E_v7.out)
        clear AZ A_v7 S_v7 E_v7
        go_wp2_with fail
        obtain ⟨UU, E, hF1, hF2⟩ := cls z_v7
        have HU := hid hF2
        have HU1 := hid hF1
        have s0 : ∀ u, (E u).cell? ⟨gs, 0, none⟩ = some (.slice (some ⟨bb, bo, none⟩) lb cb) := fun u => cell_of_row _ _ 0 _ _ _ ((hF1 u).heap S_z_v7.out)
        have s1 : ∀ u, (E u).cell? ⟨gs, 1, none⟩ = some (.slice (some ⟨wb, wo, none⟩) lw cw) := fun u => cell_of_row _ _ 1 _ _ _ ((hF1 u).heap S_z_v7.out)
        have s2 : ∀ u, (E u).cell? ⟨ge, 2, none⟩ = some (.int .i64 (rc : Nat)) := fun u => cell_of_row _ _ 2 _ _ _ ((hF1 u).heap E_z_v7.out)
        have s3 : ∀ u, (E u).cell? ⟨bb, bo + rc, none⟩ = some (.float .f64 (brc)) := fun u => CB_rc.out _ (A_z_v7.out.trans (hF1 u))
        have s4 : ∀ u, (E u).cell? ⟨wb, wo + rc, none⟩ = some (.int .i64 (wrc)) := fun u => CW_rc.out _ (A_z_v7.out.trans (hF1 u))
        have HX : Hid (∀ u, Ab wr (E u)) := fun u => A_z_v7.out.trans (hF1 u)
        have DD0 := HU.out _ (Ab.refl z_v7).drew
        clear hF1 hF2
        refine region_cls E (by kernel_rfl) (by kernel_rfl) DD0 ?_
        repeat (go_big_quiet_step (first
          | (with_reducible rfl)
          | (go_at_call 17; exact calls_cls HU HU1 (AR_rc.out _ (HX.out _)))
          | (go_at_call 16; exact calls_cls HU HU1 (LE_rc.out _))))
        refine wpQuiet_nil ?_
        intro z_z_v7 hwz
        obtain ⟨u0, hu⟩ := hwz
        have AZ : Hid (Ab z_v7 z_z_v7) := by rw [hu]; exact HU1.out u0
        clear hu u0
        clear HU HU1 HX DD0 s0 s1 s2 s3 s4
        clear E UU
        have A_z_z_v7 : Hid (Ab wr z_z_v7) := A_z_v7.out.trans AZ.out
        have S_z_z_v7 := hid (Ab.heap AZ.out S_z_v7.out)
        have E_z_z_v7 := hid (Ab.heap AZ.out E_z_v7.out)
        clear AZ A_z_v7 S_z_v7 E_z_v7
        go_wp2_with fail
        refine (same16_n va vb _).mono ?_
        rintro e9 v8 ⟨rfl, hv⟩
        have hv2 := hv.symm
        subst hv2
        clear LE_lc LE_rc AR_lc AR_rc CB_lc CB_rc CW_lc CW_rc E_z_z_v7
        by_cases hab : va = vb
        · subst hab
          have e1 : (va == va) = true := beq_self_eq_true va
          rw [e1]
          clear e1
          have cu := CU.out _ A_z_z_v7.out
          have c3 := cell_of_row _ _ 3 _ _ _ S_z_z_v7.out
          rcases sub13 va hva with ⟨f1, f2⟩ | ⟨f1, f2, f3⟩
          · have e2 : feq 0 0 = true := by decide
            obtain ⟨fu, hfu⟩ : ∃ b, feq us 0 = b := ⟨_, rfl⟩
            cases fu
            · go_wp2
              exact ⟨⟨k + 1, by have := HK.out; omega, by simp, AR.out.trans (A_z_z_v7.out)⟩, by have := HK.out; simp [intOf]; omega⟩
            · have x0 : x = 0 := HX.out rfl (of_decide_eq_true f1) (by rw [feq_zero us ub] at hfu; exact of_decide_eq_true hfu)
              subst x0
              have P8 := hid (Ab.heap A_z_z_v7.out PR.out)
              have p0 := cell_of_row _ _ 0 _ _ _ P8.out
              have p1 := cell_of_row _ _ 1 _ _ _ P8.out
              have p2 := cell_of_row _ _ 2 _ _ _ P8.out
              have p3 := cell_of_row _ _ 3 _ _ _ P8.out
              have p4 := cell_of_row _ _ 4 _ _ _ P8.out
              have p5 := cell_of_row _ _ 5 _ _ _ P8.out
              have p6 := cell_of_row _ _ 6 _ _ _ P8.out
              have c0 := cell_of_row _ _ 0 _ _ _ S_z_z_v7.out
              have c1 := cell_of_row _ _ 1 _ _ _ S_z_z_v7.out
              have c2 := cell_of_row _ _ 2 _ _ _ S_z_z_v7.out
              have c4 := cell_of_row _ _ 4 _ _ _ S_z_z_v7.out
              have c5 := cell_of_row _ _ 5 _ _ _ S_z_z_v7.out
              go_wp2_with fail
              refine (CS.out _ A_z_z_v7.out).mono ?_
              rintro e9 v9 ⟨rfl, k9⟩
              have A9 : Hid (Ab wr v9) := A_z_z_v7.out.call k9
              clear k9
              go_wp2_with fail
              refine (same16 0 _).mono ?_
              rintro e9 v10 ⟨rfl, hv⟩
              have hv2 := hv.symm
              subst hv2
              go_wp2
              exact ⟨⟨k + 1, by have := HK.out; omega, by simp, AR.out.trans (A9.out)⟩, by have := HK.out; simp [intOf]; omega⟩
          · go_wp2
            exact ⟨⟨k + 1, by have := HK.out; omega, by simp, AR.out.trans (Ab.drewN A_z_z_v7.out 1)⟩, by have := HK.out; simp [intOf]; omega⟩
        · have e1 : (va == vb) = false := beq_eq_false_iff_ne.2 hab
          rw [e1]
          clear e1
          go_wp2
          exact ⟨⟨k + 1, by have := HK.out; omega, by simp, AR.out.trans (A_z_z_v7.out)⟩, by have := HK.out; simp [intOf]; omega⟩
      · obtain rfl : k = ls := by omega
        go_wp2
        go_ret
        exact ⟨rfl, A2.out.trans AR.out⟩
  · have A2 : Hid (Ab w v2) := A1.out.call k1
    clear k1 A1 P1 S1 c0 c1 c2 c3 c4 c5 LV NT
    go_wp2
    go_ret
    exact ⟨rfl, A2.out⟩
set_option maxRecDepth 100000 in
set_option maxHeartbeats 8000000 in
theorem rest16_nil (side : Int) (sd : Int) (dt gr dr : Nat) (lim : Int) (rv : Bool) (pr : Option Addr) (lr cr : Nat) (pb : Option Addr) (lb cb : Nat) (pw : Option Addr) (lw cw : Nat) (pt : Option Addr) (lt ct : Nat) (ps : Option Addr) (ls cs : Nat) (sky st : Int)  (w : World)
    (LV : Hid (∀ v, Ab w v → Calls Tryd.prog 9 #[] v fun e w' => e = .returned (.bool true) ∧ Below v.heap.size v w'))
    (NT : Hid (∀ v, Ab w v → Calls Tryd.prog 10 #[.int .i64 side, .agg #[.slice pb lb cb, .slice pw lw cw, .slice pt lt ct, .slice ps ls cs, .int .i64 sky, .int .i64 st]] v fun e w' => e = .returned (.pointer none) ∧ Below v.heap.size v w')) :
    Calls Tryd.prog 4 #[.int .i64 side, .agg #[.int .i64 sd, .float .f64 dt, .float .f64 gr, .float .f64 dr, .int .i64 lim, .bool rv, .slice pr lr cr], .agg #[.slice pb lb cb, .slice pw lw cw, .slice pt lt ct, .slice ps ls cs, .int .i64 sky, .int .i64 st]] w fun e w' => e = .returned (.bool true) ∧ Below w.heap.size w w' := by
  have A0 : Hid (Ab w ((w.alloc (.cells #[.int .i64 sd, .float .f64 dt, .float .f64 gr, .float .f64 dr, .int .i64 lim, .bool rv, .slice pr lr cr] 25)).alloc (.cells #[.slice pb lb cb, .slice pw lw cw, .slice pt lt ct, .slice ps ls cs, .int .i64 sky, .int .i64 st] 29))) := bl2 _ _ _
  have S0 : Hid (((w.alloc (.cells #[.int .i64 sd, .float .f64 dt, .float .f64 gr, .float .f64 dr, .int .i64 lim, .bool rv, .slice pr lr cr] 25)).alloc (.cells #[.slice pb lb cb, .slice pw lw cw, .slice pt lt ct, .slice ps ls cs, .int .i64 sky, .int .i64 st] 29)).heap[w.heap.size + 1]? = some (.cells #[.slice pb lb cb, .slice pw lw cw, .slice pt lt ct, .slice ps ls cs, .int .i64 sky, .int .i64 st] 29)) := heap_alloc2_new _ _ _
  go_enter Tryd.func4, Tryd.ntmps4
  go_upto_region 1 with fail
  obtain ⟨gs, hgs⟩ : ∃ g, w.heap.size + 1 = g := ⟨_, rfl⟩
  generalize hW : World.alloc (World.alloc w _) _ = W at *
  rw [hgs] at S0 ⊢
  clear hgs hW
  go_wp2_with fail
  refine (LV.out _ A0.out).mono ?_
  rintro e9 v1 ⟨rfl, k1⟩
  have A1 : Hid (Ab w v1) := A0.out.call k1
  have S1 := hid (Ab.heap k1 S0.out)
  clear k1 A0 S0
  have c0 := cell_of_row _ _ 0 _ _ _ S1.out
  have c1 := cell_of_row _ _ 1 _ _ _ S1.out
  have c2 := cell_of_row _ _ 2 _ _ _ S1.out
  have c3 := cell_of_row _ _ 3 _ _ _ S1.out
  have c4 := cell_of_row _ _ 4 _ _ _ S1.out
  have c5 := cell_of_row _ _ 5 _ _ _ S1.out
  go_wp2_with fail
  refine (NT.out _ A1.out).mono ?_
  rintro e9 v2 ⟨rfl, k1⟩
  have A2 : Hid (Ab w v2) := A1.out.call k1
  clear k1 A1 S1 c0 c1 c2 c3 c4 c5 LV NT
  go_wp2
  go_ret
  exact ⟨rfl, A2.out⟩
/-- REST STAYS -/
theorem rest16_at (OC : OpenC) (SC : SpeedsC) (VC : SpeedC) (side : Int) (sd : Int) (dt gr dr : Nat) (lim : Int) (rv : Bool) (pr : Option Addr) (lr cr : Nat) (pb : Option Addr) (lb cb : Nat) (B : Nat → Nat) (pw : Option Addr) (lw cw : Nat) (Wt : Nat → Int) (pt : Option Addr) (lt ct : Nat) (ps : Option Addr) (ls cs : Nat) (Sp : Nat → Nat) (sky st : Int) (w : World) (hF : Fr w) (IB : IsFl w pb lb B) (IW : IsIn w pw lw Wt) (IS : IsFl w ps ls Sp) (hp : dt < 18446744073709551616 ∧ gr < 18446744073709551616 ∧ dr < 18446744073709551616) :
    Calls Tryd.prog 4 #[.int .i64 side, .agg #[.int .i64 sd, .float .f64 dt, .float .f64 gr, .float .f64 dr, .int .i64 lim, .bool rv, .slice pr lr cr], .agg #[.slice pb lb cb, .slice pw lw cw, .slice pt lt ct, .slice ps ls cs, .int .i64 sky, .int .i64 st]] w fun e w' => e = .returned (.bool true) ∧ Below w.heap.size w w' := by
  by_cases h : ∃ n : Nat, side = (n : Int) ∧ (1 ≤ n ∧ n ≤ 32) ∧ fit4 n lb lw lt ls
  · obtain ⟨n, rfl, hn, hf⟩ := h
    obtain ⟨m1, m2, m3, m4⟩ := n6_16 hn
    have hf2 := hf
    obtain ⟨f1, f2, f3, f4⟩ := hf2
    obtain ⟨bb, bo, rfl⟩ := IB.some0 (by omega)
    obtain ⟨wb, wo, rfl⟩ := IW.some0 (by omega)
    obtain ⟨sb, so, rfl⟩ := IS.some0 (by omega)
    refine rest16_go (n : Int) n (6 * n * n) (12 * n * n) bb bo wb wo sd dt gr dr lim rv pr lr cr lb cb B lw cw Wt pt lt ct sb so ls cs Sp sky st (spE n gr dt dr B Wt Sp) (eL n) (eR n) (fun k => edT n k % 4) (fun k => mt n (edT n k) % 4) (arC n) w m2 m1 (fun v hv => lives16_at OC SC v (hF.to hv)) (fun v hv => (net16_yes n _ _ pt _ lb cb lw cw lt ct ls cs sky st v (hF.to hv) hn hf).mono fun _ _ h => ⟨h.1, .inl h.2⟩)
      (fun gb v _ g k hk => edge16 hn hk g) (fun gb v _ g c hc => gArea_ok hn hc g) (fun v c hc => ?_) (fun gb v hv g k hk => (VC n gb sd dt gr dr lim rv pr lr cr _ lb cb B _ lw cw Wt pt lt ct _ ls cs Sp sky st (k : Int) v hn g (IB.below hv) (IW.below hv) (IS.below hv) hp (by omega)).1 ⟨hf, inR_true hk⟩)
      IB IW IS f4 f1 f2 (fun c => (arC_in n c).2) (fun k hk => ⟨(ends16 hn.1 hk).1, (ends16 hn.1 hk).2.1⟩) (fun k hk e f z => ?_)
    · exact (level_at (B c) (Wt c) (arC n c) v (IB.at0 (by rw [f1]; exact hc)).1 (IW.at0 (by rw [f2]; exact hc)).1 (arC_in n c).2).mono fun _ _ h => ⟨h.1, by obtain ⟨_, q, rfl⟩ := h; exact Ab.drewN (Ab.refl _) q⟩
    · obtain ⟨c1, c2, c3⟩ := ends16 hn.1 hk
      unfold spE
      split
      · have hL : lvC n B Wt (eL n k) = lvC n B Wt (eR n k) := e
        have hl : lvC n B Wt (eL n k) < 18446744073709551616 := lvl_lt (IB.at0 (by rw [f1]; exact c1)).1 (IW.at0 (by rw [f2]; exact c1)).1 (arC_in n _).2
        rw [← hL]
        exact spB_rest gr dt dr _ _ _ hp.2.1 hp.1 (gp_lt hn hk) (IS.at0 (by rw [f4]; exact hk)).1 z hl f
      · rfl
  · exact rest16_nil side sd dt gr dr lim rv pr lr cr pb lb cb pw lw cw pt lt ct ps ls cs sky st w (fun v hv => lives16_at OC SC v (hF.to hv)) (fun v hv => net16_nil side pb pw pt ps lb cb lw cw lt ct ls cs sky st v (hF.to hv) h)
end Fc
end Go.Proofs.YtpfoohpncbkkfaaDoor

namespace Go.Proofs.YtpfoohpncbkkfaaDoor
open Go.RowKit
namespace Rl
/-- what the operations left, one more -/
def updV (x : Nat → Value) (i : Nat) (v : Value) : Nat → Value := fun j => if j = i then v else x j
/-- the frame behind them -/
def putAll : List Oper → Nat → (Nat → Value) → Act → Act
  | [], _, _, a => a
  | o :: r, i, x, a => putAll r (i + 1) x (a.put o.dst (x i))
/-- whether an operation waits for another -/
def depB (o : Oper) (j : Nat) : Bool := o.after.any fun e => e.on == j && Region.binds .any e
/-- each operation, from whatever its forerunners left -/
def relAll (P : Program) (l : List Oper) (a : Act) (R : Nat → Value → Prop) (C : World → Prop) (Q : Exit → Act → World → Prop) : Nat → List Oper → Prop
  | _, [] => True
  | i, o :: rest => (∀ (x : Nat → Value) (w : World), C w → (∀ j, depB o j = true → R j (x j)) → ∀ K : Act → World → Prop, Hid (∀ v w', R i v → C w' → K ((putAll l 0 x a).put o.dst v) w') → o.wp P (putAll l 0 x a) w K Q) ∧ relAll P l a R C Q (i + 1) rest
theorem rel_cons {P : Program} {l : List Oper} {a : Act} {R : Nat → Value → Prop} {C : World → Prop} {Q : Exit → Act → World → Prop} {i : Nat} {o : Oper} {rest : List Oper} (j : Nat) (Ri : Value → Prop) (hRi : R i = Ri) (hj : i + 1 = j)
    (h : ∀ (x : Nat → Value) (w : World), C w → (∀ k, depB o k = true → R k (x k)) → ∀ K : Act → World → Prop, Hid (∀ v w', Ri v → C w' → K ((putAll l 0 x a).put o.dst v) w') → o.wp P (putAll l 0 x a) w K Q)
    (t : relAll P l a R C Q j rest) : relAll P l a R C Q i (o :: rest) := by
  subst hRi
  subst hj
  exact ⟨h, t⟩
theorem rel_nil {P : Program} {l : List Oper} {a : Act} {R : Nat → Value → Prop} {C : World → Prop} {Q : Exit → Act → World → Prop} {i : Nat} : relAll P l a R C Q i [] := trivial
/-- no slot is written twice, nothing is guarded -/
def plainB : List Oper → Bool
  | [] => true
  | o :: r => o.guard.isNone && (match o.dst with | some d => r.all (fun p => p.dst != some d) | none => true) && plainB r
theorem put_put (a : Act) (d : Option Tmp) (u v : Value) : (a.put d u).put d v = a.put d v := by
  cases d with
  | none => rfl
  | some d => simp [Act.put]
theorem putAll_later : ∀ (l : List Oper) (i : Nat) (x : Nat → Value) (k : Nat) (v : Value) (a : Act), k < i → putAll l i (updV x k v) a = putAll l i x a
  | [], _, _, _, _, _, _ => rfl
  | o :: r, i, x, k, v, a, h => by
    show putAll r (i + 1) (updV x k v) (a.put o.dst (updV x k v i)) = putAll r (i + 1) x (a.put o.dst (x i))
    have e : updV x k v i = x i := by unfold updV; rw [if_neg (by omega)]
    rw [e, putAll_later r (i + 1) x k v _ (by omega)]
theorem putAll_put : ∀ (l : List Oper) (i : Nat) (x : Nat → Value) (a : Act) (d : Option Tmp) (v : Value), (∀ t, d = some t → l.all (fun p => p.dst != some t) = true) → putAll l i x (a.put d v) = (putAll l i x a).put d v
  | [], _, _, _, _, _, _ => rfl
  | o :: r, i, x, a, d, v, h => by
    show putAll r (i + 1) x ((a.put d v).put o.dst (x i)) = (putAll r (i + 1) x (a.put o.dst (x i))).put d v
    rw [Act.put_comm a v (x i) (fun t ht => by have := h t ht; simp at this; exact this.1)]
    exact putAll_put r (i + 1) x _ d v (fun t ht => by have := h t ht; simp at this ⊢; exact this.2)
theorem putAll_upd : ∀ (l : List Oper) (i : Nat) (x : Nat → Value) (a : Act) (k : Nat) (o : Oper) (v : Value), plainB l = true → l[k]? = some o → putAll l i (updV x (i + k) v) a = (putAll l i x a).put o.dst v
  | [], _, _, _, _, _, _, _, h => by simp at h
  | p :: r, i, x, a, 0, o, v, hp, h => by
    simp at h
    subst h
    show putAll r (i + 1) (updV x i v) (a.put p.dst (updV x i v i)) = (putAll r (i + 1) x (a.put p.dst (x i))).put p.dst v
    have e : updV x i v i = v := by unfold updV; rw [if_pos rfl]
    simp only [plainB, Bool.and_eq_true] at hp
    rw [e, putAll_later r (i + 1) x i v _ (by omega), ← putAll_put r (i + 1) x _ p.dst v (fun t ht => by have := hp.1.2; rw [ht] at this; exact this), put_put]
  | p :: r, i, x, a, k + 1, o, v, hp, h => by
    simp at h
    simp only [plainB, Bool.and_eq_true] at hp
    show putAll r (i + 1) (updV x (i + (k + 1)) v) (a.put p.dst (updV x (i + (k + 1)) v i)) = (putAll r (i + 1) x (a.put p.dst (x i))).put o.dst v
    have e : updV x (i + (k + 1)) v i = x i := by unfold updV; rw [if_neg (by omega)]
    rw [e, show i + (k + 1) = i + 1 + k by omega]
    exact putAll_upd r (i + 1) x _ k o v hp.2 h
theorem put_own (a : Act) (d : Option Tmp) : a.put d (match d with | some t => a.tmps.getD t undef | none => undef) = a := by
  cases d with
  | none => rfl
  | some t =>
    show { a with tmps := a.tmps.setIfInBounds t (a.tmps.getD t undef) } = a
    have : a.tmps.setIfInBounds t (a.tmps.getD t undef) = a.tmps := by
      by_cases h : t < a.tmps.size
      · refine Array.ext (by simp) fun i h1 h2 => ?_
        rw [Array.getElem_setIfInBounds (by simpa using h2)]
        split
        · rename_i e; subst e; simp
        · rfl
      · exact Array.setIfInBounds_eq_of_size_le (Nat.le_of_not_lt h)
    rw [this]
/-- nothing is done: the frame is as it was -/
theorem putAll_own : ∀ (l : List Oper) (i : Nat) (a : Act), ∃ x, putAll l i x a = a
  | [], _, _ => ⟨fun _ => undef, rfl⟩
  | o :: r, i, a => by
    obtain ⟨x, hx⟩ := putAll_own r (i + 1) a
    refine ⟨updV x i (match o.dst with | some t => a.tmps.getD t undef | none => undef), ?_⟩
    show putAll r (i + 1) _ (a.put o.dst (updV x i _ i)) = a
    have e : ∀ v, updV x i v i = v := fun v => by unfold updV; rw [if_pos rfl]
    rw [e, put_own, putAll_later r (i + 1) x i _ _ (by omega), hx]
theorem relAll_at {P : Program} {l : List Oper} {a : Act} {R : Nat → Value → Prop} {C : World → Prop} {Q : Exit → Act → World → Prop} : ∀ (r : List Oper) (i k : Nat) (o : Oper), relAll P l a R C Q i r → r[k]? = some o →
    ∀ (x : Nat → Value) (w : World), C w → (∀ j, depB o j = true → R j (x j)) → ∀ K : Act → World → Prop, (∀ v w', R (i + k) v → C w' → K ((putAll l 0 x a).put o.dst v) w') → o.wp P (putAll l 0 x a) w K Q
  | [], _, _, _, _, h => by simp at h
  | p :: r, i, 0, o, h, he => by
    simp at he
    subst he
    exact fun x w hC hR K hK => h.1 x w hC hR K hK
  | p :: r, i, k + 1, o, h, he => by
    simp at he
    have := relAll_at r (i + 1) k o h.2 he
    rw [show i + 1 + k = i + (k + 1) by omega] at this
    exact this
/-- what is known on the way -/
def Inv (l : List Oper) (a : Act) (R : Nat → Value → Prop) (C : World → Prop) (listed : Array Bool) (b : Act) (w : World) : Prop :=
  ∃ x, b = putAll l 0 x a ∧ C w ∧ ∀ i, listed.getD i false = true → R i (x i)
theorem wpAny_rel {P : Program} {l : List Oper} {a : Act} {R : Nat → Value → Prop} {C : World → Prop} {Q : Exit → Act → World → Prop} (hp : plainB l = true) (hb : backB .any l.toArray l.length = true)
    (H : relAll P l a R C Q 0 l) (fin : ∀ (x : Nat → Value) (w : World), C w → (∀ i, i < l.length → R i (x i)) → Q .normal (putAll l 0 x a) w) :
    ∀ (fuel : Nat) (listed : Array Bool) (b : Act) (w : World), listed.size = l.length → l.length ≤ fuel + (listed.toList.filter id).length → Inv l a R C listed b w → wpAny P .any l.toArray Q fuel listed b w := by
  have guard : ∀ {i : Nat} {o : Oper}, l[i]? = some o → o.guard = none := by
    intro i o h
    have aux : ∀ (r : List Oper) (i : Nat), plainB r = true → r[i]? = some o → o.guard = none := by
      intro r
      induction r with
      | nil => intro i _ h; simp at h
      | cons p r ih =>
        intro i hp h
        simp only [plainB, Bool.and_eq_true] at hp
        cases i with
        | zero => simp at h; subst h; simpa using hp.1.1
        | succ i => simp at h; exact ih i hp.2 h
    exact aux l i hp h
  have allr : ∀ {listed : Array Bool}, listed.size = l.length → Region.ready .any l.toArray listed = [] → ∀ i, i < l.length → listed.getD i false = true := by
    intro listed hs h0 i hi
    rcases some_ready (md := .any) (ops := l.toArray) (n := l.length) (by simp) hb (listed := listed) (by omega) with all | ⟨j, _, hj⟩
    · rw [getD_tf (d' := true) (by omega)]; exact all i hi
    · rw [h0] at hj; cases hj
  intro fuel
  induction fuel with
  | zero =>
    intro listed b w hs hc inv
    have full : ∀ i, i < l.length → listed.getD i true = true := by
      intro i hi
      have e : (listed.toList.filter id).length = listed.toList.length := by
        have := List.length_filter_le id listed.toList
        simp at hc this ⊢
        omega
      have e2 := List.length_filter_eq_length_iff.1 e
      have hm : listed.getD i true = listed[i]'(by omega) := by simp [show i < listed.size by omega]
      rw [hm]
      exact e2 _ (by simp)
    have h0 : Region.ready .any l.toArray listed = [] := by
      rw [List.eq_nil_iff_forall_not_mem]
      intro i hi
      obtain ⟨u, o, ho, _⟩ := mem_ready.1 hi
      have lt : i < l.length := by have := (Array.getElem?_eq_some_iff.1 ho).1; simpa using this
      rw [full i lt] at u
      cases u
    obtain ⟨x, rfl, hC, hR⟩ := inv
    exact ⟨h0, fin x w hC (fun i hi => hR i (by rw [getD_tf (d' := true) (by omega)]; exact full i hi))⟩
  | succ fuel ih =>
    intro listed b w hs hc inv
    obtain ⟨x, rfl, hC, hR⟩ := inv
    refine ⟨fun h0 => fin x w hC (fun i hi => hR i (allr hs h0 i hi)), fun i hi => ?_⟩
    obtain ⟨u, o, ho, hd⟩ := mem_ready.1 hi
    have lt : i < l.length := by have := (Array.getElem?_eq_some_iff.1 ho).1; simpa using this
    have ho' : l[i]? = some o := by simpa using ho
    have cnt : l.length ≤ fuel + ((listed.setIfInBounds i true).toList.filter id).length := by
      have hf : listed.toList[i]? = some false := by
        have : listed.getD i true = listed[i]'(by omega) := by simp [show i < listed.size by omega]
        rw [this] at u
        simp [show i < listed.size by omega, u]
      have aux : ∀ (t : List Bool) (i : Nat), t[i]? = some false → ((t.set i true).filter id).length = (t.filter id).length + 1 := by
        intro t
        induction t with
        | nil => intro i h; simp at h
        | cons b t ih =>
          intro i h
          cases i with
          | zero => simp at h; subst h; simp
          | succ i =>
            simp at h
            have := ih i h
            cases b <;> simp [this]
      have := aux listed.toList i hf
      simp only [Array.toList_setIfInBounds]
      rw [this]
      omega
    unfold wpOp
    rw [ho]
    have hg : o.guard = none := guard ho'
    have hw : Region.wanted o (yielded l.toArray (putAll l 0 x a).tmps) = true := by simp [Region.wanted, hg]
    simp only [hw, if_true]
    left
    have step := relAll_at l 0 i o H ho' x w hC (fun j hj => by
      unfold depB at hj
      rw [← Array.any_toList] at hj
      obtain ⟨e, he', h2⟩ := List.any_eq_true.1 hj
      have he : e ∈ o.after := Array.mem_toList_iff.1 he'
      simp at h2
      have := hd e he h2.2
      rw [h2.1] at this
      exact hR j this)
    rw [Nat.zero_add] at step
    refine step _ (fun v w' hv hC' => ih _ _ w' (by simpa using hs) cnt ⟨updV x i v, ?_, hC', fun j hj => ?_⟩)
    · have := putAll_upd l 0 x a i o v hp ho'
      rw [Nat.zero_add] at this
      exact this.symm
    · by_cases e : j = i
      · subst e; unfold updV; rw [if_pos rfl]; exact hv
      · have : listed.getD j false = true := by rw [getD_set_ne false (Ne.symm e)] at hj; exact hj
        unfold updV; rw [if_neg e]; exact hR j this
/-- a region that draws its order, by relations -/
theorem region_rel {P : Program} {id : Nat} {Q : Exit → Act → World → Prop} {a : Act} {w : World} {l : List Oper} (R : Nat → Value → Prop) (C : World → Prop) (hm : P.follows .mixedOrders = true) (hp : plainB l = true) (hb : backB .any l.toArray l.length = true) (hC : C w.drew)
    (H : relAll P l a R C Q 0 l) (fin : ∀ (x : Nat → Value) (w : World), C w → (∀ i, i < l.length → R i (x i)) → Q .normal (putAll l 0 x a) w) : (Code.region id l.toArray true).wp P Q a w := by
  refine wp_region_any hm ?_
  obtain ⟨x, hx⟩ := putAll_own l 0 a
  exact wpAny_rel hp hb H fin _ _ a w.drew (by simp) (by simp) ⟨x, hx.symm, hC, fun i hi => by rw [getD_replicate_false] at hi; cases hi⟩
end Rl
end Go.Proofs.YtpfoohpncbkkfaaDoor

namespace Go.Proofs.YtpfoohpncbkkfaaDoor
open Go.RowKit Tf Cu Go.Deep
attribute [local go_sem] run_bits run_from raw_feq raw_fne raw_flt raw_fgt run_neg run_store_float
namespace Fc
/-- whether a cell is dry and stands too high -/
def shB (w1 : Int) (b1 l2 : Nat) : Bool := !decide (0 < w1) && (flt l2 b1 || feq l2 b1)
set_option maxRecDepth 100000 in
set_option maxHeartbeats 8000000 in
theorem wet_at (b : Nat) (wt ar : Int) (w : World) : Calls Tryd.prog 54 #[.agg #[.float .f64 b, .int .i64 wt, .int .i64 ar]] w fun e w' => e = .returned (.bool (decide (0 < wt))) ∧ Below w.heap.size w w' := by
  have A0 : Hid (Ab w (w.alloc (.cells #[.float .f64 b, .int .i64 wt, .int .i64 ar] 71))) := bl1 _ _
  go_enter Tryd.func54, Tryd.ntmps54
  go_wp2
  go_ret
  exact ⟨rfl, A0.out⟩
set_option maxRecDepth 100000 in
set_option maxHeartbeats 8000000 in
theorem clevel_at (b : Nat) (wt ar : Int) (w : World) (hb : b < 18446744073709551616) (h1 : wt ≤ 9223372036854775807) (h2 : ar ≤ 9223372036854775807) : Calls Tryd.prog 59 #[.agg #[.float .f64 b, .int .i64 wt, .int .i64 ar]] w fun e w' => e = .returned (.float .f64 (lvl b wt ar)) ∧ Below w.heap.size w w' := by
  have L := hid (fun v => level_at b wt ar v hb h1 h2)
  have A0 : Hid (Ab w (w.alloc (.cells #[.float .f64 b, .int .i64 wt, .int .i64 ar] 71))) := bl1 _ _
  clear hb h1 h2
  generalize lvl b wt ar = y at *
  go_enter Tryd.func59, Tryd.ntmps59
  go_wp2_with fail
  refine (L.out _).mono ?_
  rintro e w' ⟨rfl, k, rfl⟩
  go_wp2
  go_ret
  exact ⟨rfl, Ab.drewN A0.out k⟩
set_option maxRecDepth 100000 in
set_option maxHeartbeats 8000000 in
theorem cdepth_at (b : Nat) (wt ar : Int) (w : World) (h1 : wt ≤ 9223372036854775807) (h2 : ar ≤ 9223372036854775807) : Calls Tryd.prog 60 #[.agg #[.float .f64 b, .int .i64 wt, .int .i64 ar]] w fun e w' => e = .returned (.float .f64 (dpB wt ar)) ∧ Below w.heap.size w w' := by
  have L := hid (fun v => depth_at wt ar v h1 h2)
  have A0 : Hid (Ab w (w.alloc (.cells #[.float .f64 b, .int .i64 wt, .int .i64 ar] 71))) := bl1 _ _
  clear h1 h2
  generalize dpB wt ar = y at *
  go_enter Tryd.func60, Tryd.ntmps60
  go_wp2_with fail
  refine (L.out _).mono ?_
  rintro e w' ⟨rfl, k, rfl⟩
  go_wp2
  go_ret
  exact ⟨rfl, Ab.drewN A0.out k⟩
set_option maxRecDepth 100000 in
set_option maxHeartbeats 8000000 in
theorem shut_go (b1 b2 : Nat) (w1 a1 w2 a2 : Int) (l : Nat) (d q : Bool) (w : World) (hq : (d = true ∧ q = false) ∨ (d = false ∧ (flt l b1 || feq l b1) = q))
    (WT : Hid (∀ v, Calls Tryd.prog 54 #[.agg #[.float .f64 b1, .int .i64 w1, .int .i64 a1]] v fun e w' => e = .returned (.bool d) ∧ Below v.heap.size v w'))
    (LV : Hid (∀ v, Calls Tryd.prog 59 #[.agg #[.float .f64 b2, .int .i64 w2, .int .i64 a2]] v fun e w' => e = .returned (.float .f64 l) ∧ Below v.heap.size v w')) :
    Calls Tryd.prog 55 #[.agg #[.float .f64 b1, .int .i64 w1, .int .i64 a1], .agg #[.float .f64 b2, .int .i64 w2, .int .i64 a2]] w fun e w' => e = .returned (.bool q) ∧ Below w.heap.size w w' := by
  have W_W0 : Hid (Ab w ((w.alloc (.cells #[.float .f64 b1, .int .i64 w1, .int .i64 a1] 71)).alloc (.cells #[.float .f64 b2, .int .i64 w2, .int .i64 a2] 71))) := bl2 _ _ _
  have R1 : Hid (((w.alloc (.cells #[.float .f64 b1, .int .i64 w1, .int .i64 a1] 71)).alloc (.cells #[.float .f64 b2, .int .i64 w2, .int .i64 a2] 71)).heap[w.heap.size]? = some (.cells #[.float .f64 b1, .int .i64 w1, .int .i64 a1] 71)) := heap_alloc2_old _ _ _
  have R2 : Hid (((w.alloc (.cells #[.float .f64 b1, .int .i64 w1, .int .i64 a1] 71)).alloc (.cells #[.float .f64 b2, .int .i64 w2, .int .i64 a2] 71)).heap[w.heap.size + 1]? = some (.cells #[.float .f64 b2, .int .i64 w2, .int .i64 a2] 71)) := heap_alloc2_new _ _ _
  go_enter Tryd.func55, Tryd.ntmps55
  go_upto_region 1 with fail
  generalize hW : World.alloc (World.alloc w _) _ = W0 at *
  obtain ⟨g1, hg1⟩ : ∃ g, w.heap.size = g := ⟨_, rfl⟩
  obtain ⟨g2, hg2⟩ : ∃ g, w.heap.size + 1 = g := ⟨_, rfl⟩
  rw [hg2] at R2 ⊢
  rw [hg1] at R1 ⊢
  clear hg1 hg2 hW
  rcases hq with ⟨rfl, rfl⟩ | ⟨rfl, hq⟩
  · obtain ⟨UU, E, hF1, hF2⟩ := cls W0
    have HU := hid hF2
    have HU1 := hid hF1
    have HX : Hid (∀ u, Ab w (E u)) := fun u => W_W0.out.trans (hF1 u)
    have x0 : ∀ u, (E u).cell? ⟨g1, 0, none⟩ = some (.float .f64 b1) := fun u => cell_of_row _ _ 0 _ _ _ ((hF1 u).heap R1.out)
    have x1 : ∀ u, (E u).cell? ⟨g1, 1, none⟩ = some (.int .i64 w1) := fun u => cell_of_row _ _ 1 _ _ _ ((hF1 u).heap R1.out)
    have x2 : ∀ u, (E u).cell? ⟨g1, 2, none⟩ = some (.int .i64 a1) := fun u => cell_of_row _ _ 2 _ _ _ ((hF1 u).heap R1.out)
    have y0 : ∀ u, (E u).cell? ⟨g2, 0, none⟩ = some (.float .f64 b2) := fun u => cell_of_row _ _ 0 _ _ _ ((hF1 u).heap R2.out)
    have y1 : ∀ u, (E u).cell? ⟨g2, 1, none⟩ = some (.int .i64 w2) := fun u => cell_of_row _ _ 1 _ _ _ ((hF1 u).heap R2.out)
    have y2 : ∀ u, (E u).cell? ⟨g2, 2, none⟩ = some (.int .i64 a2) := fun u => cell_of_row _ _ 2 _ _ _ ((hF1 u).heap R2.out)
    have DD0 := HU.out _ (Ab.refl W0).drew
    clear hF1 hF2
    refine region_cls E (by kernel_rfl) (by kernel_rfl) DD0 ?_
    repeat (go_big_quiet_step (first
      | (with_reducible rfl)
      | (go_at_call 54; exact calls_cls HU HU1 (WT.out _))
      | (go_at_call 59; exact calls_cls HU HU1 (LV.out _))))
    refine wpQuiet_nil ?_
    intro z hwz
    obtain ⟨u0, hu⟩ := hwz
    have AZ : Hid (Ab W0 z) := by rw [hu]; exact HU1.out u0
    clear hu u0
    clear HU HU1 DD0 HX x0 x1 x2 y0 y1 y2
    clear E UU
    have W_z : Hid (Ab w z) := W_W0.out.trans AZ.out
    go_wp2
    go_ret
    exact ⟨rfl, W_z.out⟩
  · obtain ⟨UU, E, hF1, hF2⟩ := cls W0
    have HU := hid hF2
    have HU1 := hid hF1
    have HX : Hid (∀ u, Ab w (E u)) := fun u => W_W0.out.trans (hF1 u)
    have x0 : ∀ u, (E u).cell? ⟨g1, 0, none⟩ = some (.float .f64 b1) := fun u => cell_of_row _ _ 0 _ _ _ ((hF1 u).heap R1.out)
    have x1 : ∀ u, (E u).cell? ⟨g1, 1, none⟩ = some (.int .i64 w1) := fun u => cell_of_row _ _ 1 _ _ _ ((hF1 u).heap R1.out)
    have x2 : ∀ u, (E u).cell? ⟨g1, 2, none⟩ = some (.int .i64 a1) := fun u => cell_of_row _ _ 2 _ _ _ ((hF1 u).heap R1.out)
    have y0 : ∀ u, (E u).cell? ⟨g2, 0, none⟩ = some (.float .f64 b2) := fun u => cell_of_row _ _ 0 _ _ _ ((hF1 u).heap R2.out)
    have y1 : ∀ u, (E u).cell? ⟨g2, 1, none⟩ = some (.int .i64 w2) := fun u => cell_of_row _ _ 1 _ _ _ ((hF1 u).heap R2.out)
    have y2 : ∀ u, (E u).cell? ⟨g2, 2, none⟩ = some (.int .i64 a2) := fun u => cell_of_row _ _ 2 _ _ _ ((hF1 u).heap R2.out)
    have DD0 := HU.out _ (Ab.refl W0).drew
    clear hF1 hF2
    refine region_cls E (by kernel_rfl) (by kernel_rfl) DD0 ?_
    repeat (go_big_quiet_step (first
      | (with_reducible rfl)
      | (go_at_call 54; exact calls_cls HU HU1 (WT.out _))
      | (go_at_call 59; exact calls_cls HU HU1 (LV.out _))))
    refine wpQuiet_nil ?_
    intro z hwz
    obtain ⟨u0, hu⟩ := hwz
    have AZ : Hid (Ab W0 z) := by rw [hu]; exact HU1.out u0
    clear hu u0
    clear HU HU1 DD0 HX x0 x1 x2 y0 y1 y2
    clear E UU
    have W_z : Hid (Ab w z) := W_W0.out.trans AZ.out
    go_wp2
    go_ret
    exact ⟨rfl, W_z.out⟩
theorem shut_at (b1 b2 : Nat) (w1 a1 w2 a2 : Int) (w : World) (h1 : b2 < 18446744073709551616) (h2 : w2 ≤ 9223372036854775807) (h3 : a2 ≤ 9223372036854775807) : Calls Tryd.prog 55 #[.agg #[.float .f64 b1, .int .i64 w1, .int .i64 a1], .agg #[.float .f64 b2, .int .i64 w2, .int .i64 a2]] w fun e w' => e = .returned (.bool (shB w1 b1 (lvl b2 w2 a2))) ∧ Below w.heap.size w w' := by
  refine shut_go b1 b2 w1 a1 w2 a2 (lvl b2 w2 a2) (decide (0 < w1)) _ w ?_ (fun v => wet_at b1 w1 a1 v) (fun v => clevel_at b2 w2 a2 v h1 h2 h3)
  unfold shB
  cases decide (0 < w1)
  · right; exact ⟨rfl, by simp⟩
  · left; exact ⟨rfl, by simp⟩
set_option maxRecDepth 100000 in
set_option maxHeartbeats 8000000 in
theorem eopen_go (bl br gap vu : Nat) (wl al wr ar : Int) (dl dr s1 s2 q : Bool) (w : World) (hq : (dl = false ∧ dr = false ∧ q = false) ∨ (dl = false ∧ dr = true ∧ s1 = true ∧ q = false) ∨ (dl = false ∧ dr = true ∧ s1 = false ∧ q = !s2) ∨ (dl = true ∧ s1 = true ∧ q = false) ∨ (dl = true ∧ s1 = false ∧ q = !s2))
    (WL : Hid (∀ v, Calls Tryd.prog 54 #[.agg #[.float .f64 bl, .int .i64 wl, .int .i64 al]] v fun e w' => e = .returned (.bool dl) ∧ Below v.heap.size v w'))
    (WR : Hid (∀ v, Calls Tryd.prog 54 #[.agg #[.float .f64 br, .int .i64 wr, .int .i64 ar]] v fun e w' => e = .returned (.bool dr) ∧ Below v.heap.size v w'))
    (SL : Hid (∀ v, Calls Tryd.prog 55 #[.agg #[.float .f64 bl, .int .i64 wl, .int .i64 al], .agg #[.float .f64 br, .int .i64 wr, .int .i64 ar]] v fun e w' => e = .returned (.bool s1) ∧ Below v.heap.size v w'))
    (SR : Hid (∀ v, Calls Tryd.prog 55 #[.agg #[.float .f64 br, .int .i64 wr, .int .i64 ar], .agg #[.float .f64 bl, .int .i64 wl, .int .i64 al]] v fun e w' => e = .returned (.bool s2) ∧ Below v.heap.size v w')) :
    Calls Tryd.prog 34 #[.agg #[.float .f64 bl, .int .i64 wl, .int .i64 al, .float .f64 br, .int .i64 wr, .int .i64 ar, .float .f64 gap, .float .f64 vu]] w fun e w' => e = .returned (.bool q) ∧ Below w.heap.size w w' := by
  have W_W0 : Hid (Ab w (w.alloc (.cells #[.float .f64 bl, .int .i64 wl, .int .i64 al, .float .f64 br, .int .i64 wr, .int .i64 ar, .float .f64 gap, .float .f64 vu] 73))) := bl1 _ _
  have R0 : Hid ((w.alloc (.cells #[.float .f64 bl, .int .i64 wl, .int .i64 al, .float .f64 br, .int .i64 wr, .int .i64 ar, .float .f64 gap, .float .f64 vu] 73)).heap[w.heap.size]? = some (.cells #[.float .f64 bl, .int .i64 wl, .int .i64 al, .float .f64 br, .int .i64 wr, .int .i64 ar, .float .f64 gap, .float .f64 vu] 73)) := heap_alloc_new _ _
  go_enter Tryd.func34, Tryd.ntmps34
  go_upto_region 1 with fail
  generalize hW : World.alloc w _ = W0 at *
  obtain ⟨g1, hg1⟩ : ∃ g, w.heap.size = g := ⟨_, rfl⟩
  rw [hg1] at R0 ⊢
  clear hg1 hW
  have R_W0 := R0
  clear R0
  rcases hq with ⟨rfl, rfl, rfl⟩ | ⟨rfl, rfl, rfl, rfl⟩ | ⟨rfl, rfl, rfl, rfl⟩ | ⟨rfl, rfl, rfl⟩ | ⟨rfl, rfl, rfl⟩
  · have c0 := cell_of_row _ _ 0 _ _ _ R_W0.out
    have c1 := cell_of_row _ _ 1 _ _ _ R_W0.out
    have c2 := cell_of_row _ _ 2 _ _ _ R_W0.out
    have c3 := cell_of_row _ _ 3 _ _ _ R_W0.out
    have c4 := cell_of_row _ _ 4 _ _ _ R_W0.out
    have c5 := cell_of_row _ _ 5 _ _ _ R_W0.out
    go_wp2_with fail
    refine (WL.out _).mono ?_
    rintro e9 v0 ⟨rfl, k1⟩
    have W_v0 : Hid (Ab w v0) := W_W0.out.call k1
    have R_v0 := hid (Ab.heap k1 R_W0.out)
    clear k1 c0 c1 c2 c3 c4 c5 W_W0 R_W0
    have c0 := cell_of_row _ _ 0 _ _ _ R_v0.out
    have c1 := cell_of_row _ _ 1 _ _ _ R_v0.out
    have c2 := cell_of_row _ _ 2 _ _ _ R_v0.out
    have c3 := cell_of_row _ _ 3 _ _ _ R_v0.out
    have c4 := cell_of_row _ _ 4 _ _ _ R_v0.out
    have c5 := cell_of_row _ _ 5 _ _ _ R_v0.out
    go_wp2_with fail
    refine (WR.out _).mono ?_
    rintro e9 v1 ⟨rfl, k1⟩
    have W_v1 : Hid (Ab w v1) := W_v0.out.call k1
    have R_v1 := hid (Ab.heap k1 R_v0.out)
    clear k1 c0 c1 c2 c3 c4 c5 W_v0 R_v0
    go_wp2
    go_ret
    exact ⟨rfl, W_v1.out⟩
  · have c0 := cell_of_row _ _ 0 _ _ _ R_W0.out
    have c1 := cell_of_row _ _ 1 _ _ _ R_W0.out
    have c2 := cell_of_row _ _ 2 _ _ _ R_W0.out
    have c3 := cell_of_row _ _ 3 _ _ _ R_W0.out
    have c4 := cell_of_row _ _ 4 _ _ _ R_W0.out
    have c5 := cell_of_row _ _ 5 _ _ _ R_W0.out
    go_wp2_with fail
    refine (WL.out _).mono ?_
    rintro e9 v0 ⟨rfl, k1⟩
    have W_v0 : Hid (Ab w v0) := W_W0.out.call k1
    have R_v0 := hid (Ab.heap k1 R_W0.out)
    clear k1 c0 c1 c2 c3 c4 c5 W_W0 R_W0
    have c0 := cell_of_row _ _ 0 _ _ _ R_v0.out
    have c1 := cell_of_row _ _ 1 _ _ _ R_v0.out
    have c2 := cell_of_row _ _ 2 _ _ _ R_v0.out
    have c3 := cell_of_row _ _ 3 _ _ _ R_v0.out
    have c4 := cell_of_row _ _ 4 _ _ _ R_v0.out
    have c5 := cell_of_row _ _ 5 _ _ _ R_v0.out
    go_wp2_with fail
    refine (WR.out _).mono ?_
    rintro e9 v1 ⟨rfl, k1⟩
    have W_v1 : Hid (Ab w v1) := W_v0.out.call k1
    have R_v1 := hid (Ab.heap k1 R_v0.out)
    clear k1 c0 c1 c2 c3 c4 c5 W_v0 R_v0
    have c0 := cell_of_row _ _ 0 _ _ _ R_v1.out
    have c1 := cell_of_row _ _ 1 _ _ _ R_v1.out
    have c2 := cell_of_row _ _ 2 _ _ _ R_v1.out
    have c3 := cell_of_row _ _ 3 _ _ _ R_v1.out
    have c4 := cell_of_row _ _ 4 _ _ _ R_v1.out
    have c5 := cell_of_row _ _ 5 _ _ _ R_v1.out
    go_wp2_with fail
    refine (SL.out _).mono ?_
    rintro e9 v2 ⟨rfl, k1⟩
    have W_v2 : Hid (Ab w v2) := W_v1.out.call k1
    have R_v2 := hid (Ab.heap k1 R_v1.out)
    clear k1 c0 c1 c2 c3 c4 c5 W_v1 R_v1
    go_wp2
    go_ret
    exact ⟨rfl, W_v2.out⟩
  · have c0 := cell_of_row _ _ 0 _ _ _ R_W0.out
    have c1 := cell_of_row _ _ 1 _ _ _ R_W0.out
    have c2 := cell_of_row _ _ 2 _ _ _ R_W0.out
    have c3 := cell_of_row _ _ 3 _ _ _ R_W0.out
    have c4 := cell_of_row _ _ 4 _ _ _ R_W0.out
    have c5 := cell_of_row _ _ 5 _ _ _ R_W0.out
    go_wp2_with fail
    refine (WL.out _).mono ?_
    rintro e9 v0 ⟨rfl, k1⟩
    have W_v0 : Hid (Ab w v0) := W_W0.out.call k1
    have R_v0 := hid (Ab.heap k1 R_W0.out)
    clear k1 c0 c1 c2 c3 c4 c5 W_W0 R_W0
    have c0 := cell_of_row _ _ 0 _ _ _ R_v0.out
    have c1 := cell_of_row _ _ 1 _ _ _ R_v0.out
    have c2 := cell_of_row _ _ 2 _ _ _ R_v0.out
    have c3 := cell_of_row _ _ 3 _ _ _ R_v0.out
    have c4 := cell_of_row _ _ 4 _ _ _ R_v0.out
    have c5 := cell_of_row _ _ 5 _ _ _ R_v0.out
    go_wp2_with fail
    refine (WR.out _).mono ?_
    rintro e9 v1 ⟨rfl, k1⟩
    have W_v1 : Hid (Ab w v1) := W_v0.out.call k1
    have R_v1 := hid (Ab.heap k1 R_v0.out)
    clear k1 c0 c1 c2 c3 c4 c5 W_v0 R_v0
    have c0 := cell_of_row _ _ 0 _ _ _ R_v1.out
    have c1 := cell_of_row _ _ 1 _ _ _ R_v1.out
    have c2 := cell_of_row _ _ 2 _ _ _ R_v1.out
    have c3 := cell_of_row _ _ 3 _ _ _ R_v1.out
    have c4 := cell_of_row _ _ 4 _ _ _ R_v1.out
    have c5 := cell_of_row _ _ 5 _ _ _ R_v1.out
    go_wp2_with fail
    refine (SL.out _).mono ?_
    rintro e9 v2 ⟨rfl, k1⟩
    have W_v2 : Hid (Ab w v2) := W_v1.out.call k1
    have R_v2 := hid (Ab.heap k1 R_v1.out)
    clear k1 c0 c1 c2 c3 c4 c5 W_v1 R_v1
    have c0 := cell_of_row _ _ 0 _ _ _ R_v2.out
    have c1 := cell_of_row _ _ 1 _ _ _ R_v2.out
    have c2 := cell_of_row _ _ 2 _ _ _ R_v2.out
    have c3 := cell_of_row _ _ 3 _ _ _ R_v2.out
    have c4 := cell_of_row _ _ 4 _ _ _ R_v2.out
    have c5 := cell_of_row _ _ 5 _ _ _ R_v2.out
    go_wp2_with fail
    refine (SR.out _).mono ?_
    rintro e9 v3 ⟨rfl, k1⟩
    have W_v3 : Hid (Ab w v3) := W_v2.out.call k1
    have R_v3 := hid (Ab.heap k1 R_v2.out)
    clear k1 c0 c1 c2 c3 c4 c5 W_v2 R_v2
    go_wp2
    go_ret
    exact ⟨rfl, W_v3.out⟩
  · have c0 := cell_of_row _ _ 0 _ _ _ R_W0.out
    have c1 := cell_of_row _ _ 1 _ _ _ R_W0.out
    have c2 := cell_of_row _ _ 2 _ _ _ R_W0.out
    have c3 := cell_of_row _ _ 3 _ _ _ R_W0.out
    have c4 := cell_of_row _ _ 4 _ _ _ R_W0.out
    have c5 := cell_of_row _ _ 5 _ _ _ R_W0.out
    go_wp2_with fail
    refine (WL.out _).mono ?_
    rintro e9 v0 ⟨rfl, k1⟩
    have W_v0 : Hid (Ab w v0) := W_W0.out.call k1
    have R_v0 := hid (Ab.heap k1 R_W0.out)
    clear k1 c0 c1 c2 c3 c4 c5 W_W0 R_W0
    have c0 := cell_of_row _ _ 0 _ _ _ R_v0.out
    have c1 := cell_of_row _ _ 1 _ _ _ R_v0.out
    have c2 := cell_of_row _ _ 2 _ _ _ R_v0.out
    have c3 := cell_of_row _ _ 3 _ _ _ R_v0.out
    have c4 := cell_of_row _ _ 4 _ _ _ R_v0.out
    have c5 := cell_of_row _ _ 5 _ _ _ R_v0.out
    go_wp2_with fail
    refine (SL.out _).mono ?_
    rintro e9 v1 ⟨rfl, k1⟩
    have W_v1 : Hid (Ab w v1) := W_v0.out.call k1
    have R_v1 := hid (Ab.heap k1 R_v0.out)
    clear k1 c0 c1 c2 c3 c4 c5 W_v0 R_v0
    go_wp2
    go_ret
    exact ⟨rfl, W_v1.out⟩
  · have c0 := cell_of_row _ _ 0 _ _ _ R_W0.out
    have c1 := cell_of_row _ _ 1 _ _ _ R_W0.out
    have c2 := cell_of_row _ _ 2 _ _ _ R_W0.out
    have c3 := cell_of_row _ _ 3 _ _ _ R_W0.out
    have c4 := cell_of_row _ _ 4 _ _ _ R_W0.out
    have c5 := cell_of_row _ _ 5 _ _ _ R_W0.out
    go_wp2_with fail
    refine (WL.out _).mono ?_
    rintro e9 v0 ⟨rfl, k1⟩
    have W_v0 : Hid (Ab w v0) := W_W0.out.call k1
    have R_v0 := hid (Ab.heap k1 R_W0.out)
    clear k1 c0 c1 c2 c3 c4 c5 W_W0 R_W0
    have c0 := cell_of_row _ _ 0 _ _ _ R_v0.out
    have c1 := cell_of_row _ _ 1 _ _ _ R_v0.out
    have c2 := cell_of_row _ _ 2 _ _ _ R_v0.out
    have c3 := cell_of_row _ _ 3 _ _ _ R_v0.out
    have c4 := cell_of_row _ _ 4 _ _ _ R_v0.out
    have c5 := cell_of_row _ _ 5 _ _ _ R_v0.out
    go_wp2_with fail
    refine (SL.out _).mono ?_
    rintro e9 v1 ⟨rfl, k1⟩
    have W_v1 : Hid (Ab w v1) := W_v0.out.call k1
    have R_v1 := hid (Ab.heap k1 R_v0.out)
    clear k1 c0 c1 c2 c3 c4 c5 W_v0 R_v0
    have c0 := cell_of_row _ _ 0 _ _ _ R_v1.out
    have c1 := cell_of_row _ _ 1 _ _ _ R_v1.out
    have c2 := cell_of_row _ _ 2 _ _ _ R_v1.out
    have c3 := cell_of_row _ _ 3 _ _ _ R_v1.out
    have c4 := cell_of_row _ _ 4 _ _ _ R_v1.out
    have c5 := cell_of_row _ _ 5 _ _ _ R_v1.out
    go_wp2_with fail
    refine (SR.out _).mono ?_
    rintro e9 v2 ⟨rfl, k1⟩
    have W_v2 : Hid (Ab w v2) := W_v1.out.call k1
    have R_v2 := hid (Ab.heap k1 R_v1.out)
    clear k1 c0 c1 c2 c3 c4 c5 W_v1 R_v1
    go_wp2
    go_ret
    exact ⟨rfl, W_v2.out⟩
theorem eopen_at (bl br gap vu : Nat) (wl al wr ar : Int) (w : World) (h1 : bl < 18446744073709551616) (h2 : br < 18446744073709551616) (h3 : wl ≤ 9223372036854775807) (h4 : wr ≤ 9223372036854775807) (h5 : al ≤ 9223372036854775807) (h6 : ar ≤ 9223372036854775807) :
    Calls Tryd.prog 34 #[.agg #[.float .f64 bl, .int .i64 wl, .int .i64 al, .float .f64 br, .int .i64 wr, .int .i64 ar, .float .f64 gap, .float .f64 vu]] w fun e w' => e = .returned (.bool (opB wl wr (lvl bl wl al) (lvl br wr ar) bl br)) ∧ Below w.heap.size w w' := by
  refine eopen_go bl br gap vu wl al wr ar (decide (0 < wl)) (decide (0 < wr)) (shB wl bl (lvl br wr ar)) (shB wr br (lvl bl wl al)) _ w ?_ (fun v => wet_at bl wl al v) (fun v => wet_at br wr ar v) (fun v => shut_at bl br wl al wr ar v h2 h4 h6) (fun v => shut_at br bl wr ar wl al v h1 h3 h5)
  unfold opB shB
  generalize (flt (lvl br wr ar) bl || feq (lvl br wr ar) bl) = p
  generalize (flt (lvl bl wl al) br || feq (lvl bl wl al) br) = q
  cases decide (0 < wl) <;> cases decide (0 < wr) <;> cases p <;> cases q <;> decide
end Fc
end Go.Proofs.YtpfoohpncbkkfaaDoor

namespace Go.Proofs.YtpfoohpncbkkfaaDoor
open Go.RowKit Tf
theorem mlB_qq (a b : Nat) : mlB (qB a) (qB b) = mlB a b := by unfold mlB; rw [mul_ql, mul_qr]
end Go.Proofs.YtpfoohpncbkkfaaDoor
