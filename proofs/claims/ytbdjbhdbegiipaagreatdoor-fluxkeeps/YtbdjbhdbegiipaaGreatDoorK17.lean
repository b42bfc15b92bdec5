/-
  Some of the texts of this proof, one behind the other.
-/
import Derived.Test.YtbdjbhdbegiipaaGreatDoorTie
import Derived.Test.YtbdjbhdbegiipaaGreatDoorCards
import Derived.ProofKit
import Derived.LaidMore
import Derived.OpenShut
import Derived.Stop.Joined
import Derived.Carry
import Derived.Lib.SmallJoins
import Derived.WalkLawsBesides
import Derived.Test.YtbdjbhdbegiipaaGreatDoorK16
namespace Go.Proofs.YtbdjbhdbegiipaaGreatDoor
open Go.RowKit Tf Cu
set_option maxRecDepth 100000 in
theorem dp12_go {n gb : Nat} (k : Int) (bb bo wb wo cb cw : Nat) (pt ps : Option Addr) (lt ct ls cs : Nat) (sky st : Int) {B : Nat → Nat} {Wt : Nat → Int} {U D K : Nat} (e : Int) (u : Nat) (w : World) (hn : 1 ≤ n ∧ n ≤ 32) (cU : U < 6 * n * n) (cD : D < 6 * n * n) (cK : K < 6 * n * n) (g : GridOf n gb w)
    (hB : IsFl w (some ⟨bb, bo, none⟩) (6 * n * n) B) (hW : IsIn w (some ⟨wb, wo, none⟩) (6 * n * n) Wt)
    (CF : Hid (∀ v, Ab w v → Calls Tryz.prog 36 #[.pointer (some ⟨gb, 0, none⟩), .agg #[.slice (some ⟨bb, bo, none⟩) (6 * n * n) cb, .slice (some ⟨wb, wo, none⟩) (6 * n * n) cw, .slice pt lt ct, .slice ps ls cs, .int .i64 sky, .int .i64 st]] v fun e w' => e = .returned (.bool true) ∧ Below v.heap.size v w'))
    (CW : Hid (∀ v, Ab w v → Calls Tryz.prog 37 #[.pointer (some ⟨gb, 0, none⟩), .int .i64 e, .float .f64 u] v fun e w' => e = .returned (.tuple #[.agg #[.int .i64 (U : Nat), .int .i64 (D : Nat), .int .i64 (K : Nat)], .bool true]) ∧ Below v.heap.size v w')) :
    Calls Tryz.prog 24 #[.pointer (some ⟨gb, 0, none⟩), .int .i64 k, .agg #[.slice (some ⟨bb, bo, none⟩) (6 * n * n) cb, .slice (some ⟨wb, wo, none⟩) (6 * n * n) cw, .slice pt lt ct, .slice ps ls cs, .int .i64 sky, .int .i64 st], .int .i64 e, .float .f64 u] w fun e w' => e = .returned (.float .f64 (ovC k (arC n) B Wt U D K)) ∧ Below w.heap.size w w' := by
  have bU := hB.at0 cU
  have bD := hB.at0 cD
  have wU := hW.at0 cU
  have wD := hW.at0 cD
  have wK := hW.at0 cK
  unfold ovC rcR
  have FW : ∀ v, Ab w v → v.cell? ⟨wb, wo + U, none⟩ = some (.int .i64 (Wt U)) ∧ v.cell? ⟨bb, bo + U, none⟩ = some (.float .f64 (B U)) ∧ v.cell? ⟨bb, bo + D, none⟩ = some (.float .f64 (B D)) := fun v hv =>
    ⟨(Below.cell hv wU.2.1).trans wU.2.2, (Below.cell hv bU.2.1).trans bU.2.2, (Below.cell hv bD.2.1).trans bD.2.2⟩
  have DU : ∀ v, Ab w v → Calls Tryz.prog 66 #[.pointer (some ⟨gb, 0, none⟩), .agg #[.slice (some ⟨bb, bo, none⟩) (6 * n * n) cb, .slice (some ⟨wb, wo, none⟩) (6 * n * n) cw, .slice pt lt ct, .slice ps ls cs, .int .i64 sky, .int .i64 st], .int .i64 (U : Nat)] v fun e w' => e = .returned (.float .f64 (dpB (Wt U) (arC n U))) ∧ Below v.heap.size v w' := (fun v hv => dof12_at (.pointer (some ⟨gb, 0, none⟩)) bb bo wb wo (6 * n * n) cb cw pt ps lt ct ls cs sky st U (Wt U) (arC n U) _ v (by omega) (fun z hz => (Below.cell (hv.trans hz) wU.2.1).trans wU.2.2) (fun z hz => gArea_ok hn cU (g.to (hv.trans hz))) (fun z => (depth_at _ _ z wU.1 (arC_in n _).2).mono fun _ _ h => ⟨h.1, by obtain ⟨_, j, rfl⟩ := h; exact below_drewN (Below.refl _ _) j⟩))
  have DK : ∀ v, Ab w v → Calls Tryz.prog 66 #[.pointer (some ⟨gb, 0, none⟩), .agg #[.slice (some ⟨bb, bo, none⟩) (6 * n * n) cb, .slice (some ⟨wb, wo, none⟩) (6 * n * n) cw, .slice pt lt ct, .slice ps ls cs, .int .i64 sky, .int .i64 st], .int .i64 (K : Nat)] v fun e w' => e = .returned (.float .f64 (dpB (Wt K) (arC n K))) ∧ Below v.heap.size v w' := (fun v hv => dof12_at (.pointer (some ⟨gb, 0, none⟩)) bb bo wb wo (6 * n * n) cb cw pt ps lt ct ls cs sky st K (Wt K) (arC n K) _ v (by omega) (fun z hz => (Below.cell (hv.trans hz) wK.2.1).trans wK.2.2) (fun z hz => gArea_ok hn cK (g.to (hv.trans hz))) (fun z => (depth_at _ _ z wK.1 (arC_in n _).2).mono fun _ _ h => ⟨h.1, by obtain ⟨_, j, rfl⟩ := h; exact below_drewN (Below.refl _ _) j⟩))
  have DD : ∀ v, Ab w v → Calls Tryz.prog 66 #[.pointer (some ⟨gb, 0, none⟩), .agg #[.slice (some ⟨bb, bo, none⟩) (6 * n * n) cb, .slice (some ⟨wb, wo, none⟩) (6 * n * n) cw, .slice pt lt ct, .slice ps ls cs, .int .i64 sky, .int .i64 st], .int .i64 (D : Nat)] v fun e w' => e = .returned (.float .f64 (dpB (Wt D) (arC n D))) ∧ Below v.heap.size v w' := (fun v hv => dof12_at (.pointer (some ⟨gb, 0, none⟩)) bb bo wb wo (6 * n * n) cb cw pt ps lt ct ls cs sky st D (Wt D) (arC n D) _ v (by omega) (fun z hz => (Below.cell (hv.trans hz) wD.2.1).trans wD.2.2) (fun z hz => gArea_ok hn cD (g.to (hv.trans hz))) (fun z => (depth_at _ _ z wD.1 (arC_in n _).2).mono fun _ _ h => ⟨h.1, by obtain ⟨_, j, rfl⟩ := h; exact below_drewN (Below.refl _ _) j⟩))
  have fU : dpB (Wt U) (arC n U) < 9218868437227405312 := by have := dp_le wU.1 (arC_in n U).2; omega
  have fK : dpB (Wt K) (arC n K) < 9218868437227405312 := by have := dp_le wK.1 (arC_in n K).2; omega
  have fD : dpB (Wt D) (arC n D) < 9218868437227405312 := by have := dp_le wD.1 (arC_in n D).2; omega
  have hx := minus_some fU fK
  have hy := minus_some fD fU
  have lx := (sub_isC (by omega) hx (by omega)).1
  have ly := (sub_isC (by omega) hy (by omega)).1
  have sN := slp_N k (sbB (dpB (Wt U) (arC n U)) (dpB (Wt K) (arC n K))) (sbB (dpB (Wt D) (arC n D)) (dpB (Wt U) (arC n U)))
  have sl := slp_lt k (sbB (dpB (Wt U) (arC n U)) (dpB (Wt K) (arC n K))) (sbB (dpB (Wt D) (arC n D)) (dpB (Wt U) (arC n U)))
  have hm := half_some sl sN
  have hf := half_N sl sN
  have hv0 := plus_some fU hf.2 hf.1
  have vl := rcV_lt (k := k) (hb := dpB (Wt K) (arC n K)) (hd := dpB (Wt D) (arC n D)) fU
  have ll := lvl_lt (b := B U) (w := Wt U) (a := arC n U) bU.1 wU.1 (arC_in n _).2
  have ml := maxB_lt (a := B U) (b := B D) bU.1 bD.1
  cases hs : Ieee.double.sub (lvl (B U) (Wt U) (arC n U)) (maxB (B U) (B D)) with
  | some z =>
    have hc := sub_isC ml hs ll
    rw [show rcG (lvl (B U) (Wt U) (arC n U)) (B U) (B D) = sbB (lvl (B U) (Wt U) (arC n U)) (maxB (B U) (B D)) from rfl, ← pos0_c vl hc]
    exact dp12_some (.pointer (some ⟨gb, 0, none⟩)) bb bo wb wo (6 * n * n) cb cw pt ps lt ct ls cs sky st k e u w U D K _ _ _ CF CW
      (fun v hv => fwd12_at (.pointer (some ⟨gb, 0, none⟩)) bb bo wb wo (6 * n * n) cb cw pt ps lt ct ls cs sky st k U D K _ _ _ _ _ _ _ _ v (fun z hz => DU z (hv.trans hz)) (fun z hz => DK z (hv.trans hz)) (fun z hz => DD z (hv.trans hz)) (fun z => slope_at k _ _ z lx ly) (fun t w => run_float_arith w .sub t .f64 _ _ _ hx) (fun t w => run_float_arith w .sub t .f64 _ _ _ hy) (fun t w => run_float_arith w .mul t .f64 _ _ _ hm) (fun t w => run_float_arith w .add t .f64 _ _ _ hv0)) z
      (fun v hv => gate12_some_at (.pointer (some ⟨gb, 0, none⟩)) bb bo wb wo (6 * n * n) cb cw pt ps lt ct ls cs sky st U D K (Wt U) (arC n U) (B U) (B D) _ _ v (by omega) (by omega) (fun z hz => FW z (hv.trans hz)) (fun z hz => gArea_ok hn cU (g.to (hv.trans hz))) (fun z => (level_at _ _ _ z bU.1 wU.1 (arC_in n _).2).mono fun _ _ h => ⟨h.1, by obtain ⟨_, j, rfl⟩ := h; exact below_drewN (Below.refl _ _) j⟩) (fun z => (max_any _ _ z bU.1 bD.1).mono fun _ _ h => ⟨h.1, by obtain ⟨_, rfl⟩ := h; exact Below.refl _ _⟩) z (fun t w => run_float_arith w .sub t .f64 _ _ _ hs)) (fun v => (min_any _ _ v vl hc.1).mono fun _ _ h => ⟨h.1, by obtain ⟨_, rfl⟩ := h; exact Below.refl _ _⟩) rfl
  | none =>
    have hN : isN (rcG (lvl (B U) (Wt U) (arC n U)) (B U) (B D)) = true := by
      unfold rcG sbB
      rw [addB_none (by rw [← sub_add _ _ ml]; exact hs)]
      decide
    rw [minB_nan (.inr hN)]
    exact dp12_none (.pointer (some ⟨gb, 0, none⟩)) bb bo wb wo (6 * n * n) cb cw pt ps lt ct ls cs sky st k e u w U D K _ _ _ CF CW
      (fun v hv => fwd12_at (.pointer (some ⟨gb, 0, none⟩)) bb bo wb wo (6 * n * n) cb cw pt ps lt ct ls cs sky st k U D K _ _ _ _ _ _ _ _ v (fun z hz => DU z (hv.trans hz)) (fun z hz => DK z (hv.trans hz)) (fun z hz => DD z (hv.trans hz)) (fun z => slope_at k _ _ z lx ly) (fun t w => run_float_arith w .sub t .f64 _ _ _ hx) (fun t w => run_float_arith w .sub t .f64 _ _ _ hy) (fun t w => run_float_arith w .mul t .f64 _ _ _ hm) (fun t w => run_float_arith w .add t .f64 _ _ _ hv0))
      (fun v hv => gate12_none_at (.pointer (some ⟨gb, 0, none⟩)) bb bo wb wo (6 * n * n) cb cw pt ps lt ct ls cs sky st U D K (Wt U) (arC n U) (B U) (B D) _ _ v (by omega) (by omega) (fun z hz => FW z (hv.trans hz)) (fun z hz => gArea_ok hn cU (g.to (hv.trans hz))) (fun z => (level_at _ _ _ z bU.1 wU.1 (arC_in n _).2).mono fun _ _ h => ⟨h.1, by obtain ⟨_, j, rfl⟩ := h; exact below_drewN (Below.refl _ _) j⟩) (fun z => (max_any _ _ z bU.1 bD.1).mono fun _ _ h => ⟨h.1, by obtain ⟨_, rfl⟩ := h; exact Below.refl _ _⟩) (fun t w => run_nan_sub w t _ _ hs)) (fun z hz1 hz2 v => by
        have h := min_any (rcV k (dpB (Wt U) (arC n U)) (dpB (Wt K) (arC n K)) (dpB (Wt D) (arC n D))) z v vl hz1
        rw [minB_nan (.inr hz2)] at h
        exact (h).mono fun _ _ h => ⟨h.1, by obtain ⟨_, rfl⟩ := h; exact Below.refl _ _⟩) rfl
theorem depthC : DepthC := by
  intro n gb k pb lb cb B pw lw cw Wt pt lt ct ps ls cs sky st e u w hn g hB hW hu
  have CC : Hid (∀ v, Ab w v → Calls Tryz.prog 27 #[.pointer (some ⟨gb, 0, none⟩)] v fun e w' => e = .returned (.int .i64 (6 * n * n : Nat)) ∧ Below v.heap.size v w') := fun v hv => (gCells_at (g.to hv)).mono fun _ _ h => ⟨h.1, by obtain ⟨_, rfl⟩ := h; exact Below.refl _ _⟩
  by_cases c : lb = 6 * n * n ∧ lw = 6 * n * n
  · obtain ⟨rfl, rfl⟩ := c
    have CF : Hid (∀ v, Ab w v → Calls Tryz.prog 36 #[.pointer (some ⟨gb, 0, none⟩), .agg #[.slice pb (6 * n * n) cb, .slice pw (6 * n * n) cw, .slice pt lt ct, .slice ps ls cs, .int .i64 sky, .int .i64 st]] v fun e w' => e = .returned (.bool true) ∧ Below v.heap.size v w') := fun v hv => fit12_at (.pointer (some ⟨gb, 0, none⟩)) pb pw pt ps _ cb _ cw lt ct ls cs sky st (6 * n * n) true v (.inr ⟨by simp, by simp⟩) (fun z hz => CC.out z (hv.trans hz))
    cases h : inR e (12 * n * n : Nat) with
    | false =>
      rw [rdAll_no (fun q => by rw [h] at q; exact absurd q.1 (by decide))]
      exact dp12_noway (.pointer (some ⟨gb, 0, none⟩)) pb pw pt ps _ cb _ cw lt ct ls cs sky st k e u w CF (fun v hv => wo12_no (.pointer (some ⟨gb, 0, none⟩)) e u v (fun z hz => gEdge_no h (g.to (hv.trans hz))))
    | true =>
      obtain ⟨E, rfl, hE⟩ := inR_nat h
      obtain ⟨t1, t2, t3⟩ := edT_spec hn.1 hE
      rw [← t3]
      have mtd := mt_dec hn.1 t1
      have cL := t_cell t1
      have cR : bsC n (edT n E / 4) (edT n E % 4) < 6 * n * n := by rw [← mtd.1]; exact t_cell (mt_lt hn.1 t1)
      have cp : bsC n (edT n E / 4) ((edT n E % 4 + 2) % 4) < 6 * n * n := bk_lt hn.1 t1
      have cq : bsC n (bsC n (edT n E / 4) (edT n E % 4)) ((bsS n (edT n E / 4) (edT n E % 4) + 2) % 4) < 6 * n * n := by
        have := bk_lt hn.1 (mt_lt hn.1 t1)
        unfold bkC at this
        rwa [mtd.1, mtd.2] at this
      obtain ⟨bb, bo, rfl⟩ := hB.some0 (six_pos hn.1)
      obtain ⟨wb, wo, rfl⟩ := hW.some0 (six_pos hn.1)
      rw [rdAll_eN hn.1 t1 t2]
      cases p : fgt u 0 with
      | true =>
        have e : sdD n k (arC n) B Wt (edT n E) = ovC k (arC n) B Wt (edT n E / 4) (bsC n (edT n E / 4) (edT n E % 4)) (bsC n (edT n E / 4) ((edT n E % 4 + 2) % 4)) := by
          unfold sdD
          rw [mtd.1]; rfl
        rw [rdT_p p, e]
        exact dp12_go k bb bo wb wo cb cw pt ps lt ct ls cs sky st _ u w hn cL cR cp g hB hW CF (fun v hv => wo12_pos (.pointer (some ⟨gb, 0, none⟩)) _ u _ _ _ _ _ _ v p (fun z hz => gEdge_ok hn t1 t2 (g.to (hv.trans hz))) (fun z hz => gBehind_ok hn t1 t2 (g.to (hv.trans hz))))
      | false =>
        cases q : flt u 0 with
        | true =>
          have e : sdD n k (arC n) B Wt (mt n (edT n E)) = ovC k (arC n) B Wt (bsC n (edT n E / 4) (edT n E % 4)) (edT n E / 4) (bsC n (bsC n (edT n E / 4) (edT n E % 4)) ((bsS n (edT n E / 4) (edT n E % 4) + 2) % 4)) := by
            unfold sdD
            rw [mt_mt hn.1 t1, mtd.1]; unfold bkC; rw [mtd.1, mtd.2]
          rw [rdT_n p q, e]
          exact dp12_go k bb bo wb wo cb cw pt ps lt ct ls cs sky st _ u w hn cR cL cq g hB hW CF (fun v hv => wo12_neg (.pointer (some ⟨gb, 0, none⟩)) _ u _ _ _ _ _ _ v p q (fun z hz => gEdge_ok hn t1 t2 (g.to (hv.trans hz))) (fun z hz => gBehind_ok hn t1 t2 (g.to (hv.trans hz))))
        | false =>
          rw [rdT_0 p q]
          exact dp12_noway (.pointer (some ⟨gb, 0, none⟩)) (some ⟨bb, bo, none⟩) (some ⟨wb, wo, none⟩) pt ps _ cb _ cw lt ct ls cs sky st k _ u w CF (fun v hv => wo12_still (.pointer (some ⟨gb, 0, none⟩)) _ u _ _ _ _ _ _ v p q (fun z hz => gEdge_ok hn t1 t2 (g.to (hv.trans hz))) (fun z hz => gBehind_ok hn t1 t2 (g.to (hv.trans hz))))
  · rw [rdAll_no (fun q => c q.2)]
    refine dp12_nofit (.pointer (some ⟨gb, 0, none⟩)) pb pw pt ps lb cb lw cw lt ct ls cs sky st k e u w (fun v hv => fit12_at (.pointer (some ⟨gb, 0, none⟩)) pb pw pt ps lb cb lw cw lt ct ls cs sky st (6 * n * n) false v ?_ (fun z hz => CC.out z (hv.trans hz)))
    by_cases c1 : lb = 6 * n * n
    · exact .inr ⟨by rw [c1]; simp, by rw [beq_eq_false_iff_ne]; omega⟩
    · exact .inl ⟨by rw [beq_eq_false_iff_ne]; omega, rfl⟩
end Go.Proofs.YtbdjbhdbegiipaaGreatDoor

namespace Go.Proofs.YtbdjbhdbegiipaaGreatDoor
open Go.RowKit Tf Cu Go.Deep
set_option maxRecDepth 100000 in
theorem allC : AllC := by
  intro n gb sd dt gr dr lim rv pr lr cr pb lb cb B pw lw cw Wt pt lt ct ps ls cs Sp sky st w hn g hB hW hS hdt
  have en : 1 ≤ 12 * n * n ∧ 12 * n * n ≤ 12288 := by
    have h := Nat.mul_le_mul hn.2 hn.2
    have h2 := Nat.mul_le_mul hn.1 hn.1
    rw [Nat.mul_assoc]
    omega
  have CC : Hid (∀ v, Ab w v → Calls Tryz.prog 27 #[.pointer (some ⟨gb, 0, none⟩)] v fun e w' => e = .returned (.int .i64 (6 * n * n : Nat)) ∧ Below v.heap.size v w') := fun v hv => (gCells_at (g.to hv)).mono fun _ _ h => ⟨h.1, by obtain ⟨_, rfl⟩ := h; exact Below.refl _ _⟩
  have CE : Hid (∀ v, Ab w v → Calls Tryz.prog 23 #[.pointer (some ⟨gb, 0, none⟩)] v fun e w' => e = .returned (.int .i64 (12 * n * n : Nat)) ∧ w' = v) := fun v hv => gEdges_at (g.to hv)
  have CEb : Hid (∀ v, Ab w v → Calls Tryz.prog 23 #[.pointer (some ⟨gb, 0, none⟩)] v fun e w' => e = .returned (.int .i64 (12 * n * n : Nat)) ∧ Below v.heap.size v w') := fun v hv => (gEdges_at (g.to hv)).mono fun _ _ h => ⟨h.1, by obtain ⟨_, rfl⟩ := h; exact Below.refl _ _⟩
  refine ⟨fun fit => ?_, fun no => ?_⟩
  · obtain ⟨rfl, rfl, rfl, rfl⟩ := fit
    obtain ⟨sb, so, rfl⟩ := hS.some0 (by omega)
    have CFt : Hid (∀ v, Ab w v → Calls Tryz.prog 22 #[.pointer (some ⟨gb, 0, none⟩), .agg #[.slice pb (6 * n * n) cb, .slice pw (6 * n * n) cw, .slice pt (6 * n * n) ct, .slice (some ⟨sb, so, none⟩) (12 * n * n) cs, .int .i64 sky, .int .i64 st]] v fun e w' => e = .returned (.bool true) ∧ Below v.heap.size v w') := fun v hv => fits13_at gb pb pw pt (some ⟨sb, so, none⟩) (6 * n * n) cb (6 * n * n) cw (6 * n * n) ct (12 * n * n) cs sky st (6 * n * n) (12 * n * n) true v (.inr (.inr (.inr ⟨by simp, by simp, by simp, by simp⟩))) (fun u hu => CC.out u (hv.trans hu)) (fun u hu => CEb.out u (hv.trans hu))
    exact all13_go gb sd dt gr dr lim rv pr lr cr pb pw pt (6 * n * n) cb cw ct sb so cs sky st (12 * n * n) Sp (fun i => rdAll n lim (6 * n * n) (6 * n * n) B Wt (i : Nat) (Sp i)) (fun i => lnE n i) (fun i => flB n lim B Wt Sp dt i) w (by omega) CFt CE
      (fun c hc v hv => (Below.cell hv (hS.at0 hc).2.1).trans (hS.at0 hc).2.2)
      (fun c hc v hv => depthC n gb lim pb _ cb B pw _ cw Wt pt _ ct _ _ cs sky st (c : Nat) (Sp c) v hn (g.to hv) (hB.below hv) (hW.below hv) (hS.at0 hc).1)
      (fun c hc v hv => gLength_ok hn hc (g.to hv))
      (fun c hc v => quantaC _ _ _ _ v (hS.at0 hc).1 (rdAll_lt13 hn.1 (fun i hi => (hB i hi).1) (fun i hi => (hW i hi).1.2) _ _).1 (by have := lnE_in hn hc; omega) hdt)
  · exact all13_no gb sd dt gr dr lim rv pr lr cr pb pw pt ps lb cb lw cw lt ct ls cs sky st w (fun v hv => fits13_at gb pb pw pt ps lb cb lw cw lt ct ls cs sky st (6 * n * n) (12 * n * n) false v (by
      by_cases c1 : lb = 6 * n * n
      · by_cases c2 : lw = 6 * n * n
        · by_cases c3 : lt = 6 * n * n
          · exact .inr (.inr (.inr ⟨by rw [c1]; simp, by rw [c2]; simp, by rw [c3]; simp, by rw [beq_eq_false_iff_ne]; exact fun h => no ⟨c1, c2, c3, by omega⟩⟩))
          · exact .inr (.inr (.inl ⟨by rw [c1]; simp, by rw [c2]; simp, by rw [beq_eq_false_iff_ne]; omega, rfl⟩))
        · exact .inr (.inl ⟨by rw [c1]; simp, by rw [beq_eq_false_iff_ne]; omega, rfl⟩)
      · exact .inl ⟨by rw [beq_eq_false_iff_ne]; omega, rfl⟩) (fun u hu => CC.out u (hv.trans hu)) (fun u hu => CEb.out u (hv.trans hu)))
end Go.Proofs.YtbdjbhdbegiipaaGreatDoor

namespace Go.Proofs.YtbdjbhdbegiipaaGreatDoor
open Go.ChangeShapes Go.WideShapes Go.ChangeAt Go.WideMaps Go.WideElems Go.RowKit Go.Deep
theorem array6' {c : Array Value} (h : c.size = 6) : ∃ v0 v1 v2 v3 v4 v5, c = #[v0, v1, v2, v3, v4, v5] := by
  rcases c with ⟨l⟩
  match l, h with
  | [v0, v1, v2, v3, v4, v5], _ => exact ⟨v0, v1, v2, v3, v4, v5, rfl⟩
set_option maxRecDepth 100000 in
theorem sea12_open {H : Type} {enc : TypeId × Value → H} {W : World} {r : Reach} {b0 : Nat} {v : Value} {d : DataW H} {p : List MemPlace} (hv : Value.okWide Tryz.prog W r b0 29 v) (h : DataW.Trod enc Tryz.prog W 0 (fun _ => true) true 29 v d p) :
    ∃ pb lb cb B pw lw cw Wt pt lt ct Tr ps ls cs Sp sky st, v = .agg #[.slice pb lb cb, .slice pw lw cw, .slice pt lt ct, .slice ps ls cs, .int .i64 sky, .int .i64 st] ∧ SeaAt W pb lb cb B pw lw cw Wt pt lt ct Tr ps ls cs Sp := by
  have hC : Tryz.prog.cellsOf 29 = 6 := by kernel_rfl
  obtain ⟨cs, rfl, hsz⟩ := okWide_struct Tryz.underlying29 hv
  obtain ⟨v0, v1, v2, v3, v4, v5, rfl⟩ := array6' (hsz.trans hC)
  obtain ⟨fuel, hf⟩ := h
  have hf' : DataW.trod enc Tryz.prog W 0 (fun _ => true) true fuel 29 [v0, v1, v2, v3, v4, v5] = some (d, p) := by simpa [Value.cells] using hf
  obtain ⟨pb, lb, cb, B, pw, lw, cw, Wt, pt, lt, ct, Tr, ps, ls, cs, Sp, sky, st, ⟨rfl, rfl, rfl, rfl, rfl, rfl⟩, hs⟩ := sea_cells hf'
  exact ⟨pb, lb, cb, B, pw, lw, cw, Wt, pt, lt, ct, Tr, ps, ls, cs, Sp, sky, st, rfl, hs⟩
end Go.Proofs.YtbdjbhdbegiipaaGreatDoor

namespace Go.Proofs.YtbdjbhdbegiipaaGreatDoor
open Go.ChangeShapes Go.WideShapes Go.ChangeAt Go.WideMaps Go.WideElems Go.RowKit Cu

theorem own : ownKnob Tryz.prog.godebug = none := by kernel_rfl
theorem gFrames : Tryz.prog.globalNamed "tarn/cube.frames" = some 0 := by kernel_rfl
theorem tFrames : (Tryz.prog.globals[0]?).map (·.type) = some 97 := by kernel_rfl
theorem door_met (os : Os) (args : Array Value) : laidMetH Tryz.prog [("tarn/cube.frames", Rows.laid_tarn_cube_frames)] ((World.doorLaid Tryz.prog 400 os).forCall (fun _ _ => 0) ⟨#[], args, []⟩).memory :=
  laidMetH_of_parts3 (fuel := 8) (laidMet_of_run' 8 (by kernel_rfl) (by kernel_rfl)) (by kernel_rfl) (by kernel_rfl)
set_option maxRecDepth 100000 in
theorem pt_data {H : Type} {enc : TypeId × Value → H} {w : World} {base fuel : Nat} {spare : Nat → Bool} {held : Bool} {cs : List Value} {x : DataW H × List MemPlace} (h : DataW.trod enc Tryz.prog w base spare held fuel 89 cs = some x)
    (a b c : Int) (e : x.1 = .agg [.lit (.int .i64 a), .lit (.int .i64 b), .lit (.int .i64 c)]) : cs = [.int .i64 a, .int .i64 b, .int .i64 c] := by
  have k3 : Tryz.prog.cellsOf 3 = 1 := by kernel_rfl
  have kp : Tryz.prog.cellsOf 89 = 3 := by kernel_rfl
  obtain ⟨xs, m, _, hx, hlen, hn, hel⟩ := DataW.trod_array Tryz.underlying89 h
  rw [hx] at e
  match xs, hn, cs, hlen.trans kp with
  | [x0, x1, x2], _, [c0, c1, c2], _ =>
    have h0 := hel 0 (by decide)
    have h1 := hel 1 (by decide)
    have h2 := hel 2 (by decide)
    simp [k3] at h0 h1 h2
    obtain ⟨n0, e0, f0, _⟩ := DataW.trod_int Tryz.underlying3 h0
    obtain ⟨n1, e1, f1, _⟩ := DataW.trod_int Tryz.underlying3 h1
    obtain ⟨n2, e2, f2, _⟩ := DataW.trod_int Tryz.underlying3 h2
    simp at e0 e1 e2
    simp [f0, f1, f2] at e
    rw [e0, e1, e2, e.1, e.2.1, e.2.2]
set_option maxRecDepth 100000 in
theorem frame_data {H : Type} {enc : TypeId × Value → H} {w : World} {base fuel : Nat} {spare : Nat → Bool} {held : Bool} {cs : List Value} {x : DataW H × List MemPlace} (h : DataW.trod enc Tryz.prog w base spare held fuel 96 cs = some x)
    (p q r : P3) (e : x.1 = .agg [.agg [.lit (.int .i64 p.1), .lit (.int .i64 p.2.1), .lit (.int .i64 p.2.2)], .agg [.lit (.int .i64 q.1), .lit (.int .i64 q.2.1), .lit (.int .i64 q.2.2)], .agg [.lit (.int .i64 r.1), .lit (.int .i64 r.2.1), .lit (.int .i64 r.2.2)]]) :
    cs = [.int .i64 p.1, .int .i64 p.2.1, .int .i64 p.2.2, .int .i64 q.1, .int .i64 q.2.1, .int .i64 q.2.2, .int .i64 r.1, .int .i64 r.2.1, .int .i64 r.2.2] := by
  have kp : Tryz.prog.cellsOf 89 = 3 := by kernel_rfl
  have kf : Tryz.prog.cellsOf 96 = 9 := by kernel_rfl
  obtain ⟨xs, m, _, hx, hlen, hn, hel⟩ := DataW.trod_struct Tryz.underlying96 h
  rw [hx] at e
  match xs, hn, cs, hlen.trans kf with
  | [x0, x1, x2], _, [c0, c1, c2, c3, c4, c5, c6, c7, c8], _ =>
    have h0 := hel 0 _ rfl
    have h1 := hel 1 _ rfl
    have h2 := hel 2 _ rfl
    simp [kp] at h0 h1 h2
    simp at e
    have e0 := pt_data h0 _ _ _ e.1
    have e1 := pt_data h1 _ _ _ e.2.1
    have e2 := pt_data h2 _ _ _ e.2.2
    simp at e0 e1 e2
    simp [e0, e1, e2]
set_option maxRecDepth 100000 in
theorem table_data {H : Type} {enc : TypeId × Value → H} {w : World} {base fuel : Nat} {spare : Nat → Bool} {held : Bool} {cs : List Value} {x : DataW H × List MemPlace} (h : DataW.trod enc Tryz.prog w base spare held fuel 97 cs = some x)
    (e : x.1 = Rows.laid_tarn_cube_frames) : ∀ f, f < 6 → (cs.drop (f * 9)).take 9 = [.int .i64 (cC f).1, .int .i64 (cC f).2.1, .int .i64 (cC f).2.2, .int .i64 (cR f).1, .int .i64 (cR f).2.1, .int .i64 (cR f).2.2, .int .i64 (cU f).1, .int .i64 (cU f).2.1, .int .i64 (cU f).2.2] := by
  have kf : Tryz.prog.cellsOf 96 = 9 := by kernel_rfl
  obtain ⟨xs, m, _, hx, hlen, hn, hel⟩ := DataW.trod_array Tryz.underlying97 h
  rw [hx] at e
  intro f hf
  have h0 := hel f hf
  rw [kf] at h0
  match xs, hn with
  | [x0, x1, x2, x3, x4, x5], _ =>
    simp only [List.map_cons, List.map_nil, Rows.laid_tarn_cube_frames, DataW.agg.injEq, List.cons.injEq] at e
    rcases six hf with rfl | rfl | rfl | rfl | rfl | rfl
    · exact frame_data h0 (cC 0) (cR 0) (cU 0) e.1
    · exact frame_data h0 (cC 1) (cR 1) (cU 1) e.2.1
    · exact frame_data h0 (cC 2) (cR 2) (cU 2) e.2.2.1
    · exact frame_data h0 (cC 3) (cR 3) (cU 3) e.2.2.2.1
    · exact frame_data h0 (cC 4) (cR 4) (cU 4) e.2.2.2.2.1
    · exact frame_data h0 (cC 5) (cR 5) (cU 5) e.2.2.2.2.2.1
/-- WHAT THE CONDITION GIVES THE WALKS -/
theorem of_laid {W : World} (h : laidMetH Tryz.prog [("tarn/cube.frames", Rows.laid_tarn_cube_frames)] W) : Fr W := by
  rw [MakeChecks.laidMetH_plain _ _ _ (by kernel_rfl)] at h
  obtain ⟨ps, ⟨g0, t0, cs0, f0, p0, q0, hg0, ht0, hv0, hd0, _⟩, _⟩ := h
  obtain rfl := Option.some.inj (gFrames.symm.trans hg0)
  obtain rfl := Option.some.inj (tFrames.symm.trans ht0)
  have T := table_data hd0 rfl
  have C := World.var?_cell hg0 hv0
  have K : ∀ f, f < 6 → ∀ k, k < 9 → W.cell? ⟨0, f * 9 + k, none⟩ = ((cs0.toList.drop (f * 9)).take 9)[k]? := by
    intro f hf k hk
    rw [C, List.getElem?_take, if_pos hk, List.getElem?_drop]
    simp
  have N : ∀ f, f < 6 → Fr9 W f := by
    intro f hf
    have K := K f hf
    rw [T f hf] at K
    exact ⟨⟨K 0 (by omega), K 1 (by omega), K 2 (by omega)⟩, ⟨K 3 (by omega), K 4 (by omega), K 5 (by omega)⟩, ⟨K 6 (by omega), K 7 (by omega), K 8 (by omega)⟩⟩
  refine ⟨?_, N⟩
  have c0 := (N 0 (by omega)).1.1
  rcases Nat.lt_or_ge 0 W.heap.size with h1 | h1
  · exact h1
  · rw [World.cell?, Array.getElem?_eq_none h1] at c0; cases c0
end Go.Proofs.YtbdjbhdbegiipaaGreatDoor

namespace Go.Proofs.YtbdjbhdbegiipaaGreatDoor
open Go.ChangeShapes Go.WideShapes Go.ChangeAt Go.WideMaps Go.WideElems Go.RowKit Go.Deep
theorem array7' {c : Array Value} (h : c.size = 7) : ∃ v0 v1 v2 v3 v4 v5 v6, c = #[v0, v1, v2, v3, v4, v5, v6] := by
  rcases c with ⟨l⟩
  match l, h with
  | [v0, v1, v2, v3, v4, v5, v6], _ => exact ⟨v0, v1, v2, v3, v4, v5, v6, rfl⟩
theorem trod_bool13 {H : Type} {enc : TypeId × Value → H} {P : Program} {w : World} {base : Nat} {spare : Nat → Bool} {held : Bool} {t : TypeId} {fuel : Nat} {v : Value} {x : DataW H × List MemPlace} (ht : P.underlying t = some .bool) (h : DataW.trod enc P w base spare held fuel t [v] = some x) :
    ∃ b, v = .bool b := by
  cases fuel with
  | zero => simp [DataW.trod] at h
  | succ n =>
    unfold DataW.trod at h
    rw [ht] at h
    split at h <;> simp_all
set_option maxRecDepth 100000 in
theorem plan_open {H : Type} {enc : TypeId × Value → H} {W : World} {r : Reach} {b0 : Nat} {v : Value} {d : DataW H} {p : List MemPlace} (hv : Value.okWide Tryz.prog W r b0 25 v) (h : DataW.Trod enc Tryz.prog W 0 (fun _ => true) true 25 v d p) :
    ∃ sd dt gr dr lim rv pr lr cr, v = .agg #[.int .i64 sd, .float .f64 dt, .float .f64 gr, .float .f64 dr, .int .i64 lim, .bool rv, .slice pr lr cr] ∧ dt < 18446744073709551616 := by
  have hC : Tryz.prog.cellsOf 25 = 7 := by kernel_rfl
  obtain ⟨cs, rfl, hsz⟩ := okWide_struct Tryz.underlying25 hv
  obtain ⟨v0, v1, v2, v3, v4, v5, v6, rfl⟩ := array7' (hsz.trans hC)
  obtain ⟨fuel, hf⟩ := h
  have hf' : DataW.trod enc Tryz.prog W 0 (fun _ => true) true fuel 25 [v0, v1, v2, v3, v4, v5, v6] = some (d, p) := by simpa [Value.cells] using hf
  have k0 : Tryz.prog.cellsOf 22 = 1 := by kernel_rfl
  have k1 : Tryz.prog.cellsOf 4 = 1 := by kernel_rfl
  have k2 : Tryz.prog.cellsOf 23 = 1 := by kernel_rfl
  have k3 : Tryz.prog.cellsOf 3 = 1 := by kernel_rfl
  obtain ⟨xs, m, _, hx, hlen, hn, hel⟩ := DataW.trod_struct Tryz.underlying25 hf'
  match xs, hn with
  | [x0, x1, x2, x3, x4, x5, x6], _ =>
    have h0 := hel 0 _ rfl
    have h1 := hel 1 _ rfl
    have h2 := hel 2 _ rfl
    have h3 := hel 3 _ rfl
    have h4 := hel 4 _ rfl
    have h5 := hel 5 _ rfl
    have h6 := hel 6 _ rfl
    simp [k0, k1, k2, k3] at h0 h1 h2 h3 h4 h5 h6
    obtain ⟨sd, rfl, i0⟩ := trod_int12 Tryz.underlying3 h0
    obtain ⟨dt, rfl, i1⟩ := trod_flt12 Tryz.underlying22 h1
    obtain ⟨gr, rfl, i2⟩ := trod_flt12 Tryz.underlying22 h2
    obtain ⟨dr, rfl, i3⟩ := trod_flt12 Tryz.underlying22 h3
    obtain ⟨lim, rfl, i4⟩ := trod_int12 Tryz.underlying3 h4
    obtain ⟨rv, rfl⟩ := trod_bool13 Tryz.underlying4 h5
    rcases open_slice Tryz.underlying23 h6 with ⟨hcs, _⟩ | ⟨a, l, c, _, _, _, _, hcs, _⟩
    · simp at hcs
      subst hcs
      exact ⟨_, _, _, _, _, _, _, _, _, rfl, i1⟩
    · simp at hcs
      subst hcs
      exact ⟨_, _, _, _, _, _, _, _, _, rfl, i1⟩
end Go.Proofs.YtbdjbhdbegiipaaGreatDoor
