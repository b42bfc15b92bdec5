/-
  Some of the texts of this proof, one behind the other.
-/
import Derived.Deep.QuietTactic
import Derived.Test.YtbhgfmoopmlnjaaDoorM10
namespace Go.Proofs.YtbhgfmoopmlnjaaDoor
open Go.RowKit Tf Cu
set_option maxRecDepth 100000 in
theorem dp12_go {n gb : Nat} (k : Int) (bb bo wb wo cb cw : Nat) (pt ps : Option Addr) (lt ct ls cs : Nat) (sky st : Int) {B : Nat → Nat} {Wt : Nat → Int} {U D K : Nat} (e : Int) (u : Nat) (w : World) (hn : 1 ≤ n ∧ n ≤ 32) (cU : U < 6 * n * n) (cD : D < 6 * n * n) (cK : K < 6 * n * n) (g : GridOf n gb w)
    (hB : IsFl w (some ⟨bb, bo, none⟩) (6 * n * n) B) (hW : IsIn w (some ⟨wb, wo, none⟩) (6 * n * n) Wt)
    (CF : Hid (∀ v, Ab w v → Calls Tryd.prog 17 #[.pointer (some ⟨gb, 0, none⟩), .agg #[.slice (some ⟨bb, bo, none⟩) (6 * n * n) cb, .slice (some ⟨wb, wo, none⟩) (6 * n * n) cw, .slice pt lt ct, .slice ps ls cs, .int .i64 sky, .int .i64 st]] v fun e w' => e = .returned (.bool true) ∧ Below v.heap.size v w'))
    (CW : Hid (∀ v, Ab w v → Calls Tryd.prog 30 #[.pointer (some ⟨gb, 0, none⟩), .int .i64 e, .float .f64 u] v fun e w' => e = .returned (.tuple #[.agg #[.int .i64 (U : Nat), .int .i64 (D : Nat), .int .i64 (K : Nat)], .bool true]) ∧ Below v.heap.size v w')) :
    Calls Tryd.prog 15 #[.pointer (some ⟨gb, 0, none⟩), .int .i64 k, .agg #[.slice (some ⟨bb, bo, none⟩) (6 * n * n) cb, .slice (some ⟨wb, wo, none⟩) (6 * n * n) cw, .slice pt lt ct, .slice ps ls cs, .int .i64 sky, .int .i64 st], .int .i64 e, .float .f64 u] w fun e w' => e = .returned (.float .f64 (ovC k (arC n) B Wt U D K)) ∧ Below w.heap.size w w' := by
  have bU := hB.at0 cU
  have bD := hB.at0 cD
  have wU := hW.at0 cU
  have wD := hW.at0 cD
  have wK := hW.at0 cK
  unfold ovC rcR
  have FW : ∀ v, Ab w v → v.cell? ⟨wb, wo + U, none⟩ = some (.int .i64 (Wt U)) ∧ v.cell? ⟨bb, bo + U, none⟩ = some (.float .f64 (B U)) ∧ v.cell? ⟨bb, bo + D, none⟩ = some (.float .f64 (B D)) := fun v hv =>
    ⟨(Below.cell hv wU.2.1).trans wU.2.2, (Below.cell hv bU.2.1).trans bU.2.2, (Below.cell hv bD.2.1).trans bD.2.2⟩
  have DU : ∀ v, Ab w v → Calls Tryd.prog 47 #[.pointer (some ⟨gb, 0, none⟩), .agg #[.slice (some ⟨bb, bo, none⟩) (6 * n * n) cb, .slice (some ⟨wb, wo, none⟩) (6 * n * n) cw, .slice pt lt ct, .slice ps ls cs, .int .i64 sky, .int .i64 st], .int .i64 (U : Nat)] v fun e w' => e = .returned (.float .f64 (dpB (Wt U) (arC n U))) ∧ Below v.heap.size v w' := (fun v hv => dof12_at (.pointer (some ⟨gb, 0, none⟩)) bb bo wb wo (6 * n * n) cb cw pt ps lt ct ls cs sky st U (Wt U) (arC n U) _ v (by omega) (fun z hz => (Below.cell (hv.trans hz) wU.2.1).trans wU.2.2) (fun z hz => gArea_ok hn cU (g.to (hv.trans hz))) (fun z => (depth_at _ _ z wU.1 (arC_in n _).2).mono fun _ _ h => ⟨h.1, by obtain ⟨_, j, rfl⟩ := h; exact below_drewN (Below.refl _ _) j⟩))
  have DK : ∀ v, Ab w v → Calls Tryd.prog 47 #[.pointer (some ⟨gb, 0, none⟩), .agg #[.slice (some ⟨bb, bo, none⟩) (6 * n * n) cb, .slice (some ⟨wb, wo, none⟩) (6 * n * n) cw, .slice pt lt ct, .slice ps ls cs, .int .i64 sky, .int .i64 st], .int .i64 (K : Nat)] v fun e w' => e = .returned (.float .f64 (dpB (Wt K) (arC n K))) ∧ Below v.heap.size v w' := (fun v hv => dof12_at (.pointer (some ⟨gb, 0, none⟩)) bb bo wb wo (6 * n * n) cb cw pt ps lt ct ls cs sky st K (Wt K) (arC n K) _ v (by omega) (fun z hz => (Below.cell (hv.trans hz) wK.2.1).trans wK.2.2) (fun z hz => gArea_ok hn cK (g.to (hv.trans hz))) (fun z => (depth_at _ _ z wK.1 (arC_in n _).2).mono fun _ _ h => ⟨h.1, by obtain ⟨_, j, rfl⟩ := h; exact below_drewN (Below.refl _ _) j⟩))
  have DD : ∀ v, Ab w v → Calls Tryd.prog 47 #[.pointer (some ⟨gb, 0, none⟩), .agg #[.slice (some ⟨bb, bo, none⟩) (6 * n * n) cb, .slice (some ⟨wb, wo, none⟩) (6 * n * n) cw, .slice pt lt ct, .slice ps ls cs, .int .i64 sky, .int .i64 st], .int .i64 (D : Nat)] v fun e w' => e = .returned (.float .f64 (dpB (Wt D) (arC n D))) ∧ Below v.heap.size v w' := (fun v hv => dof12_at (.pointer (some ⟨gb, 0, none⟩)) bb bo wb wo (6 * n * n) cb cw pt ps lt ct ls cs sky st D (Wt D) (arC n D) _ v (by omega) (fun z hz => (Below.cell (hv.trans hz) wD.2.1).trans wD.2.2) (fun z hz => gArea_ok hn cD (g.to (hv.trans hz))) (fun z => (depth_at _ _ z wD.1 (arC_in n _).2).mono fun _ _ h => ⟨h.1, by obtain ⟨_, j, rfl⟩ := h; exact below_drewN (Below.refl _ _) j⟩))
  have fU : dpB (Wt U) (arC n U) < 9218868437227405312 := by have := dp_le wU.1 (arC_in n U).2; omega
  have fK : dpB (Wt K) (arC n K) < 9218868437227405312 := by have := dp_le wK.1 (arC_in n K).2; omega
  have fD : dpB (Wt D) (arC n D) < 9218868437227405312 := by have := dp_le wD.1 (arC_in n D).2; omega
  have hx := minus_some fU fK
  have hy := minus_some fD fU
  have lx := (sub_isC (by omega) hx (by omega)).1
  have ly := (sub_isC (by omega) hy (by omega)).1
  have sN := slp_N k (sbB (dpB (Wt U) (arC n U)) (dpB (Wt K) (arC n K))) (sbB (dpB (Wt D) (arC n D)) (dpB (Wt U) (arC n U)))
  have sl := slp_lt k (sbB (dpB (Wt U) (arC n U)) (dpB (Wt K) (arC n K))) (sbB (dpB (Wt D) (arC n D)) (dpB (Wt U) (arC n U)))
  have hm := half_some sl sN
  have hf := half_N sl sN
  have hv0 := plus_some fU hf.2 hf.1
  have vl := rcV_lt (k := k) (hb := dpB (Wt K) (arC n K)) (hd := dpB (Wt D) (arC n D)) fU
  have ll := lvl_lt (b := B U) (w := Wt U) (a := arC n U) bU.1 wU.1 (arC_in n _).2
  have ml := maxB_lt (a := B U) (b := B D) bU.1 bD.1
  cases hs : Ieee.double.sub (lvl (B U) (Wt U) (arC n U)) (maxB (B U) (B D)) with
  | some z =>
    have hc := sub_isC ml hs ll
    rw [show rcG (lvl (B U) (Wt U) (arC n U)) (B U) (B D) = sbB (lvl (B U) (Wt U) (arC n U)) (maxB (B U) (B D)) from rfl, ← pos0_c vl hc]
    exact dp12_some (.pointer (some ⟨gb, 0, none⟩)) bb bo wb wo (6 * n * n) cb cw pt ps lt ct ls cs sky st k e u w U D K _ _ _ CF CW
      (fun v hv => fwd12_at (.pointer (some ⟨gb, 0, none⟩)) bb bo wb wo (6 * n * n) cb cw pt ps lt ct ls cs sky st k U D K _ _ _ _ _ _ _ _ v (fun z hz => DU z (hv.trans hz)) (fun z hz => DK z (hv.trans hz)) (fun z hz => DD z (hv.trans hz)) (fun z => slope_at k _ _ z lx ly) (fun t w => run_float_arith w .sub t .f64 _ _ _ hx) (fun t w => run_float_arith w .sub t .f64 _ _ _ hy) (fun t w => run_float_arith w .mul t .f64 _ _ _ hm) (fun t w => run_float_arith w .add t .f64 _ _ _ hv0)) z
      (fun v hv => gate12_some_at (.pointer (some ⟨gb, 0, none⟩)) bb bo wb wo (6 * n * n) cb cw pt ps lt ct ls cs sky st U D K (Wt U) (arC n U) (B U) (B D) _ _ v (by omega) (by omega) (fun z hz => FW z (hv.trans hz)) (fun z hz => gArea_ok hn cU (g.to (hv.trans hz))) (fun z => (level_at _ _ _ z bU.1 wU.1 (arC_in n _).2).mono fun _ _ h => ⟨h.1, by obtain ⟨_, j, rfl⟩ := h; exact below_drewN (Below.refl _ _) j⟩) (fun z => (max_any _ _ z bU.1 bD.1).mono fun _ _ h => ⟨h.1, by obtain ⟨_, rfl⟩ := h; exact Below.refl _ _⟩) z (fun t w => run_float_arith w .sub t .f64 _ _ _ hs)) (fun v => (min_any _ _ v vl hc.1).mono fun _ _ h => ⟨h.1, by obtain ⟨_, rfl⟩ := h; exact Below.refl _ _⟩) rfl
  | none =>
    have hN : isN (rcG (lvl (B U) (Wt U) (arC n U)) (B U) (B D)) = true := by
      unfold rcG sbB
      rw [addB_none (by rw [← sub_add _ _ ml]; exact hs)]
      decide
    rw [minB_nan (.inr hN)]
    exact dp12_none (.pointer (some ⟨gb, 0, none⟩)) bb bo wb wo (6 * n * n) cb cw pt ps lt ct ls cs sky st k e u w U D K _ _ _ CF CW
      (fun v hv => fwd12_at (.pointer (some ⟨gb, 0, none⟩)) bb bo wb wo (6 * n * n) cb cw pt ps lt ct ls cs sky st k U D K _ _ _ _ _ _ _ _ v (fun z hz => DU z (hv.trans hz)) (fun z hz => DK z (hv.trans hz)) (fun z hz => DD z (hv.trans hz)) (fun z => slope_at k _ _ z lx ly) (fun t w => run_float_arith w .sub t .f64 _ _ _ hx) (fun t w => run_float_arith w .sub t .f64 _ _ _ hy) (fun t w => run_float_arith w .mul t .f64 _ _ _ hm) (fun t w => run_float_arith w .add t .f64 _ _ _ hv0))
      (fun v hv => gate12_none_at (.pointer (some ⟨gb, 0, none⟩)) bb bo wb wo (6 * n * n) cb cw pt ps lt ct ls cs sky st U D K (Wt U) (arC n U) (B U) (B D) _ _ v (by omega) (by omega) (fun z hz => FW z (hv.trans hz)) (fun z hz => gArea_ok hn cU (g.to (hv.trans hz))) (fun z => (level_at _ _ _ z bU.1 wU.1 (arC_in n _).2).mono fun _ _ h => ⟨h.1, by obtain ⟨_, j, rfl⟩ := h; exact below_drewN (Below.refl _ _) j⟩) (fun z => (max_any _ _ z bU.1 bD.1).mono fun _ _ h => ⟨h.1, by obtain ⟨_, rfl⟩ := h; exact Below.refl _ _⟩) (fun t w => run_nan_sub w t _ _ hs)) (fun z hz1 hz2 v => by
        have h := min_any (rcV k (dpB (Wt U) (arC n U)) (dpB (Wt K) (arC n K)) (dpB (Wt D) (arC n D))) z v vl hz1
        rw [minB_nan (.inr hz2)] at h
        exact (h).mono fun _ _ h => ⟨h.1, by obtain ⟨_, rfl⟩ := h; exact Below.refl _ _⟩) rfl
theorem depthC : DepthC := by
  intro n gb k pb lb cb B pw lw cw Wt pt lt ct ps ls cs sky st e u w hn g hB hW hu
  have CC : Hid (∀ v, Ab w v → Calls Tryd.prog 7 #[.pointer (some ⟨gb, 0, none⟩)] v fun e w' => e = .returned (.int .i64 (6 * n * n : Nat)) ∧ Below v.heap.size v w') := fun v hv => (gCells_at (g.to hv)).mono fun _ _ h => ⟨h.1, by obtain ⟨_, rfl⟩ := h; exact Below.refl _ _⟩
  by_cases c : lb = 6 * n * n ∧ lw = 6 * n * n
  · obtain ⟨rfl, rfl⟩ := c
    have CF : Hid (∀ v, Ab w v → Calls Tryd.prog 17 #[.pointer (some ⟨gb, 0, none⟩), .agg #[.slice pb (6 * n * n) cb, .slice pw (6 * n * n) cw, .slice pt lt ct, .slice ps ls cs, .int .i64 sky, .int .i64 st]] v fun e w' => e = .returned (.bool true) ∧ Below v.heap.size v w') := fun v hv => fit12_at (.pointer (some ⟨gb, 0, none⟩)) pb pw pt ps _ cb _ cw lt ct ls cs sky st (6 * n * n) true v (.inr ⟨by simp, by simp⟩) (fun z hz => CC.out z (hv.trans hz))
    cases h : inR e (12 * n * n : Nat) with
    | false =>
      rw [rdAll_no (fun q => by rw [h] at q; exact absurd q.1 (by decide))]
      exact dp12_noway (.pointer (some ⟨gb, 0, none⟩)) pb pw pt ps _ cb _ cw lt ct ls cs sky st k e u w CF (fun v hv => wo12_no (.pointer (some ⟨gb, 0, none⟩)) e u v (fun z hz => gEdge_no h (g.to (hv.trans hz))))
    | true =>
      obtain ⟨E, rfl, hE⟩ := inR_nat h
      obtain ⟨t1, t2, t3⟩ := edT_spec hn.1 hE
      rw [← t3]
      have mtd := mt_dec hn.1 t1
      have cL := t_cell t1
      have cR : bsC n (edT n E / 4) (edT n E % 4) < 6 * n * n := by rw [← mtd.1]; exact t_cell (mt_lt hn.1 t1)
      have cp : bsC n (edT n E / 4) ((edT n E % 4 + 2) % 4) < 6 * n * n := bk_lt hn.1 t1
      have cq : bsC n (bsC n (edT n E / 4) (edT n E % 4)) ((bsS n (edT n E / 4) (edT n E % 4) + 2) % 4) < 6 * n * n := by
        have := bk_lt hn.1 (mt_lt hn.1 t1)
        unfold bkC at this
        rwa [mtd.1, mtd.2] at this
      obtain ⟨bb, bo, rfl⟩ := hB.some0 (six_pos hn.1)
      obtain ⟨wb, wo, rfl⟩ := hW.some0 (six_pos hn.1)
      rw [rdAll_eN hn.1 t1 t2]
      cases p : fgt u 0 with
      | true =>
        have e : sdD n k (arC n) B Wt (edT n E) = ovC k (arC n) B Wt (edT n E / 4) (bsC n (edT n E / 4) (edT n E % 4)) (bsC n (edT n E / 4) ((edT n E % 4 + 2) % 4)) := by
          unfold sdD
          rw [mtd.1]; rfl
        rw [rdT_p p, e]
        exact dp12_go k bb bo wb wo cb cw pt ps lt ct ls cs sky st _ u w hn cL cR cp g hB hW CF (fun v hv => wo12_pos (.pointer (some ⟨gb, 0, none⟩)) _ u _ _ _ _ _ _ v p (fun z hz => gEdge_ok hn t1 t2 (g.to (hv.trans hz))) (fun z hz => gBehind_ok hn t1 t2 (g.to (hv.trans hz))))
      | false =>
        cases q : flt u 0 with
        | true =>
          have e : sdD n k (arC n) B Wt (mt n (edT n E)) = ovC k (arC n) B Wt (bsC n (edT n E / 4) (edT n E % 4)) (edT n E / 4) (bsC n (bsC n (edT n E / 4) (edT n E % 4)) ((bsS n (edT n E / 4) (edT n E % 4) + 2) % 4)) := by
            unfold sdD
            rw [mt_mt hn.1 t1, mtd.1]; unfold bkC; rw [mtd.1, mtd.2]
          rw [rdT_n p q, e]
          exact dp12_go k bb bo wb wo cb cw pt ps lt ct ls cs sky st _ u w hn cR cL cq g hB hW CF (fun v hv => wo12_neg (.pointer (some ⟨gb, 0, none⟩)) _ u _ _ _ _ _ _ v p q (fun z hz => gEdge_ok hn t1 t2 (g.to (hv.trans hz))) (fun z hz => gBehind_ok hn t1 t2 (g.to (hv.trans hz))))
        | false =>
          rw [rdT_0 p q]
          exact dp12_noway (.pointer (some ⟨gb, 0, none⟩)) (some ⟨bb, bo, none⟩) (some ⟨wb, wo, none⟩) pt ps _ cb _ cw lt ct ls cs sky st k _ u w CF (fun v hv => wo12_still (.pointer (some ⟨gb, 0, none⟩)) _ u _ _ _ _ _ _ v p q (fun z hz => gEdge_ok hn t1 t2 (g.to (hv.trans hz))) (fun z hz => gBehind_ok hn t1 t2 (g.to (hv.trans hz))))
  · rw [rdAll_no (fun q => c q.2)]
    refine dp12_nofit (.pointer (some ⟨gb, 0, none⟩)) pb pw pt ps lb cb lw cw lt ct ls cs sky st k e u w (fun v hv => fit12_at (.pointer (some ⟨gb, 0, none⟩)) pb pw pt ps lb cb lw cw lt ct ls cs sky st (6 * n * n) false v ?_ (fun z hz => CC.out z (hv.trans hz)))
    by_cases c1 : lb = 6 * n * n
    · exact .inr ⟨by rw [c1]; simp, by rw [beq_eq_false_iff_ne]; omega⟩
    · exact .inl ⟨by rw [beq_eq_false_iff_ne]; omega, rfl⟩
end Go.Proofs.YtbhgfmoopmlnjaaDoor

namespace Go.Proofs.YtbhgfmoopmlnjaaDoor
open Go.RowKit Tf Cu
attribute [local go_sem] run_bits run_from raw_feq raw_fne raw_flt raw_fgt run_neg run_store_float
set_option maxRecDepth 100000 in
set_option maxHeartbeats 8000000 in
theorem dps12_no (gb : Nat) (pb pw pt ps : Option Addr) (lb cb lw cw lt ct ls cs : Nat) (sky st : Int) (k : Int) (N : Nat) (fq vq : Bool) (w : World)
    (hq : fq = false ∨ (fq = true ∧ ((ls : Int) != (N : Int)) = true) ∨ (fq = true ∧ ((ls : Int) != (N : Int)) = false ∧ vq = false))
    (CF : Hid (∀ v, Ab w v → Calls Tryd.prog 17 #[(.pointer (some ⟨gb, 0, none⟩)), .agg #[.slice pb lb cb, .slice pw lw cw, .slice pt lt ct, .slice ps ls cs, .int .i64 sky, .int .i64 st]] v fun e w' => e = .returned (.bool fq) ∧ Below v.heap.size v w'))
    (CE : Hid (∀ v, Ab w v → Calls Tryd.prog 8 #[(.pointer (some ⟨gb, 0, none⟩))] v fun e w' => e = .returned (.int .i64 (N : Nat)) ∧ Below v.heap.size v w'))
    (CVa : Hid (∀ v : World, Calls Tryd.prog 18 #[.int .i64 k] v fun e w' => e = .returned (.bool vq) ∧ Below v.heap.size v w')) :
    Calls Tryd.prog 10 #[(.pointer (some ⟨gb, 0, none⟩)), .int .i64 k, .agg #[.slice pb lb cb, .slice pw lw cw, .slice pt lt ct, .slice ps ls cs, .int .i64 sky, .int .i64 st]] w fun e w' => e = .returned (.tuple #[.slice none 0 0, .int .i64 1]) ∧ Below w.heap.size w w' := by
  have A0 : Hid (Ab w (w.alloc (.cells #[.slice pb lb cb, .slice pw lw cw, .slice pt lt ct, .slice ps ls cs, .int .i64 sky, .int .i64 st] 25))) := bl1 _ _
  have RO : Hid ((w.alloc (.cells #[.slice pb lb cb, .slice pw lw cw, .slice pt lt ct, .slice ps ls cs, .int .i64 sky, .int .i64 st] 25)).heap[w.heap.size]? = some (.cells #[.slice pb lb cb, .slice pw lw cw, .slice pt lt ct, .slice ps ls cs, .int .i64 sky, .int .i64 st] 25)) := heap_alloc_new _ _
  go_enter Tryd.func10, Tryd.ntmps10
  go_upto_region 3 with fail
  generalize hW : World.alloc w _ = W at *
  obtain ⟨gs, hgs⟩ : ∃ g, w.heap.size = g := ⟨_, rfl⟩
  rw [hgs] at RO ⊢
  have HGS := hid hgs
  clear hgs hW
  rcases hq with rfl | ⟨rfl, q2⟩ | ⟨rfl, q2, rfl⟩
  · obtain ⟨UU, E, hF1, hF2⟩ := cls W
    have HU := hid hF2
    have HU1 := hid hF1
    have HX : Hid (∀ u, Ab w (E u)) := fun u => Ab.trans A0.out (hF1 u)
    have s0 : ∀ u, (E u).cell? ⟨gs, 0, none⟩ = some (.slice pb lb cb) := fun u => cell_of_row _ _ 0 _ _ _ ((hF1 u).heap RO.out)
    have s1 : ∀ u, (E u).cell? ⟨gs, 1, none⟩ = some (.slice pw lw cw) := fun u => cell_of_row _ _ 1 _ _ _ ((hF1 u).heap RO.out)
    have s2 : ∀ u, (E u).cell? ⟨gs, 2, none⟩ = some (.slice pt lt ct) := fun u => cell_of_row _ _ 2 _ _ _ ((hF1 u).heap RO.out)
    have s3 : ∀ u, (E u).cell? ⟨gs, 3, none⟩ = some (.slice ps ls cs) := fun u => cell_of_row _ _ 3 _ _ _ ((hF1 u).heap RO.out)
    have s4 : ∀ u, (E u).cell? ⟨gs, 4, none⟩ = some (.int .i64 sky) := fun u => cell_of_row _ _ 4 _ _ _ ((hF1 u).heap RO.out)
    have s5 : ∀ u, (E u).cell? ⟨gs, 5, none⟩ = some (.int .i64 st) := fun u => cell_of_row _ _ 5 _ _ _ ((hF1 u).heap RO.out)
    have DD0 := HU.out _ (Ab.refl W).drew
    clear hF1 hF2
    refine region_cls E (by kernel_rfl) (by kernel_rfl) DD0 ?_
    repeat (go_big_quiet_step (first
      | (with_reducible rfl)
      | (go_at_call 17; exact calls_cls HU HU1 (CF.out _ (HX.out _)))
      | (go_at_call 8; exact calls_cls HU HU1 (CE.out _ (HX.out _)))
      | (go_at_call 18; exact calls_cls HU HU1 (CVa.out _))))
    refine wpQuiet_nil ?_
    intro z hwz
    obtain ⟨u0, hu⟩ := hwz
    have AZ : Hid (Ab w z) := by rw [hu]; exact HX.out u0
    clear hu u0
    clear HU HU1 HX DD0 s0 s1 s2 s3 s4 s5
    clear E UU
    go_wp2
    go_ret2
    exact ⟨rfl, AZ.out⟩
  · obtain ⟨UU, E, hF1, hF2⟩ := cls W
    have HU := hid hF2
    have HU1 := hid hF1
    have HX : Hid (∀ u, Ab w (E u)) := fun u => Ab.trans A0.out (hF1 u)
    have s0 : ∀ u, (E u).cell? ⟨gs, 0, none⟩ = some (.slice pb lb cb) := fun u => cell_of_row _ _ 0 _ _ _ ((hF1 u).heap RO.out)
    have s1 : ∀ u, (E u).cell? ⟨gs, 1, none⟩ = some (.slice pw lw cw) := fun u => cell_of_row _ _ 1 _ _ _ ((hF1 u).heap RO.out)
    have s2 : ∀ u, (E u).cell? ⟨gs, 2, none⟩ = some (.slice pt lt ct) := fun u => cell_of_row _ _ 2 _ _ _ ((hF1 u).heap RO.out)
    have s3 : ∀ u, (E u).cell? ⟨gs, 3, none⟩ = some (.slice ps ls cs) := fun u => cell_of_row _ _ 3 _ _ _ ((hF1 u).heap RO.out)
    have s4 : ∀ u, (E u).cell? ⟨gs, 4, none⟩ = some (.int .i64 sky) := fun u => cell_of_row _ _ 4 _ _ _ ((hF1 u).heap RO.out)
    have s5 : ∀ u, (E u).cell? ⟨gs, 5, none⟩ = some (.int .i64 st) := fun u => cell_of_row _ _ 5 _ _ _ ((hF1 u).heap RO.out)
    have DD0 := HU.out _ (Ab.refl W).drew
    clear hF1 hF2
    refine region_cls E (by kernel_rfl) (by kernel_rfl) DD0 ?_
    repeat (go_big_quiet_step (first
      | (with_reducible rfl)
      | (go_at_call 17; exact calls_cls HU HU1 (CF.out _ (HX.out _)))
      | (go_at_call 8; exact calls_cls HU HU1 (CE.out _ (HX.out _)))
      | (go_at_call 18; exact calls_cls HU HU1 (CVa.out _))))
    refine wpQuiet_nil ?_
    intro z hwz
    obtain ⟨u0, hu⟩ := hwz
    have AZ : Hid (Ab w z) := by rw [hu]; exact HX.out u0
    clear hu u0
    clear HU HU1 HX DD0 s0 s1 s2 s3 s4 s5
    clear E UU
    go_wp2
    go_ret2
    exact ⟨rfl, AZ.out⟩
  · obtain ⟨UU, E, hF1, hF2⟩ := cls W
    have HU := hid hF2
    have HU1 := hid hF1
    have HX : Hid (∀ u, Ab w (E u)) := fun u => Ab.trans A0.out (hF1 u)
    have s0 : ∀ u, (E u).cell? ⟨gs, 0, none⟩ = some (.slice pb lb cb) := fun u => cell_of_row _ _ 0 _ _ _ ((hF1 u).heap RO.out)
    have s1 : ∀ u, (E u).cell? ⟨gs, 1, none⟩ = some (.slice pw lw cw) := fun u => cell_of_row _ _ 1 _ _ _ ((hF1 u).heap RO.out)
    have s2 : ∀ u, (E u).cell? ⟨gs, 2, none⟩ = some (.slice pt lt ct) := fun u => cell_of_row _ _ 2 _ _ _ ((hF1 u).heap RO.out)
    have s3 : ∀ u, (E u).cell? ⟨gs, 3, none⟩ = some (.slice ps ls cs) := fun u => cell_of_row _ _ 3 _ _ _ ((hF1 u).heap RO.out)
    have s4 : ∀ u, (E u).cell? ⟨gs, 4, none⟩ = some (.int .i64 sky) := fun u => cell_of_row _ _ 4 _ _ _ ((hF1 u).heap RO.out)
    have s5 : ∀ u, (E u).cell? ⟨gs, 5, none⟩ = some (.int .i64 st) := fun u => cell_of_row _ _ 5 _ _ _ ((hF1 u).heap RO.out)
    have DD0 := HU.out _ (Ab.refl W).drew
    clear hF1 hF2
    refine region_cls E (by kernel_rfl) (by kernel_rfl) DD0 ?_
    repeat (go_big_quiet_step (first
      | (with_reducible rfl)
      | (go_at_call 17; exact calls_cls HU HU1 (CF.out _ (HX.out _)))
      | (go_at_call 8; exact calls_cls HU HU1 (CE.out _ (HX.out _)))
      | (go_at_call 18; exact calls_cls HU HU1 (CVa.out _))))
    refine wpQuiet_nil ?_
    intro z hwz
    obtain ⟨u0, hu⟩ := hwz
    have AZ : Hid (Ab w z) := by rw [hu]; exact HX.out u0
    clear hu u0
    clear HU HU1 HX DD0 s0 s1 s2 s3 s4 s5
    clear E UU
    go_wp2
    go_ret2
    exact ⟨rfl, AZ.out⟩
set_option maxRecDepth 100000 in
set_option maxHeartbeats 8000000 in
theorem dps12_go (gb : Nat) (pb pw pt : Option Addr) (lb cb lw cw lt ct sb so cs : Nat) (sky st : Int) (k : Int) (N : Nat) (Sp D : Nat → Nat) (w : World) (hN : N ≤ 1048576)
    (CF : Hid (∀ v, Ab w v → Calls Tryd.prog 17 #[(.pointer (some ⟨gb, 0, none⟩)), .agg #[.slice pb lb cb, .slice pw lw cw, .slice pt lt ct, .slice (some ⟨sb, so, none⟩) N cs, .int .i64 sky, .int .i64 st]] v fun e w' => e = .returned (.bool true) ∧ Below v.heap.size v w'))
    (CE : Hid (∀ v, Ab w v → Calls Tryd.prog 8 #[(.pointer (some ⟨gb, 0, none⟩))] v fun e w' => e = .returned (.int .i64 (N : Nat)) ∧ w' = v))
    (CVa : Hid (∀ v : World, Calls Tryd.prog 18 #[.int .i64 k] v fun e w' => e = .returned (.bool true) ∧ Below v.heap.size v w'))
    (FSp : Hid (∀ c, c < N → ∀ v, Ab w v → v.cell? ⟨sb, so + c, none⟩ = some (.float .f64 (Sp c))))
    (CD : Hid (∀ c, c < N → ∀ v, Ab w v → Calls Tryd.prog 15 #[(.pointer (some ⟨gb, 0, none⟩)), .int .i64 k, .agg #[.slice pb lb cb, .slice pw lw cw, .slice pt lt ct, .slice (some ⟨sb, so, none⟩) N cs, .int .i64 sky, .int .i64 st], .int .i64 (c : Nat), .float .f64 (Sp c)] v fun e w' => e = .returned (.float .f64 (D c)) ∧ Below v.heap.size v w')) :
    Calls Tryd.prog 10 #[(.pointer (some ⟨gb, 0, none⟩)), .int .i64 k, .agg #[.slice pb lb cb, .slice pw lw cw, .slice pt lt ct, .slice (some ⟨sb, so, none⟩) N cs, .int .i64 sky, .int .i64 st]] w fun e w' => ∃ b, e = .returned (.tuple #[.slice (some ⟨b, 0, none⟩) N N, .int .i64 0]) ∧ Below w.heap.size w w' ∧ w'.rowIs b 33 N (fun i => .float .f64 (D i)) ∧ w.heap.size ≤ b := by
  have M1 : ∀ v : World, (Instr.makeSlice 22 (.int .i64 (N : Nat)) (.int .i64 (N : Nat))).run Tryd.prog v = .ok (.slice (some ⟨v.heap.size, 0, none⟩) N N) (v.alloc (Obj.cells (madeCells #[.float .f64 0] N) 33)) := fun v =>
    run_make_row' (P := Tryd.prog) 22 33 (.float .f64 0) 8 Tryd.underlying22 infoF64 rfl .i64 .i64 N (by omega) (by omega) v
  have CEb : Hid (∀ v, Ab w v → Calls Tryd.prog 8 #[(.pointer (some ⟨gb, 0, none⟩))] v fun e w' => e = .returned (.int .i64 (N : Nat)) ∧ Below v.heap.size v w') := fun v hv => (CE.out v hv).mono fun _ _ h => ⟨h.1, by obtain ⟨_, rfl⟩ := h; exact Below.refl _ _⟩
  have HN := hid hN
  have q2 : ((N : Int) != (N : Int)) = false := by simp
  clear hN
  have A0 : Hid (Ab w (w.alloc (.cells #[.slice pb lb cb, .slice pw lw cw, .slice pt lt ct, .slice (some ⟨sb, so, none⟩) N cs, .int .i64 sky, .int .i64 st] 25))) := bl1 _ _
  have RO : Hid ((w.alloc (.cells #[.slice pb lb cb, .slice pw lw cw, .slice pt lt ct, .slice (some ⟨sb, so, none⟩) N cs, .int .i64 sky, .int .i64 st] 25)).heap[w.heap.size]? = some (.cells #[.slice pb lb cb, .slice pw lw cw, .slice pt lt ct, .slice (some ⟨sb, so, none⟩) N cs, .int .i64 sky, .int .i64 st] 25)) := heap_alloc_new _ _
  go_enter Tryd.func10, Tryd.ntmps10
  go_upto_region 3 with fail
  generalize hW : World.alloc w _ = W at *
  obtain ⟨gs, hgs⟩ : ∃ g, w.heap.size = g := ⟨_, rfl⟩
  rw [hgs] at RO ⊢
  have HGS := hid hgs
  clear hgs hW
  obtain ⟨UU, E, hF1, hF2⟩ := cls W
  have HU := hid hF2
  have HU1 := hid hF1
  have HX : Hid (∀ u, Ab w (E u)) := fun u => Ab.trans A0.out (hF1 u)
  have s0 : ∀ u, (E u).cell? ⟨gs, 0, none⟩ = some (.slice pb lb cb) := fun u => cell_of_row _ _ 0 _ _ _ ((hF1 u).heap RO.out)
  have s1 : ∀ u, (E u).cell? ⟨gs, 1, none⟩ = some (.slice pw lw cw) := fun u => cell_of_row _ _ 1 _ _ _ ((hF1 u).heap RO.out)
  have s2 : ∀ u, (E u).cell? ⟨gs, 2, none⟩ = some (.slice pt lt ct) := fun u => cell_of_row _ _ 2 _ _ _ ((hF1 u).heap RO.out)
  have s3 : ∀ u, (E u).cell? ⟨gs, 3, none⟩ = some (.slice (some ⟨sb, so, none⟩) N cs) := fun u => cell_of_row _ _ 3 _ _ _ ((hF1 u).heap RO.out)
  have s4 : ∀ u, (E u).cell? ⟨gs, 4, none⟩ = some (.int .i64 sky) := fun u => cell_of_row _ _ 4 _ _ _ ((hF1 u).heap RO.out)
  have s5 : ∀ u, (E u).cell? ⟨gs, 5, none⟩ = some (.int .i64 st) := fun u => cell_of_row _ _ 5 _ _ _ ((hF1 u).heap RO.out)
  have DD0 := HU.out _ (Ab.refl W).drew
  clear hF1 hF2
  refine region_cls E (by kernel_rfl) (by kernel_rfl) DD0 ?_
  repeat (go_big_quiet_step (first
    | (with_reducible rfl)
    | (go_at_call 17; exact calls_cls HU HU1 (CF.out _ (HX.out _)))
    | (go_at_call 8; exact calls_cls HU HU1 (CEb.out _ (HX.out _)))
    | (go_at_call 18; exact calls_cls HU HU1 (CVa.out _))))
  refine wpQuiet_nil ?_
  intro z hwz
  obtain ⟨u0, hu⟩ := hwz
  have AZ : Hid (Ab w z) := by rw [hu]; exact HX.out u0
  have RZ : Hid (z.heap[gs]? = some (.cells #[.slice pb lb cb, .slice pw lw cw, .slice pt lt ct, .slice (some ⟨sb, so, none⟩) N cs, .int .i64 sky, .int .i64 st] 25)) := by rw [hu]; exact (HU1.out u0).heap RO.out
  clear hu u0
  clear HU HU1 HX DD0 s0 s1 s2 s3 s4 s5
  clear E UU
  clear A0 RO
  go_wp2_with fail
  refine (CE.out _ AZ.out).mono ?_
  rintro e9 vq ⟨rfl, hvq⟩
  have hvq2 := hvq.symm
  subst hvq2
  have AV : Hid (Ab w (z.alloc (Obj.cells (madeCells #[.float .f64 0] N) 33))) := AZ.out.alloc _
  have RV : Hid ((z.alloc (Obj.cells (madeCells #[.float .f64 0] N) 33)).heap[gs]? = some (.cells #[.slice pb lb cb, .slice pw lw cw, .slice pt lt ct, .slice (some ⟨sb, so, none⟩) N cs, .int .i64 sky, .int .i64 st] 25)) := Ab.heap (bl1 _ _) RZ.out
  have OV : Hid ((z.alloc (Obj.cells (madeCells #[.float .f64 0] N) 33)).rowIs z.heap.size 33 N (fun _ => .float .f64 0)) := World.rowIs_made _ _ _ _
  have LZ : Hid (w.heap.size ≤ z.heap.size ∧ gs ≠ z.heap.size) := ⟨AZ.out.size, by have := lt_of_block RZ.out; omega⟩
  go_upto_region 6 with fail
  generalize hV : World.alloc z _ = V at *
  obtain ⟨b, hb⟩ : ∃ b, z.heap.size = b := ⟨_, rfl⟩
  rw [hb] at OV LZ ⊢
  clear hV hb AZ RZ M1
  have IN : Hid (Ab w V ∧ V.heap[gs]? = some (.cells #[.slice pb lb cb, .slice pw lw cw, .slice pt lt ct, .slice (some ⟨sb, so, none⟩) N cs, .int .i64 sky, .int .i64 st] 25) ∧ V.rowIs b 33 N (fun i => .float .f64 (if i < 0 then D i else 0))) := ⟨AV.out, RV.out, OV.out.congr (fun i _ => by simp)⟩
  clear AV RV OV
  go_wp2
  go_loopw [34] (fun iv wr => ∃ c : Nat, c ≤ N ∧ iv = .int .i64 (c : Nat) ∧ Ab w wr ∧ wr.heap[gs]? = some (.cells #[.slice pb lb cb, .slice pw lw cw, .slice pt lt ct, .slice (some ⟨sb, so, none⟩) N cs, .int .i64 sky, .int .i64 st] 25) ∧ wr.rowIs b 33 N (fun i => .float .f64 (if i < c then D i else 0))) (fun iv _ => N - (intOf iv).toNat)
  case atStart => exact ⟨0, by omega, rfl, IN.out⟩
  case round =>
    obtain ⟨c, hc, rfl, a1, r1, o1⟩ := hrel
    clear IN
    have AR := hid a1
    have RR := hid r1
    have OO := hid o1
    clear a1 r1 o1
    by_cases hcN : c < N
    · have HC := hid hcN
      have hcI : (c : Int) < N := by omega
      have hcB : (c : Int) ≤ 1048576 := by have := HN.out; omega
      obtain ⟨x, hx⟩ : ∃ x, Sp c = x := ⟨_, rfl⟩
      obtain ⟨y, hy⟩ : ∃ y, D c = y := ⟨_, rfl⟩
      have CDc := hid (CD.out c hcN)
      rw [hx, hy] at CDc
      have HX2 := hid hx
      have HY := hid hy
      clear hx hy hcN
      go_upto_region 9 with fail
      obtain ⟨UU, E, hF1, hF2⟩ := cls wr
      have HU := hid hF2
      have HU1 := hid hF1
      have HX : Hid (∀ u, Ab w (E u)) := fun u => Ab.trans AR.out (hF1 u)
      have s0 : ∀ u, (E u).cell? ⟨gs, 0, none⟩ = some (.slice pb lb cb) := fun u => cell_of_row _ _ 0 _ _ _ ((hF1 u).heap RR.out)
      have s1 : ∀ u, (E u).cell? ⟨gs, 1, none⟩ = some (.slice pw lw cw) := fun u => cell_of_row _ _ 1 _ _ _ ((hF1 u).heap RR.out)
      have s2 : ∀ u, (E u).cell? ⟨gs, 2, none⟩ = some (.slice pt lt ct) := fun u => cell_of_row _ _ 2 _ _ _ ((hF1 u).heap RR.out)
      have s3 : ∀ u, (E u).cell? ⟨gs, 3, none⟩ = some (.slice (some ⟨sb, so, none⟩) N cs) := fun u => cell_of_row _ _ 3 _ _ _ ((hF1 u).heap RR.out)
      have s4 : ∀ u, (E u).cell? ⟨gs, 4, none⟩ = some (.int .i64 sky) := fun u => cell_of_row _ _ 4 _ _ _ ((hF1 u).heap RR.out)
      have s5 : ∀ u, (E u).cell? ⟨gs, 5, none⟩ = some (.int .i64 st) := fun u => cell_of_row _ _ 5 _ _ _ ((hF1 u).heap RR.out)
      have xp : ∀ u, (E u).cell? ⟨sb, so + c, none⟩ = some (.float .f64 x) := fun u => (FSp.out c HC.out _ (HX.out u)).trans (by rw [HX2.out])
      have DD0 := HU.out _ (Ab.refl wr).drew
      clear hF1 hF2
      refine region_tail 13 E (by kernel_rfl) (by kernel_rfl) (by kernel_rfl) DD0 ?_
      simp only [List.take_succ_cons, List.take_zero, List.drop_succ_cons, List.drop_zero]
      repeat (go_big_quiet_step (first
        | (with_reducible rfl)
        | (go_at_call 15; exact calls_cls HU HU1 (CDc.out _ (HX.out _)))))
      refine wpQuiet_nil ?_
      intro vz hwz
      obtain ⟨u0, hu⟩ := hwz
      have AZ : Hid (Ab wr vz) := by rw [hu]; exact HU1.out u0
      clear hu u0
      clear HU HU1 HX DD0 s0 s1 s2 s3 s4 s5 xp
      clear E UU
      have OZ := hid (rowIs.ab OO.out AZ.out)
      have xc := OZ.out.cell HC.out
      have xf := OZ.out.frozen c
      go_wp2
      refine ⟨⟨c + 1, by have := HC.out; omega, by simp, (AR.out.trans AZ.out).setk LZ.out.1 _, ?_, (OZ.out.set c _).congr (fun i _ => ?_)⟩, by simp [intOf]; have := HC.out; omega⟩
      · rw [heap_set_ne LZ.out.2]; exact AZ.out.heap RR.out
      · by_cases e : i = c
        · simp [e, HY.out]
        · by_cases l : i < c
          · simp [e, l, show i < c + 1 by omega]
          · simp [e, l, show ¬ i < c + 1 by omega]
    · have e6 : N = c := by omega
      subst e6
      go_wp2
      go_ret2
      exact ⟨b, rfl, AR.out, OO.out.congr (fun i hi => by simp [hi]), LZ.out.1⟩
/-- what Depths is to answer -/
def DepthsC : Prop := ∀ (n gb : Nat) (k : Int) (pb : Option Addr) (lb cb : Nat) (B : Nat → Nat) (pw : Option Addr) (lw cw : Nat) (Wt : Nat → Int) (pt : Option Addr) (lt ct : Nat) (ps : Option Addr) (ls cs : Nat) (Sp : Nat → Nat) (sky st : Int) (w : World), (1 ≤ n ∧ n ≤ 32) → GridOf n gb w → IsFl w pb lb B → IsIn w pw lw Wt → IsFl w ps ls Sp →
    (((lb = 6 * n * n ∧ lw = 6 * n * n) ∧ ls = 12 * n * n ∧ (0 ≤ k ∧ k ≤ 3)) → Calls Tryd.prog 10 #[.pointer (some ⟨gb, 0, none⟩), .int .i64 k, .agg #[.slice pb lb cb, .slice pw lw cw, .slice pt lt ct, .slice ps ls cs, .int .i64 sky, .int .i64 st]] w fun e w' => ∃ b, e = .returned (.tuple #[.slice (some ⟨b, 0, none⟩) (12 * n * n) (12 * n * n), .int .i64 0]) ∧ Below w.heap.size w w' ∧ w'.rowIs b 33 (12 * n * n) (fun i => .float .f64 (rdAll n k lb lw B Wt (i : Nat) (Sp i))) ∧ w.heap.size ≤ b) ∧
    (¬ ((lb = 6 * n * n ∧ lw = 6 * n * n) ∧ ls = 12 * n * n ∧ (0 ≤ k ∧ k ≤ 3)) → Calls Tryd.prog 10 #[.pointer (some ⟨gb, 0, none⟩), .int .i64 k, .agg #[.slice pb lb cb, .slice pw lw cw, .slice pt lt ct, .slice ps ls cs, .int .i64 sky, .int .i64 st]] w fun e w' => e = .returned (.tuple #[.slice none 0 0, .int .i64 1]) ∧ Below w.heap.size w w')
theorem edges_n2 {n : Nat} (hn : 1 ≤ n ∧ n ≤ 32) : 1 ≤ 12 * n * n ∧ 12 * n * n ≤ 12288 := by
  have h := Nat.mul_le_mul hn.2 hn.2
  have h2 := Nat.mul_le_mul hn.1 hn.1
  rw [Nat.mul_assoc]
  omega
set_option maxRecDepth 100000 in
theorem depthsC : DepthsC := by
  intro n gb k pb lb cb B pw lw cw Wt pt lt ct ps ls cs Sp sky st w hn g hB hW hS
  have en := edges_n2 hn
  have CC : Hid (∀ v, Ab w v → Calls Tryd.prog 7 #[.pointer (some ⟨gb, 0, none⟩)] v fun e w' => e = .returned (.int .i64 (6 * n * n : Nat)) ∧ Below v.heap.size v w') := fun v hv => (gCells_at (g.to hv)).mono fun _ _ h => ⟨h.1, by obtain ⟨_, rfl⟩ := h; exact Below.refl _ _⟩
  have CE : Hid (∀ v, Ab w v → Calls Tryd.prog 8 #[.pointer (some ⟨gb, 0, none⟩)] v fun e w' => e = .returned (.int .i64 (12 * n * n : Nat)) ∧ w' = v) := fun v hv => gEdges_at (g.to hv)
  have CEb : Hid (∀ v, Ab w v → Calls Tryd.prog 8 #[.pointer (some ⟨gb, 0, none⟩)] v fun e w' => e = .returned (.int .i64 (12 * n * n : Nat)) ∧ Below v.heap.size v w') := fun v hv => (gEdges_at (g.to hv)).mono fun _ _ h => ⟨h.1, by obtain ⟨_, rfl⟩ := h; exact Below.refl _ _⟩
  have CVa : Hid (∀ v : World, Calls Tryd.prog 18 #[.int .i64 k] v fun e w' => e = .returned (.bool (decide (0 ≤ k ∧ k ≤ 3))) ∧ Below v.heap.size v w') := fun v => valid_at k v
  refine ⟨fun fit => ?_, fun no => ?_⟩
  · obtain ⟨⟨rfl, rfl⟩, rfl, hk⟩ := fit
    obtain ⟨sb, so, rfl⟩ := hS.some0 (by omega)
    rw [decide_eq_true hk] at CVa
    exact dps12_go gb pb pw pt _ cb _ cw lt ct sb so cs sky st k (12 * n * n) Sp (fun i => rdAll n k (6 * n * n) (6 * n * n) B Wt (i : Nat) (Sp i)) w (by omega)
      (fun v hv => fit12_at (.pointer (some ⟨gb, 0, none⟩)) pb pw pt _ _ cb _ cw lt ct _ cs sky st (6 * n * n) true v (.inr ⟨by simp, by simp⟩) (fun z hz => CC.out z (hv.trans hz))) CE CVa
      (fun c hc v hv => (Below.cell hv (hS.at0 hc).2.1).trans (hS.at0 hc).2.2)
      (fun c hc v hv => depthC n gb k pb _ cb B pw _ cw Wt pt lt ct _ _ cs sky st (c : Nat) (Sp c) v hn (g.to hv) (hB.below hv) (hW.below hv) (hS.at0 hc).1)
  · have ft : ∀ q : Bool, ((((lb : Int) == ((6 * n * n : Nat) : Int)) = false ∧ q = false) ∨ (((lb : Int) == ((6 * n * n : Nat) : Int)) = true ∧ ((lw : Int) == ((6 * n * n : Nat) : Int)) = q)) → ∀ v, Ab w v → Calls Tryd.prog 17 #[.pointer (some ⟨gb, 0, none⟩), .agg #[.slice pb lb cb, .slice pw lw cw, .slice pt lt ct, .slice ps ls cs, .int .i64 sky, .int .i64 st]] v fun e w' => e = .returned (.bool q) ∧ Below v.heap.size v w' := fun q hq v hv => fit12_at (.pointer (some ⟨gb, 0, none⟩)) pb pw pt ps lb cb lw cw lt ct ls cs sky st (6 * n * n) q v hq (fun z hz => CC.out z (hv.trans hz))
    by_cases c1 : lb = 6 * n * n ∧ lw = 6 * n * n
    · have f := ft true (.inr ⟨by rw [c1.1]; simp, by rw [c1.2]; simp⟩)
      by_cases c2 : ls = 12 * n * n
      · have c3 : ¬ (0 ≤ k ∧ k ≤ 3) := fun h => no ⟨c1, c2, h⟩
        exact dps12_no gb pb pw pt ps lb cb lw cw lt ct ls cs sky st k (12 * n * n) true _ w (.inr (.inr ⟨rfl, by rw [c2]; simp, decide_eq_false c3⟩)) f CEb CVa
      · exact dps12_no gb pb pw pt ps lb cb lw cw lt ct ls cs sky st k (12 * n * n) true _ w (.inr (.inl ⟨rfl, by rw [bne_iff_ne]; omega⟩)) f CEb CVa
    · have f := ft false (by
        by_cases c2 : lb = 6 * n * n
        · exact .inr ⟨by rw [c2]; simp, by rw [beq_eq_false_iff_ne]; omega⟩
        · exact .inl ⟨by rw [beq_eq_false_iff_ne]; omega, rfl⟩)
      exact dps12_no gb pb pw pt ps lb cb lw cw lt ct ls cs sky st k (12 * n * n) false _ w (.inl rfl) f CEb CVa
end Go.Proofs.YtbhgfmoopmlnjaaDoor
