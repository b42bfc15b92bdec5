/-
  Some of the texts of this proof, one behind the other.
-/
import Derived.Test.YtjgbaenihkplpaaDoorZ18
import Derived.Test.YtjgbaenihkplpaaDoorZ19
import Derived.Test.YtjgbaenihkplpaaDoorZ16
import Derived.Test.YtjgbaenihkplpaaDoorZ17
import Derived.Test.YtjgbaenihkplpaaDoorZ12
import Derived.Test.YtjgbaenihkplpaaDoorZ05
import Derived.Test.YtjgbaenihkplpaaDoorTie
import Derived.Test.YtjgbaenihkplpaaDoorCards
import Derived.ProofKit
import Derived.LaidMore
import Derived.OpenShut
import Derived.Stop.Joined
import Derived.Carry
import Derived.Lib.SmallJoins
import Derived.WalkLawsBesides
/-
  The depth over an edge at all arguments: what the program returns.
-/
namespace Go.Proofs.YtjgbaenihkplpaaDoor
open Go.RowKit Tf Cu
set_option maxRecDepth 100000 in
theorem dp12_go {n gb : Nat} (k : Int) (bb bo wb wo cb cw : Nat) (pt ps : Option Addr) (lt ct ls cs : Nat) (sky st : Int) {B : Nat → Nat} {Wt : Nat → Int} {U D K : Nat} (e : Int) (u : Nat) (w : World) (hn : 1 ≤ n ∧ n ≤ 32) (cU : U < 6 * n * n) (cD : D < 6 * n * n) (cK : K < 6 * n * n) (g : GridOf n gb w)
    (hB : IsFl w (some ⟨bb, bo, none⟩) (6 * n * n) B) (hW : IsIn w (some ⟨wb, wo, none⟩) (6 * n * n) Wt)
    (CF : Hid (∀ v, Ab w v → Calls Tryd.prog 27 #[.pointer (some ⟨gb, 0, none⟩), .agg #[.slice (some ⟨bb, bo, none⟩) (6 * n * n) cb, .slice (some ⟨wb, wo, none⟩) (6 * n * n) cw, .slice pt lt ct, .slice ps ls cs, .int .i64 sky, .int .i64 st]] v fun e w' => e = .returned (.bool true) ∧ Below v.heap.size v w'))
    (CW : Hid (∀ v, Ab w v → Calls Tryd.prog 28 #[.pointer (some ⟨gb, 0, none⟩), .int .i64 e, .float .f64 u] v fun e w' => e = .returned (.tuple #[.agg #[.int .i64 (U : Nat), .int .i64 (D : Nat), .int .i64 (K : Nat)], .bool true]) ∧ Below v.heap.size v w')) :
    Calls Tryd.prog 11 #[.pointer (some ⟨gb, 0, none⟩), .int .i64 k, .agg #[.slice (some ⟨bb, bo, none⟩) (6 * n * n) cb, .slice (some ⟨wb, wo, none⟩) (6 * n * n) cw, .slice pt lt ct, .slice ps ls cs, .int .i64 sky, .int .i64 st], .int .i64 e, .float .f64 u] w fun e w' => e = .returned (.float .f64 (ovC k (arC n) B Wt U D K)) ∧ Below w.heap.size w w' := by
  have bU := hB.at0 cU
  have bD := hB.at0 cD
  have wU := hW.at0 cU
  have wD := hW.at0 cD
  have wK := hW.at0 cK
  unfold ovC rcR
  have FW : ∀ v, Ab w v → v.cell? ⟨wb, wo + U, none⟩ = some (.int .i64 (Wt U)) ∧ v.cell? ⟨bb, bo + U, none⟩ = some (.float .f64 (B U)) ∧ v.cell? ⟨bb, bo + D, none⟩ = some (.float .f64 (B D)) := fun v hv =>
    ⟨(Below.cell hv wU.2.1).trans wU.2.2, (Below.cell hv bU.2.1).trans bU.2.2, (Below.cell hv bD.2.1).trans bD.2.2⟩
  have DU : ∀ v, Ab w v → Calls Tryd.prog 59 #[.pointer (some ⟨gb, 0, none⟩), .agg #[.slice (some ⟨bb, bo, none⟩) (6 * n * n) cb, .slice (some ⟨wb, wo, none⟩) (6 * n * n) cw, .slice pt lt ct, .slice ps ls cs, .int .i64 sky, .int .i64 st], .int .i64 (U : Nat)] v fun e w' => e = .returned (.float .f64 (dpB (Wt U) (arC n U))) ∧ Below v.heap.size v w' := (fun v hv => dof12_at (.pointer (some ⟨gb, 0, none⟩)) bb bo wb wo (6 * n * n) cb cw pt ps lt ct ls cs sky st U (Wt U) (arC n U) _ v (by omega) (fun z hz => (Below.cell (hv.trans hz) wU.2.1).trans wU.2.2) (fun z hz => gArea_ok hn cU (g.to (hv.trans hz))) (fun z => (depth_at _ _ z wU.1 (arC_in n _).2).mono fun _ _ h => ⟨h.1, by obtain ⟨_, j, rfl⟩ := h; exact below_drewN (Below.refl _ _) j⟩))
  have DK : ∀ v, Ab w v → Calls Tryd.prog 59 #[.pointer (some ⟨gb, 0, none⟩), .agg #[.slice (some ⟨bb, bo, none⟩) (6 * n * n) cb, .slice (some ⟨wb, wo, none⟩) (6 * n * n) cw, .slice pt lt ct, .slice ps ls cs, .int .i64 sky, .int .i64 st], .int .i64 (K : Nat)] v fun e w' => e = .returned (.float .f64 (dpB (Wt K) (arC n K))) ∧ Below v.heap.size v w' := (fun v hv => dof12_at (.pointer (some ⟨gb, 0, none⟩)) bb bo wb wo (6 * n * n) cb cw pt ps lt ct ls cs sky st K (Wt K) (arC n K) _ v (by omega) (fun z hz => (Below.cell (hv.trans hz) wK.2.1).trans wK.2.2) (fun z hz => gArea_ok hn cK (g.to (hv.trans hz))) (fun z => (depth_at _ _ z wK.1 (arC_in n _).2).mono fun _ _ h => ⟨h.1, by obtain ⟨_, j, rfl⟩ := h; exact below_drewN (Below.refl _ _) j⟩))
  have DD : ∀ v, Ab w v → Calls Tryd.prog 59 #[.pointer (some ⟨gb, 0, none⟩), .agg #[.slice (some ⟨bb, bo, none⟩) (6 * n * n) cb, .slice (some ⟨wb, wo, none⟩) (6 * n * n) cw, .slice pt lt ct, .slice ps ls cs, .int .i64 sky, .int .i64 st], .int .i64 (D : Nat)] v fun e w' => e = .returned (.float .f64 (dpB (Wt D) (arC n D))) ∧ Below v.heap.size v w' := (fun v hv => dof12_at (.pointer (some ⟨gb, 0, none⟩)) bb bo wb wo (6 * n * n) cb cw pt ps lt ct ls cs sky st D (Wt D) (arC n D) _ v (by omega) (fun z hz => (Below.cell (hv.trans hz) wD.2.1).trans wD.2.2) (fun z hz => gArea_ok hn cD (g.to (hv.trans hz))) (fun z => (depth_at _ _ z wD.1 (arC_in n _).2).mono fun _ _ h => ⟨h.1, by obtain ⟨_, j, rfl⟩ := h; exact below_drewN (Below.refl _ _) j⟩))
  have fU : dpB (Wt U) (arC n U) < 9218868437227405312 := by have := dp_le wU.1 (arC_in n U).2; omega
  have fK : dpB (Wt K) (arC n K) < 9218868437227405312 := by have := dp_le wK.1 (arC_in n K).2; omega
  have fD : dpB (Wt D) (arC n D) < 9218868437227405312 := by have := dp_le wD.1 (arC_in n D).2; omega
  have hx := minus_some fU fK
  have hy := minus_some fD fU
  have lx := (sub_isC (by omega) hx (by omega)).1
  have ly := (sub_isC (by omega) hy (by omega)).1
  have sN := slp_N k (sbB (dpB (Wt U) (arC n U)) (dpB (Wt K) (arC n K))) (sbB (dpB (Wt D) (arC n D)) (dpB (Wt U) (arC n U)))
  have sl := slp_lt k (sbB (dpB (Wt U) (arC n U)) (dpB (Wt K) (arC n K))) (sbB (dpB (Wt D) (arC n D)) (dpB (Wt U) (arC n U)))
  have hm := half_some sl sN
  have hf := half_N sl sN
  have hv0 := plus_some fU hf.2 hf.1
  have vl := rcV_lt (k := k) (hb := dpB (Wt K) (arC n K)) (hd := dpB (Wt D) (arC n D)) fU
  have ll := lvl_lt (b := B U) (w := Wt U) (a := arC n U) bU.1 wU.1 (arC_in n _).2
  have ml := maxB_lt (a := B U) (b := B D) bU.1 bD.1
  cases hs : Ieee.double.sub (lvl (B U) (Wt U) (arC n U)) (maxB (B U) (B D)) with
  | some z =>
    have hc := sub_isC ml hs ll
    rw [show rcG (lvl (B U) (Wt U) (arC n U)) (B U) (B D) = sbB (lvl (B U) (Wt U) (arC n U)) (maxB (B U) (B D)) from rfl, ← pos0_c vl hc]
    exact dp12_some (.pointer (some ⟨gb, 0, none⟩)) bb bo wb wo (6 * n * n) cb cw pt ps lt ct ls cs sky st k e u w U D K _ _ _ CF CW
      (fun v hv => fwd12_at (.pointer (some ⟨gb, 0, none⟩)) bb bo wb wo (6 * n * n) cb cw pt ps lt ct ls cs sky st k U D K _ _ _ _ _ _ _ _ v (fun z hz => DU z (hv.trans hz)) (fun z hz => DK z (hv.trans hz)) (fun z hz => DD z (hv.trans hz)) (fun z => slope_at k _ _ z lx ly) (fun t w => run_float_arith w .sub t .f64 _ _ _ hx) (fun t w => run_float_arith w .sub t .f64 _ _ _ hy) (fun t w => run_float_arith w .mul t .f64 _ _ _ hm) (fun t w => run_float_arith w .add t .f64 _ _ _ hv0)) z
      (fun v hv => gate12_some_at (.pointer (some ⟨gb, 0, none⟩)) bb bo wb wo (6 * n * n) cb cw pt ps lt ct ls cs sky st U D K (Wt U) (arC n U) (B U) (B D) _ _ v (by omega) (by omega) (fun z hz => FW z (hv.trans hz)) (fun z hz => gArea_ok hn cU (g.to (hv.trans hz))) (fun z => (level_at _ _ _ z bU.1 wU.1 (arC_in n _).2).mono fun _ _ h => ⟨h.1, by obtain ⟨_, j, rfl⟩ := h; exact below_drewN (Below.refl _ _) j⟩) (fun z => (max_any _ _ z bU.1 bD.1).mono fun _ _ h => ⟨h.1, by obtain ⟨_, rfl⟩ := h; exact Below.refl _ _⟩) z (fun t w => run_float_arith w .sub t .f64 _ _ _ hs)) (fun v => (min_any _ _ v vl hc.1).mono fun _ _ h => ⟨h.1, by obtain ⟨_, rfl⟩ := h; exact Below.refl _ _⟩) rfl
  | none =>
    have hN : isN (rcG (lvl (B U) (Wt U) (arC n U)) (B U) (B D)) = true := by
      unfold rcG sbB
      rw [addB_none (by rw [← sub_add _ _ ml]; exact hs)]
      decide
    rw [minB_nan (.inr hN)]
    exact dp12_none (.pointer (some ⟨gb, 0, none⟩)) bb bo wb wo (6 * n * n) cb cw pt ps lt ct ls cs sky st k e u w U D K _ _ _ CF CW
      (fun v hv => fwd12_at (.pointer (some ⟨gb, 0, none⟩)) bb bo wb wo (6 * n * n) cb cw pt ps lt ct ls cs sky st k U D K _ _ _ _ _ _ _ _ v (fun z hz => DU z (hv.trans hz)) (fun z hz => DK z (hv.trans hz)) (fun z hz => DD z (hv.trans hz)) (fun z => slope_at k _ _ z lx ly) (fun t w => run_float_arith w .sub t .f64 _ _ _ hx) (fun t w => run_float_arith w .sub t .f64 _ _ _ hy) (fun t w => run_float_arith w .mul t .f64 _ _ _ hm) (fun t w => run_float_arith w .add t .f64 _ _ _ hv0))
      (fun v hv => gate12_none_at (.pointer (some ⟨gb, 0, none⟩)) bb bo wb wo (6 * n * n) cb cw pt ps lt ct ls cs sky st U D K (Wt U) (arC n U) (B U) (B D) _ _ v (by omega) (by omega) (fun z hz => FW z (hv.trans hz)) (fun z hz => gArea_ok hn cU (g.to (hv.trans hz))) (fun z => (level_at _ _ _ z bU.1 wU.1 (arC_in n _).2).mono fun _ _ h => ⟨h.1, by obtain ⟨_, j, rfl⟩ := h; exact below_drewN (Below.refl _ _) j⟩) (fun z => (max_any _ _ z bU.1 bD.1).mono fun _ _ h => ⟨h.1, by obtain ⟨_, rfl⟩ := h; exact Below.refl _ _⟩) (fun t w => run_nan_sub w t _ _ hs)) (fun z hz1 hz2 v => by
        have h := min_any (rcV k (dpB (Wt U) (arC n U)) (dpB (Wt K) (arC n K)) (dpB (Wt D) (arC n D))) z v vl hz1
        rw [minB_nan (.inr hz2)] at h
        exact (h).mono fun _ _ h => ⟨h.1, by obtain ⟨_, rfl⟩ := h; exact Below.refl _ _⟩) rfl
theorem depthC : DepthC := by
  intro n gb k pb lb cb B pw lw cw Wt pt lt ct ps ls cs sky st e u w hn g hB hW hu
  have CC : Hid (∀ v, Ab w v → Calls Tryd.prog 21 #[.pointer (some ⟨gb, 0, none⟩)] v fun e w' => e = .returned (.int .i64 (6 * n * n : Nat)) ∧ Below v.heap.size v w') := fun v hv => (gCells_at (g.to hv)).mono fun _ _ h => ⟨h.1, by obtain ⟨_, rfl⟩ := h; exact Below.refl _ _⟩
  by_cases c : lb = 6 * n * n ∧ lw = 6 * n * n
  · obtain ⟨rfl, rfl⟩ := c
    have CF : Hid (∀ v, Ab w v → Calls Tryd.prog 27 #[.pointer (some ⟨gb, 0, none⟩), .agg #[.slice pb (6 * n * n) cb, .slice pw (6 * n * n) cw, .slice pt lt ct, .slice ps ls cs, .int .i64 sky, .int .i64 st]] v fun e w' => e = .returned (.bool true) ∧ Below v.heap.size v w') := fun v hv => fit12_at (.pointer (some ⟨gb, 0, none⟩)) pb pw pt ps _ cb _ cw lt ct ls cs sky st (6 * n * n) true v (.inr ⟨by simp, by simp⟩) (fun z hz => CC.out z (hv.trans hz))
    cases h : inR e (12 * n * n : Nat) with
    | false =>
      rw [rdAll_no (fun q => by rw [h] at q; exact absurd q.1 (by decide))]
      exact dp12_noway (.pointer (some ⟨gb, 0, none⟩)) pb pw pt ps _ cb _ cw lt ct ls cs sky st k e u w CF (fun v hv => wo12_no (.pointer (some ⟨gb, 0, none⟩)) e u v (fun z hz => gEdge_no h (g.to (hv.trans hz))))
    | true =>
      obtain ⟨E, rfl, hE⟩ := inR_nat h
      obtain ⟨t1, t2, t3⟩ := edT_spec hn.1 hE
      rw [← t3]
      have mtd := mt_dec hn.1 t1
      have cL := t_cell t1
      have cR : bsC n (edT n E / 4) (edT n E % 4) < 6 * n * n := by rw [← mtd.1]; exact t_cell (mt_lt hn.1 t1)
      have cp : bsC n (edT n E / 4) ((edT n E % 4 + 2) % 4) < 6 * n * n := bk_lt hn.1 t1
      have cq : bsC n (bsC n (edT n E / 4) (edT n E % 4)) ((bsS n (edT n E / 4) (edT n E % 4) + 2) % 4) < 6 * n * n := by
        have := bk_lt hn.1 (mt_lt hn.1 t1)
        unfold bkC at this
        rwa [mtd.1, mtd.2] at this
      obtain ⟨bb, bo, rfl⟩ := hB.some0 (six_pos hn.1)
      obtain ⟨wb, wo, rfl⟩ := hW.some0 (six_pos hn.1)
      rw [rdAll_eN hn.1 t1 t2]
      cases p : fgt u 0 with
      | true =>
        have e : sdD n k (arC n) B Wt (edT n E) = ovC k (arC n) B Wt (edT n E / 4) (bsC n (edT n E / 4) (edT n E % 4)) (bsC n (edT n E / 4) ((edT n E % 4 + 2) % 4)) := by
          unfold sdD
          rw [mtd.1]; rfl
        rw [rdT_p p, e]
        exact dp12_go k bb bo wb wo cb cw pt ps lt ct ls cs sky st _ u w hn cL cR cp g hB hW CF (fun v hv => wo12_pos (.pointer (some ⟨gb, 0, none⟩)) _ u _ _ _ _ _ _ v p (fun z hz => gEdge_ok hn t1 t2 (g.to (hv.trans hz))) (fun z hz => gBehind_ok hn t1 t2 (g.to (hv.trans hz))))
      | false =>
        cases q : flt u 0 with
        | true =>
          have e : sdD n k (arC n) B Wt (mt n (edT n E)) = ovC k (arC n) B Wt (bsC n (edT n E / 4) (edT n E % 4)) (edT n E / 4) (bsC n (bsC n (edT n E / 4) (edT n E % 4)) ((bsS n (edT n E / 4) (edT n E % 4) + 2) % 4)) := by
            unfold sdD
            rw [mt_mt hn.1 t1, mtd.1]; unfold bkC; rw [mtd.1, mtd.2]
          rw [rdT_n p q, e]
          exact dp12_go k bb bo wb wo cb cw pt ps lt ct ls cs sky st _ u w hn cR cL cq g hB hW CF (fun v hv => wo12_neg (.pointer (some ⟨gb, 0, none⟩)) _ u _ _ _ _ _ _ v p q (fun z hz => gEdge_ok hn t1 t2 (g.to (hv.trans hz))) (fun z hz => gBehind_ok hn t1 t2 (g.to (hv.trans hz))))
        | false =>
          rw [rdT_0 p q]
          exact dp12_noway (.pointer (some ⟨gb, 0, none⟩)) (some ⟨bb, bo, none⟩) (some ⟨wb, wo, none⟩) pt ps _ cb _ cw lt ct ls cs sky st k _ u w CF (fun v hv => wo12_still (.pointer (some ⟨gb, 0, none⟩)) _ u _ _ _ _ _ _ v p q (fun z hz => gEdge_ok hn t1 t2 (g.to (hv.trans hz))) (fun z hz => gBehind_ok hn t1 t2 (g.to (hv.trans hz))))
  · rw [rdAll_no (fun q => c q.2)]
    refine dp12_nofit (.pointer (some ⟨gb, 0, none⟩)) pb pw pt ps lb cb lw cw lt ct ls cs sky st k e u w (fun v hv => fit12_at (.pointer (some ⟨gb, 0, none⟩)) pb pw pt ps lb cb lw cw lt ct ls cs sky st (6 * n * n) false v ?_ (fun z hz => CC.out z (hv.trans hz)))
    by_cases c1 : lb = 6 * n * n
    · exact .inr ⟨by rw [c1]; simp, by rw [beq_eq_false_iff_ne]; omega⟩
    · exact .inl ⟨by rw [beq_eq_false_iff_ne]; omega, rfl⟩
end Go.Proofs.YtjgbaenihkplpaaDoor

/-
  A net by its cells' sides; turns change no size: walks over the program.
-/
namespace Go.Proofs.YtjgbaenihkplpaaDoor
open Go.RowKit Cu Tf
theorem gAround_n {n gb c s : Nat} {w : World} (hn : 1 ≤ n ∧ n ≤ 32) (hc : c < 6 * n * n) (hs : s < 4) (g : GridOf n gb w) :
    Calls Tryd.prog 24 #[.pointer (some ⟨gb, 0, none⟩), .int .i64 c, .int .i64 s] w fun e w' => e = .returned (.tuple #[.int .i64 (eE n (4 * c + s) : Nat), .int .i64 (eS n (4 * c + s))]) ∧ Below w.heap.size w w' := by
  have h12 := n12 hn
  have h := gAround_at (c := c) (s := s) (W64_of (by omega)) (W64_of (by omega)) g
  rw [gT_end hn.1 hc hs] at h
  exact h
theorem edT_eE {n t : Nat} (hn : 1 ≤ n) (ht : t < 24 * n * n) : edT n (eE n t) = t ∨ edT n (eE n t) = mt n t := by
  unfold eE
  cases hl : isL n t with
  | true => exact .inl (edT_eN hn ht hl)
  | false => exact .inr (edT_eN hn (mt_lt hn ht) (by rw [isL_mt hn ht, hl]; rfl))
theorem gap_beside {n c s : Nat} (hn : 1 ≤ n) (hc : c < 6 * n * n) (hs : s < 4) : GpC n (bsC n c s) (bsS n c s) = GpC n c s := by
  unfold GpC; rw [(bs_back hn hc hs).1, gp_comm]
theorem len_eE {n c s : Nat} (hn : 1 ≤ n) (hc : c < 6 * n * n) (hs : s < 4) : LnC n (edT n (eE n (4 * c + s)) / 4) (edT n (eE n (4 * c + s)) % 4) = LnC n c s ∧ GpC n (edT n (eE n (4 * c + s)) / 4) (edT n (eE n (4 * c + s)) % 4) = GpC n c s := by
  have ht := t_lt hc hs
  have hd := t_dec (c := c) hs
  obtain ⟨b1, b2⟩ := bs_lt hn hc hs
  rcases edT_eE hn ht with h | h
  · rw [h, hd.1, hd.2]; exact ⟨rfl, rfl⟩
  · rw [h, (mt_dec hn ht).1, (mt_dec hn ht).2, hd.1, hd.2]
    exact ⟨len_beside hn hc hs b1 b2, gap_beside hn hc hs⟩
theorem rawSame9 (x : Nat) (v : World) : Calls Tryd.prog 13 #[.float .f64 x, .float .f64 x] v fun e w' => e = .returned (.bool true) ∧ w' = v := by
  have h := rawSame_any x x v
  rw [show sameB x x = true by unfold sameB; simp] at h
  exact h
theorem tn_lt9 {n t c : Nat} (hn : 1 ≤ n) (hc : c < 6 * n * n) (ht : t < 24) : tnC n t c < 6 * n * n ∧ tnS n t c < 4 := by
  obtain ⟨h1, h2, h3, -⟩ := dec_lt hn hc
  obtain ⟨t1, t2⟩ := tf_lt t ht _ h1
  exact ⟨Pn_lt t1 h2 h3, t2⟩
end Go.Proofs.YtjgbaenihkplpaaDoor

/-
  Turned seas: the statement's call at all inputs.
-/
namespace Go.Proofs.YtjgbaenihkplpaaDoor
open Go.RowKit Tf Cu
theorem fs_p : floatOfInt .f64 1 = 4607182418800017408 := by decide +kernel
theorem fs_n : floatOfInt .f64 (-1) = 13830554455654793216 := by decide +kernel
theorem ml_pp : Ieee.double.mul 4607182418800017408 4607182418800017408 = some 4607182418800017408 := by decide +kernel
theorem ml_pn : Ieee.double.mul 4607182418800017408 13830554455654793216 = some 13830554455654793216 := by decide +kernel
theorem ml_np : Ieee.double.mul 13830554455654793216 4607182418800017408 = some 13830554455654793216 := by decide +kernel
theorem ml_nn2 : Ieee.double.mul 13830554455654793216 13830554455654793216 = some 4607182418800017408 := by decide +kernel
set_option maxRecDepth 100000 in
theorem turned12_at (DC : DepthC) (side lim : Int) {pb pw pt ps : Option Addr} {lb cb lw cw lt ct ls cs : Nat} {B : Nat → Nat} {Wt Tr : Nat → Int} {Sp : Nat → Nat} (sky st : Int) (turn e : Int) (w : World) (hF : Fr w) (sea : SeaAt w pb lb cb B pw lw cw Wt pt lt ct Tr ps ls cs Sp) :
    Calls Tryd.prog 6 #[.agg #[.int .i64 side, .int .i64 lim, .slice pb lb cb, .slice pw lw cw, .slice pt lt ct, .slice ps ls cs, .int .i64 sky, .int .i64 st], .int .i64 turn, .int .i64 e] w fun e w' => e = .returned (.bool true) ∧ Below w.heap.size w w' := by
  have AWK : Hid (∀ v, Ab w v → Calls Tryd.prog 7 #[] v fun e w' => e = .returned (.bool true) ∧ Below v.heap.size v w') := fun v hv => awake12_at DC v (hF.to hv)
  rcases net12_cases side lim pb pw pt ps lb cb lw cw lt ct ls cs sky st w hF with ⟨n, hn, rfl, rfl, rfl, NT⟩ | NT
  · have en := edges_n hn
    have cn : 6 * n * n ≤ 6144 := by
      have h := Nat.mul_le_mul hn.2 hn.2
      rw [Nat.mul_assoc]
      omega
    have hB := sea.bed
    have hW := sea.water
    obtain ⟨bb, bo, rfl⟩ := hB.some0 (six_pos hn.1)
    obtain ⟨wb, wo, rfl⟩ := hW.some0 (six_pos hn.1)
    have CI : Hid (∀ gb v, GridOf n gb v → Calls Tryd.prog 22 #[.pointer (some ⟨gb, 0, none⟩)] v fun e w' => e = .returned (.int .i64 (n : Nat)) ∧ w' = v) := fun gb v g => gSide_at g
    by_cases h8 : 8 < (n : Int)
    · exact turned12_big n lim bb bo wb wo (6 * n * n) pt ps cb cw lt ct ls cs sky st turn e n w h8 AWK NT CI
    obtain ⟨t1, t2, t3⟩ := edT_spec hn.1 (wi9_lt e en.1)
    have mtd := mt_dec hn.1 t1
    have ht := wi9_lt turn (n := 24) (by omega)
    have CC : Hid (∀ gb v, GridOf n gb v → Calls Tryd.prog 21 #[.pointer (some ⟨gb, 0, none⟩)] v fun e w' => e = .returned (.int .i64 (6 * n * n : Nat)) ∧ w' = v) := fun gb v g => gCells_at g
    have CE : Hid (∀ gb v, GridOf n gb v → Calls Tryd.prog 10 #[.pointer (some ⟨gb, 0, none⟩)] v fun e w' => e = .returned (.int .i64 (12 * n * n : Nat)) ∧ Below v.heap.size v w') := fun gb v g => (gEdges_at g).mono fun _ _ h => ⟨h.1, by obtain ⟨_, rfl⟩ := h; exact Below.refl _ _⟩
    have CW1 : Hid (∀ v : World, Calls Tryd.prog 9 #[.int .i64 turn, .int .i64 24] v fun e' w' => e' = .returned (.int .i64 (wi9 turn 24 : Nat)) ∧ Below v.heap.size v w') := fun v => (within12_at turn 24 v (by omega)).mono fun _ _ h => ⟨h.1, by obtain ⟨_, rfl⟩ := h; exact Below.refl _ _⟩
    have CW2 : Hid (∀ v : World, Calls Tryd.prog 9 #[.int .i64 e, .int .i64 (12 * n * n : Nat)] v fun e' w' => e' = .returned (.int .i64 (wi9 e (12 * n * n) : Nat)) ∧ Below v.heap.size v w') := fun v => (within12_at e (12 * n * n) v en).mono fun _ _ h => ⟨h.1, by obtain ⟨_, rfl⟩ := h; exact Below.refl _ _⟩
    have CD : ∀ u, u < 18446744073709551616 → ∀ gb v, GridOf n gb v → Ab w v → Calls Tryd.prog 11 #[.pointer (some ⟨gb, 0, none⟩), .int .i64 lim, .agg #[.slice (some ⟨bb, bo, none⟩) (6 * n * n) cb, .slice (some ⟨wb, wo, none⟩) (6 * n * n) cw, .slice pt lt ct, .slice ps ls cs, .int .i64 sky, .int .i64 st], .int .i64 (wi9 e (12 * n * n) : Nat), .float .f64 u] v fun e' w' => e' = .returned (.float .f64 (rdAll n lim (6 * n * n) (6 * n * n) B Wt (wi9 e (12 * n * n) : Nat) u)) ∧ Below v.heap.size v w' := fun u hu gb v g a => DC n gb lim _ _ cb B _ _ cw Wt pt lt ct ps ls cs sky st _ u v hn g (sea.bed.below a) (sea.water.below a) hu
    have C0 := CD 4607182418800017408 (by decide)
    have C1 := CD 13830554455654793216 (by decide)
    rw [← t3] at CW2 C0 C1
    generalize edT n (wi9 e (12 * n * n)) = t at *
    generalize wi9 turn 24 = r at *
    rw [rdAll_eN hn.1 t1 t2, rdT_p (by decide)] at C0
    rw [rdAll_eN hn.1 t1 t2, rdT_n (by decide) (by decide)] at C1
    have cL := t_cell t1
    have tl := fun c hc => tn_lt9 (n := n) (t := r) (c := c) hn.1 hc ht
    have T1 := tnT_lt hn.1 t1 ht
    have A1 : ∀ c, c < 6 * n * n → arC n (tnC n r c) = arC n c := fun c hc => by
      show arI (ArC n (tnC n r c)) = arI (ArC n c)
      rw [area_turn hn.1 hn.2 hc ht (tl c hc).1]
    have S0 : ∀ fb fw, (∀ j, j < 6 * n * n → fb (tnC n r j) = B j ∧ fw (tnC n r j) = Wt j) → sdD n lim (arC n) fb fw (tnT n r t) = sdD n lim (arC n) B Wt t := fun fb fw q => sd_tn hn.1 t1 ht A1 (fun c hc => (q c hc).1) (fun c hc => (q c hc).2)
    have S1 : ∀ fb fw, (∀ j, j < 6 * n * n → fb (tnC n r j) = B j ∧ fw (tnC n r j) = Wt j) → sdD n lim (arC n) fb fw (mt n (tnT n r t)) = sdD n lim (arC n) B Wt (mt n t) := fun fb fw q => by
      rw [mt_tn hn.1 t1 ht]
      exact sd_tn hn.1 (mt_lt hn.1 t1) ht A1 (fun c hc => (q c hc).1) (fun c hc => (q c hc).2)
    have CR : ∀ gb v, GridOf n gb v → Calls Tryd.prog 24 #[.pointer (some ⟨gb, 0, none⟩), .int .i64 (tnC n r (t / 4) : Nat), .int .i64 ((t % 4 + tnS n r (t / 4)) % 4 : Nat)] v fun e w' => e = .returned (.tuple #[.int .i64 (eE n (tnT n r t) : Nat), .int .i64 (eS n (tnT n r t))]) ∧ Below v.heap.size v w' := fun gb v g => gAround_n hn (tl _ cL).1 (by omega) g
    have M0 := mt_mt hn.1 T1
    have cases2 : (isL n (tnT n r t) = true ∧ eE n (tnT n r t) = eN n (tnT n r t) ∧ eS n (tnT n r t) = 1) ∨ (isL n (mt n (tnT n r t)) = true ∧ eE n (tnT n r t) = eN n (mt n (tnT n r t)) ∧ eS n (tnT n r t) = -1) := by
      unfold eE eS
      cases hl : isL n (tnT n r t) with
      | true => exact .inl ⟨rfl, rfl, rfl⟩
      | false => exact .inr ⟨by rw [isL_mt hn.1 T1, hl]; rfl, rfl, rfl⟩
    have go := fun (fs us0 us1 : Nat) (hfs : floatOfInt .f64 (eS n (tnT n r t)) = fs) (m0 : Ieee.double.mul 4607182418800017408 fs = some us0) (m1 : Ieee.double.mul 13830554455654793216 fs = some us1) D2 D3 => turned12_go n lim bb bo wb wo (6 * n * n) pt ps cb cw lt ct ls cs sky st turn e n (12 * n * n) _ r _ _ _ _ _ _ (eS n (tnT n r t)) fs us0 us1 _ _ (tnC n r) (tnS n r) B Wt w cn h8 AWK NT CC CI CE CW1 CW2
      (fun c hc v hv => turn_at n r c v hn hc ht (hF.to hv)) (fun c hc => (tl c hc).1) (fun i j hi hj h => ((turned_geo (s := 0) (k := i) (c := j) hn.1 rfl hj (by decide) ht hi).2.2.2.1).1 h)
      (fun c hc v hv => (Below.cell hv (hB.at0 hc).2.1).trans (hB.at0 hc).2.2) (fun c hc v hv => (Below.cell hv (hW.at0 hc).2.1).trans (hW.at0 hc).2.2)
      (fun c hc => (hB.at0 hc).1) (fun c hc => (hW c hc).1) (fun gb v g => gEdge_ok hn t1 t2 g) cL (by omega) (by have := (tl _ cL).2; omega)
      (by
        rw [Int.tmod_eq_emod_of_nonneg (by omega)]
        omega) CR hfs (fun t w => run_float_arith w .mul t .f64 _ _ _ m0) (fun t w => run_float_arith w .mul t .f64 _ _ _ m1) C0 C1 D2 D3
    rcases cases2 with ⟨l1, l2, l3⟩ | ⟨l1, l2, l3⟩
    · rw [l3, l2] at go
      refine go 4607182418800017408 4607182418800017408 13830554455654793216 fs_p ml_pp ml_np (fun bB bW fb fw gb v g a i1 i2 q => by
      have h := DC n gb lim _ _ (6 * n * n) fb _ _ (6 * n * n) fw none 0 0 none 0 0 0 0 (eN n (tnT n r t) : Nat) 4607182418800017408 v hn g i1 i2 (by decide)
      rw [rdAll_eN hn.1 T1 l1, rdT_p (by decide), S0 fb fw q] at h
      exact h) (fun bB bW fb fw gb v g a i1 i2 q => by
      have h := DC n gb lim _ _ (6 * n * n) fb _ _ (6 * n * n) fw none 0 0 none 0 0 0 0 (eN n (tnT n r t) : Nat) 13830554455654793216 v hn g i1 i2 (by decide)
      rw [rdAll_eN hn.1 T1 l1, rdT_n (by decide) (by decide), S1 fb fw q] at h
      exact h)
    · rw [l3, l2] at go
      refine go 13830554455654793216 13830554455654793216 4607182418800017408 fs_n ml_pn ml_nn2 (fun bB bW fb fw gb v g a i1 i2 q => by
      have h := DC n gb lim _ _ (6 * n * n) fb _ _ (6 * n * n) fw none 0 0 none 0 0 0 0 (eN n (mt n (tnT n r t)) : Nat) 13830554455654793216 v hn g i1 i2 (by decide)
      rw [rdAll_eN hn.1 (mt_lt hn.1 T1) l1, rdT_n (by decide) (by decide), M0, S0 fb fw q] at h
      exact h) (fun bB bW fb fw gb v g a i1 i2 q => by
      have h := DC n gb lim _ _ (6 * n * n) fb _ _ (6 * n * n) fw none 0 0 none 0 0 0 0 (eN n (mt n (tnT n r t)) : Nat) 4607182418800017408 v hn g i1 i2 (by decide)
      rw [rdAll_eN hn.1 (mt_lt hn.1 T1) l1, rdT_p (by decide), S1 fb fw q] at h
      exact h)
  · exact turned12_no side lim pb pw pt ps lb cb lw cw lt ct ls cs sky st turn e w AWK NT
end Go.Proofs.YtjgbaenihkplpaaDoor

/-
  What the law's condition on the table of frames gives the walks; a struct of eight whole numbers.
-/
namespace Go.Proofs.YtjgbaenihkplpaaDoor
open Go.ChangeShapes Go.WideShapes Go.ChangeAt Go.WideMaps Go.WideElems Go.RowKit Cu

theorem own : ownKnob Tryd.prog.godebug = none := by kernel_rfl
theorem gFrames : Tryd.prog.globalNamed "tarn/cube.frames" = some 1 := by kernel_rfl
theorem tFrames : (Tryd.prog.globals[1]?).map (·.type) = some 114 := by kernel_rfl
theorem door_met (os : Os) (args : Array Value) : laidMetH Tryd.prog [("tarn/cube.frames", Rows.laid_tarn_cube_frames)] ((World.doorLaid Tryd.prog 400 os).forCall (fun _ _ => 0) ⟨#[], args, []⟩).memory :=
  laidMetH_of_parts3 (fuel := 8) (laidMet_of_run' 8 (by kernel_rfl) (by kernel_rfl)) (by kernel_rfl) (by kernel_rfl)
set_option maxRecDepth 100000 in
theorem pt_data {H : Type} {enc : TypeId × Value → H} {w : World} {base fuel : Nat} {spare : Nat → Bool} {held : Bool} {cs : List Value} {x : DataW H × List MemPlace} (h : DataW.trod enc Tryd.prog w base spare held fuel 88 cs = some x)
    (a b c : Int) (e : x.1 = .agg [.lit (.int .i64 a), .lit (.int .i64 b), .lit (.int .i64 c)]) : cs = [.int .i64 a, .int .i64 b, .int .i64 c] := by
  have k3 : Tryd.prog.cellsOf 3 = 1 := by kernel_rfl
  have kp : Tryd.prog.cellsOf 88 = 3 := by kernel_rfl
  obtain ⟨xs, m, _, hx, hlen, hn, hel⟩ := DataW.trod_array Tryd.underlying88 h
  rw [hx] at e
  match xs, hn, cs, hlen.trans kp with
  | [x0, x1, x2], _, [c0, c1, c2], _ =>
    have h0 := hel 0 (by decide)
    have h1 := hel 1 (by decide)
    have h2 := hel 2 (by decide)
    simp [k3] at h0 h1 h2
    obtain ⟨n0, e0, f0, _⟩ := DataW.trod_int Tryd.underlying3 h0
    obtain ⟨n1, e1, f1, _⟩ := DataW.trod_int Tryd.underlying3 h1
    obtain ⟨n2, e2, f2, _⟩ := DataW.trod_int Tryd.underlying3 h2
    simp at e0 e1 e2
    simp [f0, f1, f2] at e
    rw [e0, e1, e2, e.1, e.2.1, e.2.2]
set_option maxRecDepth 100000 in
theorem frame_data {H : Type} {enc : TypeId × Value → H} {w : World} {base fuel : Nat} {spare : Nat → Bool} {held : Bool} {cs : List Value} {x : DataW H × List MemPlace} (h : DataW.trod enc Tryd.prog w base spare held fuel 113 cs = some x)
    (p q r : P3) (e : x.1 = .agg [.agg [.lit (.int .i64 p.1), .lit (.int .i64 p.2.1), .lit (.int .i64 p.2.2)], .agg [.lit (.int .i64 q.1), .lit (.int .i64 q.2.1), .lit (.int .i64 q.2.2)], .agg [.lit (.int .i64 r.1), .lit (.int .i64 r.2.1), .lit (.int .i64 r.2.2)]]) :
    cs = [.int .i64 p.1, .int .i64 p.2.1, .int .i64 p.2.2, .int .i64 q.1, .int .i64 q.2.1, .int .i64 q.2.2, .int .i64 r.1, .int .i64 r.2.1, .int .i64 r.2.2] := by
  have kp : Tryd.prog.cellsOf 88 = 3 := by kernel_rfl
  have kf : Tryd.prog.cellsOf 113 = 9 := by kernel_rfl
  obtain ⟨xs, m, _, hx, hlen, hn, hel⟩ := DataW.trod_struct Tryd.underlying113 h
  rw [hx] at e
  match xs, hn, cs, hlen.trans kf with
  | [x0, x1, x2], _, [c0, c1, c2, c3, c4, c5, c6, c7, c8], _ =>
    have h0 := hel 0 _ rfl
    have h1 := hel 1 _ rfl
    have h2 := hel 2 _ rfl
    simp [kp] at h0 h1 h2
    simp at e
    have e0 := pt_data h0 _ _ _ e.1
    have e1 := pt_data h1 _ _ _ e.2.1
    have e2 := pt_data h2 _ _ _ e.2.2
    simp at e0 e1 e2
    simp [e0, e1, e2]
set_option maxRecDepth 100000 in
theorem table_data {H : Type} {enc : TypeId × Value → H} {w : World} {base fuel : Nat} {spare : Nat → Bool} {held : Bool} {cs : List Value} {x : DataW H × List MemPlace} (h : DataW.trod enc Tryd.prog w base spare held fuel 114 cs = some x)
    (e : x.1 = Rows.laid_tarn_cube_frames) : ∀ f, f < 6 → (cs.drop (f * 9)).take 9 = [.int .i64 (cC f).1, .int .i64 (cC f).2.1, .int .i64 (cC f).2.2, .int .i64 (cR f).1, .int .i64 (cR f).2.1, .int .i64 (cR f).2.2, .int .i64 (cU f).1, .int .i64 (cU f).2.1, .int .i64 (cU f).2.2] := by
  have kf : Tryd.prog.cellsOf 113 = 9 := by kernel_rfl
  obtain ⟨xs, m, _, hx, hlen, hn, hel⟩ := DataW.trod_array Tryd.underlying114 h
  rw [hx] at e
  intro f hf
  have h0 := hel f hf
  rw [kf] at h0
  match xs, hn with
  | [x0, x1, x2, x3, x4, x5], _ =>
    simp only [List.map_cons, List.map_nil, Rows.laid_tarn_cube_frames, DataW.agg.injEq, List.cons.injEq] at e
    rcases six hf with rfl | rfl | rfl | rfl | rfl | rfl
    · exact frame_data h0 (cC 0) (cR 0) (cU 0) e.1
    · exact frame_data h0 (cC 1) (cR 1) (cU 1) e.2.1
    · exact frame_data h0 (cC 2) (cR 2) (cU 2) e.2.2.1
    · exact frame_data h0 (cC 3) (cR 3) (cU 3) e.2.2.2.1
    · exact frame_data h0 (cC 4) (cR 4) (cU 4) e.2.2.2.2.1
    · exact frame_data h0 (cC 5) (cR 5) (cU 5) e.2.2.2.2.2.1
/-- WHAT THE CONDITION GIVES THE WALKS -/
theorem of_laid {W : World} (h : laidMetH Tryd.prog [("tarn/cube.frames", Rows.laid_tarn_cube_frames)] W) : Fr W := by
  rw [MakeChecks.laidMetH_plain _ _ _ (by kernel_rfl)] at h
  obtain ⟨ps, ⟨g0, t0, cs0, f0, p0, q0, hg0, ht0, hv0, hd0, _⟩, _⟩ := h
  obtain rfl := Option.some.inj (gFrames.symm.trans hg0)
  obtain rfl := Option.some.inj (tFrames.symm.trans ht0)
  have T := table_data hd0 rfl
  have C := World.var?_cell hg0 hv0
  have K : ∀ f, f < 6 → ∀ k, k < 9 → W.cell? ⟨1, f * 9 + k, none⟩ = ((cs0.toList.drop (f * 9)).take 9)[k]? := by
    intro f hf k hk
    rw [C, List.getElem?_take, if_pos hk, List.getElem?_drop]
    simp
  have N : ∀ f, f < 6 → Fr9 W f := by
    intro f hf
    have K := K f hf
    rw [T f hf] at K
    exact ⟨⟨K 0 (by omega), K 1 (by omega), K 2 (by omega)⟩, ⟨K 3 (by omega), K 4 (by omega), K 5 (by omega)⟩, ⟨K 6 (by omega), K 7 (by omega), K 8 (by omega)⟩⟩
  refine ⟨?_, N⟩
  have c0 := (N 0 (by omega)).1.1
  rcases Nat.lt_or_ge 1 W.heap.size with h1 | h1
  · exact h1
  · rw [World.cell?, Array.getElem?_eq_none h1] at c0; cases c0
end Go.Proofs.YtjgbaenihkplpaaDoor
