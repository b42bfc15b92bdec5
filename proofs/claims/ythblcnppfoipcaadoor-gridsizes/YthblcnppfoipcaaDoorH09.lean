/-
  Some of the texts of this proof, one behind the other.
-/
import Derived.Test.YthblcnppfoipcaaDoorTie
import Derived.Test.YthblcnppfoipcaaDoorCards
import Derived.ProofKit
import Derived.LaidMore
import Derived.OpenShut
import Derived.Stop.Joined
import Derived.Carry
import Derived.Lib.SmallJoins
import Derived.WalkLawsBesides
import Derived.Test.YthblcnppfoipcaaDoorH08
namespace Go.Proofs.YthblcnppfoipcaaDoor
open Go.RowKit Cu Tf
attribute [local go_sem] raw_feq raw_fne raw_flt raw_fgt
theorem pos_cmp {L : Nat} (h1 : 1 ≤ L) (h2 : L ≤ 4611686018427387904) : fgt L 0 = true := by
  have hm : mg L = L := mg_of_lt (by omega)
  have hn : ng L = false := ng_of_lt (by omega)
  have r1 : rk L = (L : Int) := by unfold rk; rw [hn, hm]; rfl
  have r2 : rk 0 = 0 := by decide
  have i1 : isN L = false := by rw [isN_false, hm]; omega
  have i2 : isN 0 = false := by decide
  rw [fgt_rk L 0 (by omega) (by omega), r1, r2, i1, i2]
  simp
  omega
set_option maxRecDepth 100000 in
set_option maxHeartbeats 16000000 in
theorem gridSizes_walk (a b c : Int) (w : World) (hF : Fr w) :
    Calls Tryd.prog 3 #[.int .i64 a, .int .i64 b, .int .i64 c] w fun e w' => e = .returned (.bool true) ∧ Below w.heap.size w w' := by
  obtain ⟨n, hnx⟩ : ∃ n, 1 + wi9 a 32 = n := ⟨_, rfl⟩
  have hn : 1 ≤ n ∧ n ≤ 32 := by have := wi9_lt a (n := 32) (by omega); omega
  have AWK := hid (awake9_at w hF)
  have NE : Hid (∀ v, Ab w v → Calls Tryd.prog 5 #[.int .i64 a] v fun e w' => ∃ gb, e = .returned (.pointer (some ⟨gb, 0, none⟩)) ∧ Ab v w' ∧ GridOf n gb w') := fun v hv => by rw [← hnx]; exact net9_at a v (hF.to hv)
  have HF := hid hF
  have Hn := hid hn
  have h12 := n12 hn
  have WE := hid (fun u => within9_at b (12 * n * n) u (by omega))
  have WC := hid (fun u => within9_at c (6 * n * n) u (by omega))
  have hr := wi9_lt b (n := 12 * n * n) (by omega)
  have hk := wi9_lt c (n := 6 * n * n) (by omega)
  generalize wi9 c (6 * n * n) = k at *
  obtain ⟨e1, e2, e3⟩ := edT_spec hn.1 hr
  have ED := hid (fun (gb : Nat) (v : World) (g : GridOf n gb v) => gEdge_ok hn e1 e2 g)
  have hc := t_cell e1
  have hs : edT n (wi9 b (12 * n * n)) % 4 < 4 := by omega
  obtain ⟨bc, bs⟩ := bs_lt hn.1 hc hs
  have L0 := hid (fun (gb : Nat) (v : World) (g : GridOf n gb v) => gLength_ok hn hr g)
  have P0 := hid (fun (gb : Nat) (v : World) (g : GridOf n gb v) => gGap_ok hn hr g)
  have L1 := hid (fun v => len_ok n _ _ v hn hc hs)
  have L2 := hid (fun v => len_ok n _ _ v hn bc bs)
  have P1 := hid (fun v (hv : Fr v) => gap_ok n _ _ v hn hc hs hv)
  have P2 := hid (fun v (hv : Fr v) => gap_ok n _ _ v hn bc bs hv)
  have A1 := hid (fun (gb : Nat) (v : World) (g : GridOf n gb v) => gArea_ok hn hk g)
  have A2 := hid (fun v => area_ok n k v hn hk)
  have v1 := (arI_le (ArC_le hn hk)).1
  have l1 := pos_cmp (LnC_le hn hc hs).1 (LnC_le hn hc hs).2
  have p1 := pos_cmp (GpC_le hn hc hs).1 (GpC_le hn hc hs).2
  rw [len_beside hn.1 hc hs bc bs] at L2
  rw [gap_beside hn.1 hc hs] at P2
  rw [e3] at ED
  generalize arI (ArC n k) = V at *
  generalize LnC n (edT n (wi9 b (12 * n * n)) / 4) (edT n (wi9 b (12 * n * n)) % 4) = L at *
  generalize GpC n (edT n (wi9 b (12 * n * n)) / 4) (edT n (wi9 b (12 * n * n)) % 4) = Q at *
  clear e1 e2 e3 hc hs bc bs
  generalize bsC n (edT n (wi9 b (12 * n * n)) / 4) (edT n (wi9 b (12 * n * n)) % 4) = d at *
  generalize bsS n (edT n (wi9 b (12 * n * n)) / 4) (edT n (wi9 b (12 * n * n)) % 4) = o at *
  generalize edT n (wi9 b (12 * n * n)) / 4 = q at *
  generalize edT n (wi9 b (12 * n * n)) % 4 = s at *
  generalize wi9 b (12 * n * n) = r at *
  clear hr hk
  clear hF hnx hn
  go_enter Tryd.func3, Tryd.ntmps3
  go_wp2_with fail
  refine AWK.out.mono ?_
  rintro e v1 ⟨rfl, b1⟩
  have AW1 : Hid (Ab w v1) := b1
  clear b1
  go_wp2_with fail
  refine (NE.out v1 AW1.out).mono ?_
  rintro e v2 ⟨gb, rfl, b2, g2⟩
  have AW2 : Hid (Ab w v2) := AW1.out.trans b2
  have G2 : Hid (GridOf n gb v2) := g2
  clear b2 g2 AW1 AWK NE
  go_wp2_with fail
  refine Calls.mono (gSide_at G2.out) ?_
  rintro e vv ⟨rfl, hvv⟩
  have hvw := hvv.symm
  subst hvw
  go_wp2_with fail
  refine Calls.mono (gEdges_at G2.out) ?_
  rintro e vv ⟨rfl, hvv⟩
  have hvw := hvv.symm
  subst hvw
  go_wp2_with fail
  refine Calls.mono (WE.out _) ?_
  rintro e vv ⟨rfl, hvv⟩
  have hvw := hvv.symm
  subst hvw
  go_wp2_with fail
  refine Calls.mono (gCells_at G2.out) ?_
  rintro e vv ⟨rfl, hvv⟩
  have hvw := hvv.symm
  subst hvw
  go_wp2_with fail
  refine Calls.mono (WC.out _) ?_
  rintro e vv ⟨rfl, hvv⟩
  have hvw := hvv.symm
  subst hvw
  go_wp2_with fail
  refine Calls.mono (ED.out gb _ G2.out) ?_
  rintro e v3 ⟨rfl, b3⟩
  have ST : Hid (Ab v2 (v3.alloc (.cells #[.int .i64 q, .int .i64 s, .int .i64 d, .int .i64 o] 28))) := Ab.call (show Ab _ _ from b3) (bl1 v3 (.cells #[.int .i64 q, .int .i64 s, .int .i64 d, .int .i64 o] 28))
  have AW3 : Hid (Ab w (v3.alloc (.cells #[.int .i64 q, .int .i64 s, .int .i64 d, .int .i64 o] 28))) := (AW2.out).trans ST.out
  have G3 : Hid (GridOf n gb (v3.alloc (.cells #[.int .i64 q, .int .i64 s, .int .i64 d, .int .i64 o] 28))) := G2.out.to ST.out
  have RX3 : Hid ((v3.alloc (.cells #[.int .i64 q, .int .i64 s, .int .i64 d, .int .i64 o] 28)).heap[v3.heap.size]? = some (.cells #[.int .i64 q, .int .i64 s, .int .i64 d, .int .i64 o] 28)) := heap_alloc_new _ _
  clear ST G2 AW2
  clear b3
  go_wp2_with fail
  refine Calls.mono (A1.out gb _ G3.out) ?_
  rintro e v4 ⟨rfl, b4⟩
  have ST : Hid (Ab (v3.alloc (.cells #[.int .i64 q, .int .i64 s, .int .i64 d, .int .i64 o] 28)) v4) := b4
  have AW4 : Hid (Ab w v4) := (AW3.out).trans ST.out
  have RX4 : Hid (v4.heap[v3.heap.size]? = some (.cells #[.int .i64 q, .int .i64 s, .int .i64 d, .int .i64 o] 28)) := Ab.heap ST.out RX3.out
  have G4 : Hid (GridOf n gb v4) := G3.out.to ST.out
  clear ST RX3 G3 AW3
  clear b4
  go_wp2_with fail
  refine Calls.mono (A2.out _) ?_
  rintro e v5 ⟨rfl, b5⟩
  have ST : Hid (Ab v4 v5) := b5
  have AW5 : Hid (Ab w v5) := (AW4.out).trans ST.out
  have RX5 : Hid (v5.heap[v3.heap.size]? = some (.cells #[.int .i64 q, .int .i64 s, .int .i64 d, .int .i64 o] 28)) := Ab.heap ST.out RX4.out
  have G5 : Hid (GridOf n gb v5) := G4.out.to ST.out
  clear ST RX4 G4 AW4
  clear b5
  go_wp2_with fail
  refine Calls.mono (A1.out gb _ G5.out) ?_
  rintro e v6 ⟨rfl, b6⟩
  have ST : Hid (Ab v5 v6) := b6
  have AW6 : Hid (Ab w v6) := (AW5.out).trans ST.out
  have RX6 : Hid (v6.heap[v3.heap.size]? = some (.cells #[.int .i64 q, .int .i64 s, .int .i64 d, .int .i64 o] 28)) := Ab.heap ST.out RX5.out
  have G6 : Hid (GridOf n gb v6) := G5.out.to ST.out
  clear ST RX5 G5 AW5
  clear b6
  go_wp2_with fail
  refine Calls.mono (L0.out gb _ G6.out) ?_
  rintro e v7 ⟨rfl, b7⟩
  have ST : Hid (Ab v6 v7) := b7
  have AW7 : Hid (Ab w v7) := (AW6.out).trans ST.out
  have RX7 : Hid (v7.heap[v3.heap.size]? = some (.cells #[.int .i64 q, .int .i64 s, .int .i64 d, .int .i64 o] 28)) := Ab.heap ST.out RX6.out
  have G7 : Hid (GridOf n gb v7) := G6.out.to ST.out
  clear ST RX6 G6 AW6
  clear b7
  go_wp2_with fail
  refine Calls.mono (P0.out gb _ G7.out) ?_
  rintro e v8 ⟨rfl, b8⟩
  have ST : Hid (Ab v7 v8) := b8
  have AW8 : Hid (Ab w v8) := (AW7.out).trans ST.out
  have RX8 : Hid (v8.heap[v3.heap.size]? = some (.cells #[.int .i64 q, .int .i64 s, .int .i64 d, .int .i64 o] 28)) := Ab.heap ST.out RX7.out
  have G8 : Hid (GridOf n gb v8) := G7.out.to ST.out
  clear ST RX7 G7 AW7
  clear b8
  have SS : Hid (∀ (x : Nat) (v : World), Calls Tryd.prog 15 #[.float .f64 x, .float .f64 x] v fun e w' => e = .returned (.bool true) ∧ Below v.heap.size v w') := fun x v => (rawSame9 x v).mono fun _ _ ⟨he, hw⟩ => ⟨he, by rw [hw]; exact Below.refl _ _⟩
  go_upto_region 12 with fail
  obtain ⟨UU, F, hF1, hF2⟩ := cls v8
  have HU := hid hF2
  have HU1 := hid hF1
  have HG : Hid (∀ u, GridOf n gb (F u)) := fun u => G8.out.to (hF1 u)
  have HFR : Hid (∀ u, Fr (F u)) := fun u => HF.out.to ((AW8.out).trans (hF1 u))
  have xX0 : ∀ u, (F u).cell? ⟨v3.heap.size, 0, none⟩ = some (.int .i64 q) := fun u => cell_of_row _ _ 0 _ _ _ ((hF1 u).heap RX8.out)
  have xX1 : ∀ u, (F u).cell? ⟨v3.heap.size, 1, none⟩ = some (.int .i64 s) := fun u => cell_of_row _ _ 1 _ _ _ ((hF1 u).heap RX8.out)
  have xX2 : ∀ u, (F u).cell? ⟨v3.heap.size, 2, none⟩ = some (.int .i64 d) := fun u => cell_of_row _ _ 2 _ _ _ ((hF1 u).heap RX8.out)
  have xX3 : ∀ u, (F u).cell? ⟨v3.heap.size, 3, none⟩ = some (.int .i64 o) := fun u => cell_of_row _ _ 3 _ _ _ ((hF1 u).heap RX8.out)
  have D := HU.out _ (Ab.refl v8).drew
  clear hF1 hF2
  refine region_cls F (by kernel_rfl) (by kernel_rfl) D ?_
  skip
  repeat (go_big_quiet_step (first
    | (with_reducible rfl)
    | (go_at_call 13; exact calls_cls HU HU1 (L0.out gb _ (HG.out _)))
    | (go_at_call_of 16 q; exact calls_cls HU HU1 (L1.out _))
    | (go_at_call_of 16 d; exact calls_cls HU HU1 (L2.out _))
    | (go_at_call 15; exact calls_cls HU HU1 (SS.out _ _))))
  refine wpQuiet_nil ?_
  intro wz12 hwz
  obtain ⟨u, hu⟩ := hwz
  have bz : Ab v8 wz12 := by rw [hu]; exact HU1.out u
  clear hu u
  clear HU HU1 D HFR HG xX0 xX1 xX2 xX3
  clear F UU
  have ST : Hid (Ab v8 wz12) := bz
  have AW9 : Hid (Ab w wz12) := (AW8.out).trans ST.out
  have RX9 : Hid (wz12.heap[v3.heap.size]? = some (.cells #[.int .i64 q, .int .i64 s, .int .i64 d, .int .i64 o] 28)) := Ab.heap ST.out RX8.out
  have G9 : Hid (GridOf n gb wz12) := G8.out.to ST.out
  clear ST RX8 G8 AW8
  clear bz
  go_upto_region 14 with fail
  obtain ⟨UU, F, hF1, hF2⟩ := cls wz12
  have HU := hid hF2
  have HU1 := hid hF1
  have HG : Hid (∀ u, GridOf n gb (F u)) := fun u => G9.out.to (hF1 u)
  have HFR : Hid (∀ u, Fr (F u)) := fun u => HF.out.to ((AW9.out).trans (hF1 u))
  have xX0 : ∀ u, (F u).cell? ⟨v3.heap.size, 0, none⟩ = some (.int .i64 q) := fun u => cell_of_row _ _ 0 _ _ _ ((hF1 u).heap RX9.out)
  have xX1 : ∀ u, (F u).cell? ⟨v3.heap.size, 1, none⟩ = some (.int .i64 s) := fun u => cell_of_row _ _ 1 _ _ _ ((hF1 u).heap RX9.out)
  have xX2 : ∀ u, (F u).cell? ⟨v3.heap.size, 2, none⟩ = some (.int .i64 d) := fun u => cell_of_row _ _ 2 _ _ _ ((hF1 u).heap RX9.out)
  have xX3 : ∀ u, (F u).cell? ⟨v3.heap.size, 3, none⟩ = some (.int .i64 o) := fun u => cell_of_row _ _ 3 _ _ _ ((hF1 u).heap RX9.out)
  have D := HU.out _ (Ab.refl wz12).drew
  clear hF1 hF2
  refine region_cls F (by kernel_rfl) (by kernel_rfl) D ?_
  skip
  repeat (go_big_quiet_step (first
    | (with_reducible rfl)
    | (go_at_call 14; exact calls_cls HU HU1 (P0.out gb _ (HG.out _)))
    | (go_at_call_of 17 q; exact calls_cls HU HU1 (P1.out _ (HFR.out _)))
    | (go_at_call_of 17 d; exact calls_cls HU HU1 (P2.out _ (HFR.out _)))
    | (go_at_call 15; exact calls_cls HU HU1 (SS.out _ _))))
  refine wpQuiet_nil ?_
  intro wz14 hwz
  obtain ⟨u, hu⟩ := hwz
  have bz : Ab wz12 wz14 := by rw [hu]; exact HU1.out u
  clear hu u
  clear HU HU1 D HFR HG xX0 xX1 xX2 xX3
  clear F UU
  have ST : Hid (Ab wz12 wz14) := bz
  have AW10 : Hid (Ab w wz14) := (AW9.out).trans ST.out
  have RX10 : Hid (wz14.heap[v3.heap.size]? = some (.cells #[.int .i64 q, .int .i64 s, .int .i64 d, .int .i64 o] 28)) := Ab.heap ST.out RX9.out
  have G10 : Hid (GridOf n gb wz14) := G9.out.to ST.out
  clear ST RX9 G9 AW9
  clear bz
  go_wp2
  go_ret
  exact ⟨rfl, AW10.out⟩
end Go.Proofs.YthblcnppfoipcaaDoor

namespace Go.Proofs.YthblcnppfoipcaaDoor
open Go.ChangeShapes Go.WideShapes Go.ChangeAt Go.WideMaps Go.WideElems Go.RowKit Cu

theorem own : ownKnob Tryd.prog.godebug = none := by kernel_rfl
theorem gFrames : Tryd.prog.globalNamed "tarn/cube.frames" = some 1 := by kernel_rfl
theorem tFrames : (Tryd.prog.globals[1]?).map (·.type) = some 96 := by kernel_rfl
theorem door_met (os : Os) (args : Array Value) : laidMetH Tryd.prog [("tarn/cube.frames", Rows.laid_tarn_cube_frames)] ((World.doorLaid Tryd.prog 400 os).forCall (fun _ _ => 0) ⟨#[], args, []⟩).memory :=
  laidMetH_of_parts3 (fuel := 8) (laidMet_of_run' 8 (by kernel_rfl) (by kernel_rfl)) (by kernel_rfl) (by kernel_rfl)
set_option maxRecDepth 100000 in
theorem pt_data {H : Type} {enc : TypeId × Value → H} {w : World} {base fuel : Nat} {spare : Nat → Bool} {held : Bool} {cs : List Value} {x : DataW H × List MemPlace} (h : DataW.trod enc Tryd.prog w base spare held fuel 88 cs = some x)
    (a b c : Int) (e : x.1 = .agg [.lit (.int .i64 a), .lit (.int .i64 b), .lit (.int .i64 c)]) : cs = [.int .i64 a, .int .i64 b, .int .i64 c] := by
  have k3 : Tryd.prog.cellsOf 3 = 1 := by kernel_rfl
  have kp : Tryd.prog.cellsOf 88 = 3 := by kernel_rfl
  obtain ⟨xs, m, _, hx, hlen, hn, hel⟩ := DataW.trod_array Tryd.underlying88 h
  rw [hx] at e
  match xs, hn, cs, hlen.trans kp with
  | [x0, x1, x2], _, [c0, c1, c2], _ =>
    have h0 := hel 0 (by decide)
    have h1 := hel 1 (by decide)
    have h2 := hel 2 (by decide)
    simp [k3] at h0 h1 h2
    obtain ⟨n0, e0, f0, _⟩ := DataW.trod_int Tryd.underlying3 h0
    obtain ⟨n1, e1, f1, _⟩ := DataW.trod_int Tryd.underlying3 h1
    obtain ⟨n2, e2, f2, _⟩ := DataW.trod_int Tryd.underlying3 h2
    simp at e0 e1 e2
    simp [f0, f1, f2] at e
    rw [e0, e1, e2, e.1, e.2.1, e.2.2]
set_option maxRecDepth 100000 in
theorem frame_data {H : Type} {enc : TypeId × Value → H} {w : World} {base fuel : Nat} {spare : Nat → Bool} {held : Bool} {cs : List Value} {x : DataW H × List MemPlace} (h : DataW.trod enc Tryd.prog w base spare held fuel 95 cs = some x)
    (p q r : P3) (e : x.1 = .agg [.agg [.lit (.int .i64 p.1), .lit (.int .i64 p.2.1), .lit (.int .i64 p.2.2)], .agg [.lit (.int .i64 q.1), .lit (.int .i64 q.2.1), .lit (.int .i64 q.2.2)], .agg [.lit (.int .i64 r.1), .lit (.int .i64 r.2.1), .lit (.int .i64 r.2.2)]]) :
    cs = [.int .i64 p.1, .int .i64 p.2.1, .int .i64 p.2.2, .int .i64 q.1, .int .i64 q.2.1, .int .i64 q.2.2, .int .i64 r.1, .int .i64 r.2.1, .int .i64 r.2.2] := by
  have kp : Tryd.prog.cellsOf 88 = 3 := by kernel_rfl
  have kf : Tryd.prog.cellsOf 95 = 9 := by kernel_rfl
  obtain ⟨xs, m, _, hx, hlen, hn, hel⟩ := DataW.trod_struct Tryd.underlying95 h
  rw [hx] at e
  match xs, hn, cs, hlen.trans kf with
  | [x0, x1, x2], _, [c0, c1, c2, c3, c4, c5, c6, c7, c8], _ =>
    have h0 := hel 0 _ rfl
    have h1 := hel 1 _ rfl
    have h2 := hel 2 _ rfl
    simp [kp] at h0 h1 h2
    simp at e
    have e0 := pt_data h0 _ _ _ e.1
    have e1 := pt_data h1 _ _ _ e.2.1
    have e2 := pt_data h2 _ _ _ e.2.2
    simp at e0 e1 e2
    simp [e0, e1, e2]
set_option maxRecDepth 100000 in
theorem table_data {H : Type} {enc : TypeId × Value → H} {w : World} {base fuel : Nat} {spare : Nat → Bool} {held : Bool} {cs : List Value} {x : DataW H × List MemPlace} (h : DataW.trod enc Tryd.prog w base spare held fuel 96 cs = some x)
    (e : x.1 = Rows.laid_tarn_cube_frames) : ∀ f, f < 6 → (cs.drop (f * 9)).take 9 = [.int .i64 (cC f).1, .int .i64 (cC f).2.1, .int .i64 (cC f).2.2, .int .i64 (cR f).1, .int .i64 (cR f).2.1, .int .i64 (cR f).2.2, .int .i64 (cU f).1, .int .i64 (cU f).2.1, .int .i64 (cU f).2.2] := by
  have kf : Tryd.prog.cellsOf 95 = 9 := by kernel_rfl
  obtain ⟨xs, m, _, hx, hlen, hn, hel⟩ := DataW.trod_array Tryd.underlying96 h
  rw [hx] at e
  intro f hf
  have h0 := hel f hf
  rw [kf] at h0
  match xs, hn with
  | [x0, x1, x2, x3, x4, x5], _ =>
    simp only [List.map_cons, List.map_nil, Rows.laid_tarn_cube_frames, DataW.agg.injEq, List.cons.injEq] at e
    rcases six hf with rfl | rfl | rfl | rfl | rfl | rfl
    · exact frame_data h0 (cC 0) (cR 0) (cU 0) e.1
    · exact frame_data h0 (cC 1) (cR 1) (cU 1) e.2.1
    · exact frame_data h0 (cC 2) (cR 2) (cU 2) e.2.2.1
    · exact frame_data h0 (cC 3) (cR 3) (cU 3) e.2.2.2.1
    · exact frame_data h0 (cC 4) (cR 4) (cU 4) e.2.2.2.2.1
    · exact frame_data h0 (cC 5) (cR 5) (cU 5) e.2.2.2.2.2.1
/-- WHAT THE CONDITION GIVES THE WALKS -/
theorem of_laid {W : World} (h : laidMetH Tryd.prog [("tarn/cube.frames", Rows.laid_tarn_cube_frames)] W) : Fr W := by
  rw [MakeChecks.laidMetH_plain _ _ _ (by kernel_rfl)] at h
  obtain ⟨ps, ⟨g0, t0, cs0, f0, p0, q0, hg0, ht0, hv0, hd0, _⟩, _⟩ := h
  obtain rfl := Option.some.inj (gFrames.symm.trans hg0)
  obtain rfl := Option.some.inj (tFrames.symm.trans ht0)
  have T := table_data hd0 rfl
  have C := World.var?_cell hg0 hv0
  have K : ∀ f, f < 6 → ∀ k, k < 9 → W.cell? ⟨1, f * 9 + k, none⟩ = ((cs0.toList.drop (f * 9)).take 9)[k]? := by
    intro f hf k hk
    rw [C, List.getElem?_take, if_pos hk, List.getElem?_drop]
    simp
  have N : ∀ f, f < 6 → Fr9 W f := by
    intro f hf
    have K := K f hf
    rw [T f hf] at K
    exact ⟨⟨K 0 (by omega), K 1 (by omega), K 2 (by omega)⟩, ⟨K 3 (by omega), K 4 (by omega), K 5 (by omega)⟩, ⟨K 6 (by omega), K 7 (by omega), K 8 (by omega)⟩⟩
  refine ⟨?_, N⟩
  have c0 := (N 0 (by omega)).1.1
  rcases Nat.lt_or_ge 1 W.heap.size with h1 | h1
  · exact h1
  · rw [World.cell?, Array.getElem?_eq_none h1] at c0; cases c0
end Go.Proofs.YthblcnppfoipcaaDoor
