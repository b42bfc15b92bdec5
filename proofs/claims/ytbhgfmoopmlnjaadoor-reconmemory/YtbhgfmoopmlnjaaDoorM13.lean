/-
  Some of the texts of this proof, one behind the other.
-/
import Derived.Test.YtbhgfmoopmlnjaaDoorTie
import Derived.Test.YtbhgfmoopmlnjaaDoorCards
import Derived.ProofKit
import Derived.LaidMore
import Derived.OpenShut
import Derived.Stop.Joined
import Derived.Carry
import Derived.Lib.SmallJoins
import Derived.WalkLawsBesides
import Derived.Test.YtbhgfmoopmlnjaaDoorM12
namespace Go.Proofs.YtbhgfmoopmlnjaaDoor
open Go.RowKit Tf Cu
theorem net12_cases (side lim : Int) (pb pw pt ps : Option Addr) (lb cb lw cw lt ct ls cs : Nat) (sky st : Int) (w : World) (hF : Fr w) :
    (∃ n : Nat, (1 ≤ n ∧ n ≤ 32) ∧ side = (n : Int) ∧ lb = 6 * n * n ∧ lw = 6 * n * n ∧ Hid (∀ v, Ab w v → Calls Tryd.prog 5 #[.agg #[.int .i64 side, .int .i64 lim, .slice pb lb cb, .slice pw lw cw, .slice pt lt ct, .slice ps ls cs, .int .i64 sky, .int .i64 st]] v fun e' w' => ∃ gb, e' = .returned (.tuple #[.pointer (some ⟨gb, 0, none⟩), .bool true]) ∧ Below v.heap.size v w' ∧ GridOf n gb w')) ∨
    Hid (∀ v, Ab w v → Calls Tryd.prog 5 #[.agg #[.int .i64 side, .int .i64 lim, .slice pb lb cb, .slice pw lw cw, .slice pt lt ct, .slice ps ls cs, .int .i64 sky, .int .i64 st]] v fun e' w' => ∃ gp, e' = .returned (.tuple #[gp, .bool false]) ∧ Below v.heap.size v w') := by
  by_cases h : 1 ≤ side ∧ side ≤ 32
  · obtain ⟨n, rfl⟩ := Int.eq_ofNat_of_zero_le (show 0 ≤ side by omega)
    have hn : 1 ≤ n ∧ n ≤ 32 := by omega
    by_cases c1 : lb = 6 * n * n
    · by_cases c2 : lw = 6 * n * n
      · exact .inl ⟨n, hn, rfl, c1, c2, fun v hv => net12_go n lim pb pw pt ps lb cb lw cw lt ct ls cs sky st n (6 * n * n) true v rfl hn (hF.to hv) rfl (.inr ⟨by rw [c1]; simp, by rw [c2]; simp⟩)⟩
      · refine .inr fun v hv => (net12_go n lim pb pw pt ps lb cb lw cw lt ct ls cs sky st n (6 * n * n) false v rfl hn (hF.to hv) rfl (.inr ⟨by rw [c1]; simp, by rw [beq_eq_false_iff_ne]; omega⟩)).mono ?_
        rintro e' w' ⟨gb, rfl, b, -⟩
        exact ⟨_, rfl, b⟩
    · refine .inr fun v hv => (net12_go n lim pb pw pt ps lb cb lw cw lt ct ls cs sky st n (6 * n * n) false v rfl hn (hF.to hv) rfl (.inl ⟨by rw [beq_eq_false_iff_ne]; omega, rfl⟩)).mono ?_
      rintro e' w' ⟨gb, rfl, b, -⟩
      exact ⟨_, rfl, b⟩
  · refine .inr fun v _ => (net12_no side lim pb pw pt ps lb cb lw cw lt ct ls cs sky st v h).mono ?_
    rintro e' w' ⟨rfl, b⟩
    exact ⟨_, rfl, b⟩
theorem edges_n {n : Nat} (hn : 1 ≤ n ∧ n ≤ 32) : 1 ≤ 12 * n * n ∧ 12 * n * n ≤ 12288 := by
  have h := Nat.mul_le_mul hn.2 hn.2
  have h2 := Nat.mul_le_mul hn.1 hn.1
  rw [Nat.mul_assoc]
  omega
end Go.Proofs.YtbhgfmoopmlnjaaDoor

namespace Go.Proofs.YtbhgfmoopmlnjaaDoor
open Go.RowKit Tf Cu
attribute [local go_sem] run_bits run_from raw_feq raw_fne raw_flt raw_fgt run_neg run_store_float
set_option maxRecDepth 100000 in
set_option maxHeartbeats 4000000 in
theorem mem12_big (side lim : Int) (bb bo wb wo M : Nat) (pt ps : Option Addr) (cb cw lt ct ls cs : Nat) (sky st : Int) (n : Nat) (w : World) (h8 : 8 < (n : Int))
    (AWK : Hid (∀ v, Ab w v → Calls Tryd.prog 4 #[] v fun e w' => e = .returned (.bool true) ∧ Below v.heap.size v w'))
    (NT : Hid (∀ v, Ab w v → Calls Tryd.prog 5 #[.agg #[.int .i64 side, .int .i64 lim, .slice (some ⟨bb, bo, none⟩) M cb, .slice (some ⟨wb, wo, none⟩) M cw, .slice pt lt ct, .slice ps ls cs, .int .i64 sky, .int .i64 st]] v fun e' w' => ∃ gb, e' = .returned (.tuple #[.pointer (some ⟨gb, 0, none⟩), .bool true]) ∧ Below v.heap.size v w' ∧ GridOf n gb w'))
    (CI : Hid (∀ gb v, GridOf n gb v → Calls Tryd.prog 6 #[.pointer (some ⟨gb, 0, none⟩)] v fun e w' => e = .returned (.int .i64 (n : Nat)) ∧ w' = v)) :
    Calls Tryd.prog 3 #[.agg #[.int .i64 side, .int .i64 lim, .slice (some ⟨bb, bo, none⟩) M cb, .slice (some ⟨wb, wo, none⟩) M cw, .slice pt lt ct, .slice ps ls cs, .int .i64 sky, .int .i64 st]] w fun e w' => e = .returned (.bool true) ∧ Below w.heap.size w w' := by
  have A0 : Hid (Ab w (w.alloc (.cells #[.int .i64 side, .int .i64 lim, .slice (some ⟨bb, bo, none⟩) M cb, .slice (some ⟨wb, wo, none⟩) M cw, .slice pt lt ct, .slice ps ls cs, .int .i64 sky, .int .i64 st] 27))) := bl1 _ _
  have RO0 : Hid ((w.alloc (.cells #[.int .i64 side, .int .i64 lim, .slice (some ⟨bb, bo, none⟩) M cb, .slice (some ⟨wb, wo, none⟩) M cw, .slice pt lt ct, .slice ps ls cs, .int .i64 sky, .int .i64 st] 27)).heap[w.heap.size]? = some (.cells #[.int .i64 side, .int .i64 lim, .slice (some ⟨bb, bo, none⟩) M cb, .slice (some ⟨wb, wo, none⟩) M cw, .slice pt lt ct, .slice ps ls cs, .int .i64 sky, .int .i64 st] 27)) := heap_alloc_new _ _
  go_enter Tryd.func3, Tryd.ntmps3
  go_wp2_with fail
  refine (AWK.out _ A0.out).mono ?_
  rintro e9 v1 ⟨rfl, k1⟩
  have A1 : Hid (Ab w v1) := A0.out.call k1
  have RO1 : Hid (v1.heap[w.heap.size]? = some (.cells #[.int .i64 side, .int .i64 lim, .slice (some ⟨bb, bo, none⟩) M cb, .slice (some ⟨wb, wo, none⟩) M cw, .slice pt lt ct, .slice ps ls cs, .int .i64 sky, .int .i64 st] 27)) := Ab.heap k1 RO0.out
  clear k1 RO0 A0
  have c0 := cell_of_row _ _ 0 _ _ _ (RO1.out)
  have c1 := cell_of_row _ _ 1 _ _ _ (RO1.out)
  have c2 := cell_of_row _ _ 2 _ _ _ (RO1.out)
  have c3 := cell_of_row _ _ 3 _ _ _ (RO1.out)
  have c4 := cell_of_row _ _ 4 _ _ _ (RO1.out)
  have c5 := cell_of_row _ _ 5 _ _ _ (RO1.out)
  have c6 := cell_of_row _ _ 6 _ _ _ (RO1.out)
  have c7 := cell_of_row _ _ 7 _ _ _ (RO1.out)
  go_wp2_with fail
  refine (NT.out _ A1.out).mono ?_
  rintro e9 W ⟨gb, rfl, k2, g2⟩
  have AW : Hid (Ab w W) := A1.out.call k2
  have RO : Hid (W.heap[w.heap.size]? = some (.cells #[.int .i64 side, .int .i64 lim, .slice (some ⟨bb, bo, none⟩) M cb, .slice (some ⟨wb, wo, none⟩) M cw, .slice pt lt ct, .slice ps ls cs, .int .i64 sky, .int .i64 st] 27)) := Ab.heap k2 RO1.out
  have GG := hid g2
  clear k2 g2 RO1 A1
  clear c0 c1 c2 c3 c4 c5 c6 c7
  go_wp2_with fail
  refine (CI.out _ _ GG.out).mono ?_
  rintro e9 vq ⟨rfl, hvq⟩
  have hvq2 := hvq.symm
  subst hvq2
  go_wp2
  go_ret
  exact ⟨rfl, AW.out⟩
theorem rdAll_lt2 {n : Nat} {k : Int} {lb lw : Nat} {B : Nat → Nat} {W : Nat → Int} (hn : 1 ≤ n) (hB : ∀ i, i < lb → B i < 18446744073709551616) (hW : ∀ i, i < lw → W i ≤ 9223372036854775807) (e : Int) (u : Nat) : rdAll n k lb lw B W e u < 18446744073709551616 := by
  unfold rdAll
  split
  · rename_i c
    obtain ⟨c1, rfl, rfl⟩ := c
    obtain ⟨E, rfl, hE⟩ := inR_nat c1
    rw [Int.toNat_natCast]
    obtain ⟨t1, t2, t3⟩ := edT_spec hn hE
    generalize edT n E = t at *
    have key : ∀ t, t < 24 * n * n → sdD n k (arC n) B W t < 18446744073709551616 := fun t ht => by
      have cU := t_cell ht
      have cD := t_cell (mt_lt hn ht)
      have wU := hW _ cU
      have bU := hB _ cU
      have bD := hB _ cD
      unfold sdD ovC rcR
      refine pos0_lt (minB_lt (rcV_lt (by have := dp_le wU (arC_in n (t / 4)).2; omega)) ?_)
      unfold rcG sbB
      exact addB_lt _ _ (lvl_lt bU wU (arC_in n _).2) (negB_lt' (maxB_lt bU bD))
    unfold rdT
    split
    · exact key _ t1
    · split
      · exact key _ (mt_lt hn t1)
      · decide
  · decide
/-- what lies there, where a list can only be one that lies there -/
theorem fix_fl {v : World} {b m : Nat} {f g : Nat → Nat} (h : IsFl v (some ⟨b, 0, none⟩) m f) (e : ∀ i, i < m → g i = f i) : IsFl v (some ⟨b, 0, none⟩) m g := fun k hk => by
  obtain ⟨h1, b', o', h2, h3, h4⟩ := h k hk
  rw [e k hk]
  exact ⟨h1, b', o', h2, h3, h4⟩
theorem fix_in {v : World} {b m : Nat} {f g : Nat → Int} (h : IsIn v (some ⟨b, 0, none⟩) m f) (e : ∀ i, i < m → g i = f i) : IsIn v (some ⟨b, 0, none⟩) m g := fun k hk => by
  obtain ⟨h1, b', o', h2, h3, h4⟩ := h k hk
  rw [e k hk]
  exact ⟨h1, b', o', h2, h3, h4⟩
set_option maxRecDepth 100000 in
theorem mem12_at (side lim : Int) {pb pw pt ps : Option Addr} {lb cb lw cw lt ct ls cs : Nat} {B : Nat → Nat} {Wt Tr : Nat → Int} {Sp : Nat → Nat} (sky st : Int) (w : World) (hF : Fr w) (sea : SeaAt w pb lb cb B pw lw cw Wt pt lt ct Tr ps ls cs Sp) :
    Calls Tryd.prog 3 #[.agg #[.int .i64 side, .int .i64 lim, .slice pb lb cb, .slice pw lw cw, .slice pt lt ct, .slice ps ls cs, .int .i64 sky, .int .i64 st]] w fun e w' => e = .returned (.bool true) ∧ Below w.heap.size w w' := by
  have AWK : Hid (∀ v, Ab w v → Calls Tryd.prog 4 #[] v fun e w' => e = .returned (.bool true) ∧ Below v.heap.size v w') := fun v hv => awake12_at depthC v (hF.to hv)
  rcases net12_cases side lim pb pw pt ps lb cb lw cw lt ct ls cs sky st w hF with ⟨n, hn, rfl, rfl, rfl, NT⟩ | NT
  · have en := edges_n hn
    have hMN : 6 * n * n ≤ 12 * n * n := by
      rw [Nat.mul_assoc, Nat.mul_assoc]
      exact Nat.mul_le_mul_right _ (by decide)
    have hB := sea.bed
    have hW := sea.water
    obtain ⟨bb, bo, rfl⟩ := hB.some0 (six_pos hn.1)
    obtain ⟨wb, wo, rfl⟩ := hW.some0 (six_pos hn.1)
    have CI : Hid (∀ gb v, GridOf n gb v → Calls Tryd.prog 6 #[.pointer (some ⟨gb, 0, none⟩)] v fun e w' => e = .returned (.int .i64 (n : Nat)) ∧ w' = v) := fun gb v g => gSide_at g
    by_cases h8 : 8 < (n : Int)
    · exact mem12_big n lim bb bo wb wo (6 * n * n) pt ps cb cw lt ct ls cs sky st n w h8 AWK NT CI
    have CC : Hid (∀ gb v, GridOf n gb v → Calls Tryd.prog 7 #[.pointer (some ⟨gb, 0, none⟩)] v fun e w' => e = .returned (.int .i64 (6 * n * n : Nat)) ∧ w' = v) := fun gb v g => gCells_at g
    have CE : Hid (∀ gb v, GridOf n gb v → Calls Tryd.prog 8 #[.pointer (some ⟨gb, 0, none⟩)] v fun e w' => e = .returned (.int .i64 (12 * n * n : Nat)) ∧ w' = v) := fun gb v g => gEdges_at g
    have FB : ∀ c, c < 6 * n * n → ∀ v, Ab w v → v.cell? ⟨bb, bo + c, none⟩ = some (.float .f64 (B c)) := fun c hc v hv => (Below.cell hv (hB.at0 hc).2.1).trans (hB.at0 hc).2.2
    have FA : ∀ c, c < 6 * n * n → ∀ v, Ab w v → v.cell? ⟨wb, wo + c, none⟩ = some (.int .i64 (Wt c)) := fun c hc v hv => (Below.cell hv (hW.at0 hc).2.1).trans (hW.at0 hc).2.2
    by_cases hk : 0 ≤ lim ∧ lim ≤ 3
    · refine mem12_yes n lim bb bo wb wo (6 * n * n) pt ps cb cw lt ct ls cs sky st n (6 * n * n + 3) (12 * n * n) (12 * n * n + 3) B Wt Sp w h8 hMN en.2 (by simp) (by simp) AWK NT CC CI CE FB FA (fun c hc => (hB.at0 hc).1) (fun c hc => (hW c hc).1) sea.speed ?_
      intro gb b7 b8 b9 fb fw fs
      refine ⟨fun i => rdAll n lim (6 * n * n) (6 * n * n) (fun j => fb j % 18446744073709551616) (fun j => min (fw j) 9223372036854775807) (i : Nat) (fs i), fun i _ => rdAll_lt2 hn.1 (fun j _ => Nat.mod_lt _ (by decide)) (fun j _ => Int.min_le_right _ _) _ _, fun v g i1 i2 i3 => ?_⟩
      have j1 : IsFl v (some ⟨b7, 0, none⟩) (6 * n * n) (fun j => fb j % 18446744073709551616) := fix_fl i1 (fun i hi => Nat.mod_eq_of_lt (i1 i hi).1)
      have j2 : IsIn v (some ⟨b8, 0, none⟩) (6 * n * n) (fun j => min (fw j) 9223372036854775807) := fix_in i2 (fun i hi => Int.min_eq_left (i2 i hi).1.2)
      exact (depthsC n gb lim _ _ _ (fun j => fb j % 18446744073709551616) _ _ _ (fun j => min (fw j) 9223372036854775807) none 0 0 _ _ _ fs 0 0 v hn g j1 j2 i3).1 ⟨⟨rfl, rfl⟩, rfl, hk⟩
    · refine mem12_bad n lim bb bo wb wo (6 * n * n) pt ps cb cw lt ct ls cs sky st n (6 * n * n + 3) (12 * n * n) (12 * n * n + 3) B Wt Sp w h8 hMN en.2 (by simp) (by simp) AWK NT CC CI CE FB FA (fun c hc => (hB.at0 hc).1) (fun c hc => (hW c hc).1) sea.speed ?_
      intro gb b7 b8 b9 fb fw fs
      refine ⟨fun _ => 0, fun _ _ => show 0 < 18446744073709551616 by decide, fun v g i1 i2 i3 => ?_⟩
      exact (depthsC n gb lim _ _ _ fb _ _ _ fw none 0 0 _ _ _ fs 0 0 v hn g i1 i2 i3).2 (fun h => hk h.2.2)
  · exact mem12_no side lim pb pw pt ps lb cb lw cw lt ct ls cs sky st w AWK NT
end Go.Proofs.YtbhgfmoopmlnjaaDoor

namespace Go.Proofs.YtbhgfmoopmlnjaaDoor
open Go.ChangeShapes Go.WideShapes Go.ChangeAt Go.WideMaps Go.WideElems Go.RowKit Cu

theorem own : ownKnob Tryd.prog.godebug = none := by kernel_rfl
theorem gFrames : Tryd.prog.globalNamed "tarn/cube.frames" = some 1 := by kernel_rfl
theorem tFrames : (Tryd.prog.globals[1]?).map (·.type) = some 107 := by kernel_rfl
theorem door_met (os : Os) (args : Array Value) : laidMetH Tryd.prog [("tarn/cube.frames", Rows.laid_tarn_cube_frames)] ((World.doorLaid Tryd.prog 400 os).forCall (fun _ _ => 0) ⟨#[], args, []⟩).memory :=
  laidMetH_of_parts3 (fuel := 8) (laidMet_of_run' 8 (by kernel_rfl) (by kernel_rfl)) (by kernel_rfl) (by kernel_rfl)
set_option maxRecDepth 100000 in
theorem pt_data {H : Type} {enc : TypeId × Value → H} {w : World} {base fuel : Nat} {spare : Nat → Bool} {held : Bool} {cs : List Value} {x : DataW H × List MemPlace} (h : DataW.trod enc Tryd.prog w base spare held fuel 99 cs = some x)
    (a b c : Int) (e : x.1 = .agg [.lit (.int .i64 a), .lit (.int .i64 b), .lit (.int .i64 c)]) : cs = [.int .i64 a, .int .i64 b, .int .i64 c] := by
  have k3 : Tryd.prog.cellsOf 3 = 1 := by kernel_rfl
  have kp : Tryd.prog.cellsOf 99 = 3 := by kernel_rfl
  obtain ⟨xs, m, _, hx, hlen, hn, hel⟩ := DataW.trod_array Tryd.underlying99 h
  rw [hx] at e
  match xs, hn, cs, hlen.trans kp with
  | [x0, x1, x2], _, [c0, c1, c2], _ =>
    have h0 := hel 0 (by decide)
    have h1 := hel 1 (by decide)
    have h2 := hel 2 (by decide)
    simp [k3] at h0 h1 h2
    obtain ⟨n0, e0, f0, _⟩ := DataW.trod_int Tryd.underlying3 h0
    obtain ⟨n1, e1, f1, _⟩ := DataW.trod_int Tryd.underlying3 h1
    obtain ⟨n2, e2, f2, _⟩ := DataW.trod_int Tryd.underlying3 h2
    simp at e0 e1 e2
    simp [f0, f1, f2] at e
    rw [e0, e1, e2, e.1, e.2.1, e.2.2]
set_option maxRecDepth 100000 in
theorem frame_data {H : Type} {enc : TypeId × Value → H} {w : World} {base fuel : Nat} {spare : Nat → Bool} {held : Bool} {cs : List Value} {x : DataW H × List MemPlace} (h : DataW.trod enc Tryd.prog w base spare held fuel 106 cs = some x)
    (p q r : P3) (e : x.1 = .agg [.agg [.lit (.int .i64 p.1), .lit (.int .i64 p.2.1), .lit (.int .i64 p.2.2)], .agg [.lit (.int .i64 q.1), .lit (.int .i64 q.2.1), .lit (.int .i64 q.2.2)], .agg [.lit (.int .i64 r.1), .lit (.int .i64 r.2.1), .lit (.int .i64 r.2.2)]]) :
    cs = [.int .i64 p.1, .int .i64 p.2.1, .int .i64 p.2.2, .int .i64 q.1, .int .i64 q.2.1, .int .i64 q.2.2, .int .i64 r.1, .int .i64 r.2.1, .int .i64 r.2.2] := by
  have kp : Tryd.prog.cellsOf 99 = 3 := by kernel_rfl
  have kf : Tryd.prog.cellsOf 106 = 9 := by kernel_rfl
  obtain ⟨xs, m, _, hx, hlen, hn, hel⟩ := DataW.trod_struct Tryd.underlying106 h
  rw [hx] at e
  match xs, hn, cs, hlen.trans kf with
  | [x0, x1, x2], _, [c0, c1, c2, c3, c4, c5, c6, c7, c8], _ =>
    have h0 := hel 0 _ rfl
    have h1 := hel 1 _ rfl
    have h2 := hel 2 _ rfl
    simp [kp] at h0 h1 h2
    simp at e
    have e0 := pt_data h0 _ _ _ e.1
    have e1 := pt_data h1 _ _ _ e.2.1
    have e2 := pt_data h2 _ _ _ e.2.2
    simp at e0 e1 e2
    simp [e0, e1, e2]
set_option maxRecDepth 100000 in
theorem table_data {H : Type} {enc : TypeId × Value → H} {w : World} {base fuel : Nat} {spare : Nat → Bool} {held : Bool} {cs : List Value} {x : DataW H × List MemPlace} (h : DataW.trod enc Tryd.prog w base spare held fuel 107 cs = some x)
    (e : x.1 = Rows.laid_tarn_cube_frames) : ∀ f, f < 6 → (cs.drop (f * 9)).take 9 = [.int .i64 (cC f).1, .int .i64 (cC f).2.1, .int .i64 (cC f).2.2, .int .i64 (cR f).1, .int .i64 (cR f).2.1, .int .i64 (cR f).2.2, .int .i64 (cU f).1, .int .i64 (cU f).2.1, .int .i64 (cU f).2.2] := by
  have kf : Tryd.prog.cellsOf 106 = 9 := by kernel_rfl
  obtain ⟨xs, m, _, hx, hlen, hn, hel⟩ := DataW.trod_array Tryd.underlying107 h
  rw [hx] at e
  intro f hf
  have h0 := hel f hf
  rw [kf] at h0
  match xs, hn with
  | [x0, x1, x2, x3, x4, x5], _ =>
    simp only [List.map_cons, List.map_nil, Rows.laid_tarn_cube_frames, DataW.agg.injEq, List.cons.injEq] at e
    rcases six hf with rfl | rfl | rfl | rfl | rfl | rfl
    · exact frame_data h0 (cC 0) (cR 0) (cU 0) e.1
    · exact frame_data h0 (cC 1) (cR 1) (cU 1) e.2.1
    · exact frame_data h0 (cC 2) (cR 2) (cU 2) e.2.2.1
    · exact frame_data h0 (cC 3) (cR 3) (cU 3) e.2.2.2.1
    · exact frame_data h0 (cC 4) (cR 4) (cU 4) e.2.2.2.2.1
    · exact frame_data h0 (cC 5) (cR 5) (cU 5) e.2.2.2.2.2.1
/-- WHAT THE CONDITION GIVES THE WALKS -/
theorem of_laid {W : World} (h : laidMetH Tryd.prog [("tarn/cube.frames", Rows.laid_tarn_cube_frames)] W) : Fr W := by
  rw [MakeChecks.laidMetH_plain _ _ _ (by kernel_rfl)] at h
  obtain ⟨ps, ⟨g0, t0, cs0, f0, p0, q0, hg0, ht0, hv0, hd0, _⟩, _⟩ := h
  obtain rfl := Option.some.inj (gFrames.symm.trans hg0)
  obtain rfl := Option.some.inj (tFrames.symm.trans ht0)
  have T := table_data hd0 rfl
  have C := World.var?_cell hg0 hv0
  have K : ∀ f, f < 6 → ∀ k, k < 9 → W.cell? ⟨1, f * 9 + k, none⟩ = ((cs0.toList.drop (f * 9)).take 9)[k]? := by
    intro f hf k hk
    rw [C, List.getElem?_take, if_pos hk, List.getElem?_drop]
    simp
  have N : ∀ f, f < 6 → Fr9 W f := by
    intro f hf
    have K := K f hf
    rw [T f hf] at K
    exact ⟨⟨K 0 (by omega), K 1 (by omega), K 2 (by omega)⟩, ⟨K 3 (by omega), K 4 (by omega), K 5 (by omega)⟩, ⟨K 6 (by omega), K 7 (by omega), K 8 (by omega)⟩⟩
  refine ⟨?_, N⟩
  have c0 := (N 0 (by omega)).1.1
  rcases Nat.lt_or_ge 1 W.heap.size with h1 | h1
  · exact h1
  · rw [World.cell?, Array.getElem?_eq_none h1] at c0; cases c0
end Go.Proofs.YtbhgfmoopmlnjaaDoor
