/-
  Some of the texts of this proof, one behind the other.
-/
import Derived.Test.YtnklgfmemelcpaaGreatDoorZ21
import Derived.Test.YtnklgfmemelcpaaGreatDoorZ01
import Derived.Test.YtnklgfmemelcpaaGreatDoorTie
import Derived.Test.YtnklgfmemelcpaaGreatDoorCards
import Derived.ProofKit
import Derived.LaidMore
import Derived.OpenShut
import Derived.Stop.Joined
import Derived.Carry
import Derived.Lib.SmallJoins
import Derived.WalkLawsBesides
/-
  Every net and every question: walk over the program.
-/
namespace Go.Proofs.YtnklgfmemelcpaaGreatDoor
open Go.RowKit Cu Tf
def AskAt (w : World) (b o : Nat) : Prop := ∃ a0 a1 a2 : Int, (W64 a0 ∧ W64 a1 ∧ W64 a2) ∧ w.cell? ⟨b, o, none⟩ = some (.int .i64 a0) ∧ w.cell? ⟨b, o + 1, none⟩ = some (.int .i64 a1) ∧ w.cell? ⟨b, o + 2, none⟩ = some (.int .i64 a2)
/-- what the walk is told of the list -/
def IsAsks (w : World) (a : Option Addr) (len cap : Nat) : Prop := (len : Int) ≤ 9223372036854775807 ∧ len ≤ cap ∧ ∀ k, k < len → ∃ b off, a = some ⟨b, off, none⟩ ∧ b < w.heap.size ∧ AskAt w b (off + k * 3)
set_option maxRecDepth 100000 in
set_option maxHeartbeats 16000000 in
theorem exact_nets (n : Nat) (a : Option Addr) (len cap : Nat) (w : World) (hn : 1 ≤ n ∧ n ≤ 32) (hA : IsAsks w a len cap) (hF : Fr w) :
    Calls Tryz.prog 3 #[.int .i64 n, .slice a len cap] w fun e w' => e = .returned (.bool true) ∧ Below w.heap.size w w' := by
  have HA := hid hA
  have hlen := hA.1
  have AWK := hid (awake9_at w hF)
  have NW := hid (fun v (hv : Ab w v) => new_at n v hn (hF.to hv))
  have RN := hid (fun v => rnew_at n v hn)
  have Hn := hid hn
  clear hn hF hA
  go_enter Tryz.func3, Tryz.ntmps3
  go_wp2_with fail
  refine AWK.out.mono ?_
  rintro e v1 ⟨rfl, b1⟩
  have AW1 : Hid (Ab w v1) := b1
  clear b1 AWK
  go_wp2_with fail
  refine (NW.out v1 AW1.out).mono ?_
  rintro e v2 ⟨gb, rfl, b2, -, g2⟩
  have AW2 : Hid (Ab w v2) := AW1.out.trans b2
  have G2 : Hid (GridOf n gb v2) := g2
  clear b2 g2 AW1 NW
  go_wp2_with fail
  refine (RN.out v2).mono ?_
  rintro e v3 ⟨rb, ab, es, rfl, b3, r3⟩
  have AW3 : Hid (Ab w v3) := AW2.out.trans b3
  have G3 : Hid (GridOf n gb v3) := G2.out.to b3
  have Q3 : Hid (RefOf n rb v3) := RE.all Hn.out.1 r3
  clear b3 r3 AW2 RN G2
  go_wp2_with fail
  refine Calls.mono (gSide_at G3.out) ?_
  rintro e vv ⟨rfl, hvv⟩
  have hvw := hvv.symm
  subst hvw
  go_wp2_with fail
  refine Calls.mono (rSide_at Q3.out) ?_
  rintro e vv ⟨rfl, hvv⟩
  have hvw := hvv.symm
  subst hvw
  go_wp2_with fail
  refine Calls.mono (gCells_at G3.out) ?_
  rintro e vv ⟨rfl, hvv⟩
  have hvw := hvv.symm
  subst hvw
  go_wp2_with fail
  refine Calls.mono (rCells_at Hn.out Q3.out) ?_
  rintro e vv ⟨rfl, hvv⟩
  have hvw := hvv.symm
  subst hvw
  go_wp2_with fail
  refine Calls.mono (gEdges_at G3.out) ?_
  rintro e vv ⟨rfl, hvv⟩
  have hvw := hvv.symm
  subst hvw
  go_wp2_with fail
  refine Calls.mono (rEdges_at Q3.out) ?_
  rintro e vv ⟨rfl, hvv⟩
  have hvw := hvv.symm
  subst hvw
  go_wp2
  go_loopw [11] (fun iv wr => ∃ k : Nat, k ≤ len ∧ iv = .int .i64 (k : Nat) ∧ Ab w wr ∧ GridOf n gb wr ∧ RefOf n rb wr) (fun iv _ => len - (intOf iv).toNat)
  case atStart => exact ⟨0, by omega, rfl, AW3.out, G3.out, Q3.out⟩
  case round =>
    obtain ⟨k, hk, rfl, aw, gg, qq⟩ := hrel
    clear AW3 G3 Q3
    have AW0 := hid aw
    have G0 := hid gg
    have Q0 := hid qq
    clear gg qq
    clear aw
    by_cases hkl : k < len
    · have hkl' : (k : Int) < len := by omega
      obtain ⟨b, off, rfl, hb, a0, a1, a2, ⟨i0, i1, i2⟩, c0, c1, c2⟩ := HA.out.2.2 k hkl
      have d0 : wr.cell? ⟨b, off + k * 3, none⟩ = some (.int .i64 a0) := (Below.cell AW0.out (by exact hb)).trans c0
      have d1 : wr.cell? ⟨b, off + k * 3 + 1, none⟩ = some (.int .i64 a1) := (Below.cell AW0.out (by exact hb)).trans c1
      have d2 : wr.cell? ⟨b, off + k * 3 + 2, none⟩ = some (.int .i64 a2) := (Below.cell AW0.out (by exact hb)).trans c2
      have HI := hid (And.intro i0 (And.intro i1 i2))
      have HB := hid hb
      have HC0 := hid c0
      have HC1 := hid c1
      have HC2 := hid c2
      have HK := hid hkl
      clear i0 i1 i2 hb c0 c1 c2 hkl
      go_wp2_with fail
      refine Calls.mono (asked_nets Hn.out HI.out.2.1 HI.out.2.2 G0.out Q0.out) ?_
      rintro e v1 ⟨rfl, b1⟩
      have ST : Hid (Ab wr v1) := b1
      have AW1 : Hid (Ab w v1) := (AW0.out).trans ST.out
      have G1 : Hid (GridOf n gb v1) := G0.out.to ST.out
      have Q1 : Hid (RefOf n rb v1) := Q0.out.to ST.out
      clear ST G0 Q0 AW0
      clear b1
      clear d0 d1 d2
      have d0 : v1.cell? ⟨b, off + k * 3, none⟩ = some (.int .i64 a0) := (Below.cell AW1.out (by exact HB.out)).trans HC0.out
      have d1 : v1.cell? ⟨b, off + k * 3 + 1, none⟩ = some (.int .i64 a1) := (Below.cell AW1.out (by exact HB.out)).trans HC1.out
      have d2 : v1.cell? ⟨b, off + k * 3 + 2, none⟩ = some (.int .i64 a2) := (Below.cell AW1.out (by exact HB.out)).trans HC2.out
      go_wp2_with fail
      refine Calls.mono (asked_none a0 a1 a2 _) ?_
      rintro e v2 ⟨rfl, b2⟩
      have ST : Hid (Ab v1 v2) := b2
      have AW2 : Hid (Ab w v2) := (AW1.out).trans ST.out
      have G2 : Hid (GridOf n gb v2) := G1.out.to ST.out
      have Q2 : Hid (RefOf n rb v2) := Q1.out.to ST.out
      clear ST G1 Q1 AW1
      clear b2
      clear d0 d1 d2
      go_wp2
      go_roundw
      case rel => exact ⟨k + 1, by have := HK.out; omega, by simp, AW2.out, G2.out, Q2.out⟩
      case measure => have := HK.out; simp [intOf]; omega
    · obtain rfl : k = len := by omega
      go_wp2_with fail
      refine Calls.mono (nSide _) ?_
      rintro e vv ⟨rfl, hvv⟩
      have hvw := hvv.symm
      subst hvw
      go_wp2_with fail
      refine Calls.mono (nCells _) ?_
      rintro e vv ⟨rfl, hvv⟩
      have hvw := hvv.symm
      subst hvw
      go_wp2_with fail
      refine Calls.mono (nEdges _) ?_
      rintro e vv ⟨rfl, hvv⟩
      have hvw := hvv.symm
      subst hvw
      go_wp2
      go_ret
      exact ⟨rfl, AW0.out⟩
set_option maxRecDepth 100000 in
set_option maxHeartbeats 16000000 in
theorem exact_none (x : Int) (a : Option Addr) (len cap : Nat) (w : World) (hx : ¬ (1 ≤ x ∧ x ≤ 32)) (hA : IsAsks w a len cap) (hF : Fr w) :
    Calls Tryz.prog 3 #[.int .i64 x, .slice a len cap] w fun e w' => e = .returned (.bool true) ∧ Below w.heap.size w w' := by
  have HA := hid hA
  have hlen := hA.1
  have AWK := hid (awake9_at w hF)
  have NW := hid (fun v => new_no x v hx)
  have RN := hid (fun v => rnew_no x v hx)
  clear hx hF hA
  go_enter Tryz.func3, Tryz.ntmps3
  go_wp2_with fail
  refine AWK.out.mono ?_
  rintro e v1 ⟨rfl, b1⟩
  have AW1 : Hid (Ab w v1) := b1
  clear b1 AWK
  go_wp2_with fail
  refine Calls.mono (NW.out _) ?_
  rintro e vv ⟨rfl, hvv⟩
  have hvw := hvv.symm
  subst hvw
  go_wp2_with fail
  refine Calls.mono (RN.out _) ?_
  rintro e vv ⟨rfl, hvv⟩
  have hvw := hvv.symm
  subst hvw
  go_wp2_with fail
  refine Calls.mono (nSide _) ?_
  rintro e vv ⟨rfl, hvv⟩
  have hvw := hvv.symm
  subst hvw
  go_wp2_with fail
  refine Calls.mono (mSide _) ?_
  rintro e vv ⟨rfl, hvv⟩
  have hvw := hvv.symm
  subst hvw
  go_wp2_with fail
  refine Calls.mono (nCells _) ?_
  rintro e vv ⟨rfl, hvv⟩
  have hvw := hvv.symm
  subst hvw
  go_wp2_with fail
  refine Calls.mono (mCells _) ?_
  rintro e vv ⟨rfl, hvv⟩
  have hvw := hvv.symm
  subst hvw
  go_wp2_with fail
  refine Calls.mono (nEdges _) ?_
  rintro e vv ⟨rfl, hvv⟩
  have hvw := hvv.symm
  subst hvw
  go_wp2_with fail
  refine Calls.mono (mEdges _) ?_
  rintro e vv ⟨rfl, hvv⟩
  have hvw := hvv.symm
  subst hvw
  go_wp2
  go_loopw [11] (fun iv wr => ∃ k : Nat, k ≤ len ∧ iv = .int .i64 (k : Nat) ∧ Ab w wr) (fun iv _ => len - (intOf iv).toNat)
  case atStart => exact ⟨0, by omega, rfl, AW1.out⟩
  case round =>
    obtain ⟨k, hk, rfl, aw⟩ := hrel
    clear AW1
    have AW0 := hid aw
    clear aw
    by_cases hkl : k < len
    · have hkl' : (k : Int) < len := by omega
      obtain ⟨b, off, rfl, hb, a0, a1, a2, ⟨i0, i1, i2⟩, c0, c1, c2⟩ := HA.out.2.2 k hkl
      have d0 : wr.cell? ⟨b, off + k * 3, none⟩ = some (.int .i64 a0) := (Below.cell AW0.out (by exact hb)).trans c0
      have d1 : wr.cell? ⟨b, off + k * 3 + 1, none⟩ = some (.int .i64 a1) := (Below.cell AW0.out (by exact hb)).trans c1
      have d2 : wr.cell? ⟨b, off + k * 3 + 2, none⟩ = some (.int .i64 a2) := (Below.cell AW0.out (by exact hb)).trans c2
      have HI := hid (And.intro i0 (And.intro i1 i2))
      have HB := hid hb
      have HC0 := hid c0
      have HC1 := hid c1
      have HC2 := hid c2
      have HK := hid hkl
      clear i0 i1 i2 hb c0 c1 c2 hkl
      go_wp2_with fail
      refine Calls.mono (asked_none a0 a1 a2 _) ?_
      rintro e v1 ⟨rfl, b1⟩
      have ST : Hid (Ab wr v1) := b1
      have AW1 : Hid (Ab w v1) := (AW0.out).trans ST.out
      clear ST AW0
      clear b1
      clear d0 d1 d2
      have d0 : v1.cell? ⟨b, off + k * 3, none⟩ = some (.int .i64 a0) := (Below.cell AW1.out (by exact HB.out)).trans HC0.out
      have d1 : v1.cell? ⟨b, off + k * 3 + 1, none⟩ = some (.int .i64 a1) := (Below.cell AW1.out (by exact HB.out)).trans HC1.out
      have d2 : v1.cell? ⟨b, off + k * 3 + 2, none⟩ = some (.int .i64 a2) := (Below.cell AW1.out (by exact HB.out)).trans HC2.out
      go_wp2_with fail
      refine Calls.mono (asked_none a0 a1 a2 _) ?_
      rintro e v2 ⟨rfl, b2⟩
      have ST : Hid (Ab v1 v2) := b2
      have AW2 : Hid (Ab w v2) := (AW1.out).trans ST.out
      clear ST AW1
      clear b2
      clear d0 d1 d2
      go_wp2
      go_roundw
      case rel => exact ⟨k + 1, by have := HK.out; omega, by simp, AW2.out⟩
      case measure => have := HK.out; simp [intOf]; omega
    · obtain rfl : k = len := by omega
      go_wp2_with fail
      refine Calls.mono (nSide _) ?_
      rintro e vv ⟨rfl, hvv⟩
      have hvw := hvv.symm
      subst hvw
      go_wp2_with fail
      refine Calls.mono (nCells _) ?_
      rintro e vv ⟨rfl, hvv⟩
      have hvw := hvv.symm
      subst hvw
      go_wp2_with fail
      refine Calls.mono (nEdges _) ?_
      rintro e vv ⟨rfl, hvv⟩
      have hvw := hvv.symm
      subst hvw
      go_wp2
      go_ret
      exact ⟨rfl, AW0.out⟩
theorem gridExact_walk (x : Int) (a : Option Addr) (len cap : Nat) (w : World) (hA : IsAsks w a len cap) (hF : Fr w) :
    Calls Tryz.prog 3 #[.int .i64 x, .slice a len cap] w fun e w' => e = .returned (.bool true) ∧ Below w.heap.size w w' := by
  by_cases h : 1 ≤ x ∧ x ≤ 32
  · obtain ⟨n, rfl⟩ := Int.eq_ofNat_of_zero_le (show 0 ≤ x by omega)
    exact exact_nets n a len cap w (by omega) hA hF
  · exact exact_none x a len cap w h hA hF
end Go.Proofs.YtnklgfmemelcpaaGreatDoor

/-
  What the law's condition on the table of frames gives the walks; a struct of eight whole numbers.
-/
namespace Go.Proofs.YtnklgfmemelcpaaGreatDoor
open Go.ChangeShapes Go.WideShapes Go.ChangeAt Go.WideMaps Go.WideElems Go.RowKit Cu

theorem own : ownKnob Tryz.prog.godebug = none := by kernel_rfl
theorem gFrames : Tryz.prog.globalNamed "tarn/cube.frames" = some 0 := by kernel_rfl
theorem tFrames : (Tryz.prog.globals[0]?).map (·.type) = some 96 := by kernel_rfl
theorem door_met (os : Os) (args : Array Value) : laidMetH Tryz.prog [("tarn/cube.frames", Rows.laid_tarn_cube_frames)] ((World.doorLaid Tryz.prog 400 os).forCall (fun _ _ => 0) ⟨#[], args, []⟩).memory :=
  laidMetH_of_parts3 (fuel := 8) (laidMet_of_run' 8 (by kernel_rfl) (by kernel_rfl)) (by kernel_rfl) (by kernel_rfl)
set_option maxRecDepth 100000 in
theorem pt_data {H : Type} {enc : TypeId × Value → H} {w : World} {base fuel : Nat} {spare : Nat → Bool} {held : Bool} {cs : List Value} {x : DataW H × List MemPlace} (h : DataW.trod enc Tryz.prog w base spare held fuel 88 cs = some x)
    (a b c : Int) (e : x.1 = .agg [.lit (.int .i64 a), .lit (.int .i64 b), .lit (.int .i64 c)]) : cs = [.int .i64 a, .int .i64 b, .int .i64 c] := by
  have k3 : Tryz.prog.cellsOf 3 = 1 := by kernel_rfl
  have kp : Tryz.prog.cellsOf 88 = 3 := by kernel_rfl
  obtain ⟨xs, m, _, hx, hlen, hn, hel⟩ := DataW.trod_array Tryz.underlying88 h
  rw [hx] at e
  match xs, hn, cs, hlen.trans kp with
  | [x0, x1, x2], _, [c0, c1, c2], _ =>
    have h0 := hel 0 (by decide)
    have h1 := hel 1 (by decide)
    have h2 := hel 2 (by decide)
    simp [k3] at h0 h1 h2
    obtain ⟨n0, e0, f0, _⟩ := DataW.trod_int Tryz.underlying3 h0
    obtain ⟨n1, e1, f1, _⟩ := DataW.trod_int Tryz.underlying3 h1
    obtain ⟨n2, e2, f2, _⟩ := DataW.trod_int Tryz.underlying3 h2
    simp at e0 e1 e2
    simp [f0, f1, f2] at e
    rw [e0, e1, e2, e.1, e.2.1, e.2.2]
set_option maxRecDepth 100000 in
theorem frame_data {H : Type} {enc : TypeId × Value → H} {w : World} {base fuel : Nat} {spare : Nat → Bool} {held : Bool} {cs : List Value} {x : DataW H × List MemPlace} (h : DataW.trod enc Tryz.prog w base spare held fuel 95 cs = some x)
    (p q r : P3) (e : x.1 = .agg [.agg [.lit (.int .i64 p.1), .lit (.int .i64 p.2.1), .lit (.int .i64 p.2.2)], .agg [.lit (.int .i64 q.1), .lit (.int .i64 q.2.1), .lit (.int .i64 q.2.2)], .agg [.lit (.int .i64 r.1), .lit (.int .i64 r.2.1), .lit (.int .i64 r.2.2)]]) :
    cs = [.int .i64 p.1, .int .i64 p.2.1, .int .i64 p.2.2, .int .i64 q.1, .int .i64 q.2.1, .int .i64 q.2.2, .int .i64 r.1, .int .i64 r.2.1, .int .i64 r.2.2] := by
  have kp : Tryz.prog.cellsOf 88 = 3 := by kernel_rfl
  have kf : Tryz.prog.cellsOf 95 = 9 := by kernel_rfl
  obtain ⟨xs, m, _, hx, hlen, hn, hel⟩ := DataW.trod_struct Tryz.underlying95 h
  rw [hx] at e
  match xs, hn, cs, hlen.trans kf with
  | [x0, x1, x2], _, [c0, c1, c2, c3, c4, c5, c6, c7, c8], _ =>
    have h0 := hel 0 _ rfl
    have h1 := hel 1 _ rfl
    have h2 := hel 2 _ rfl
    simp [kp] at h0 h1 h2
    simp at e
    have e0 := pt_data h0 _ _ _ e.1
    have e1 := pt_data h1 _ _ _ e.2.1
    have e2 := pt_data h2 _ _ _ e.2.2
    simp at e0 e1 e2
    simp [e0, e1, e2]
set_option maxRecDepth 100000 in
theorem table_data {H : Type} {enc : TypeId × Value → H} {w : World} {base fuel : Nat} {spare : Nat → Bool} {held : Bool} {cs : List Value} {x : DataW H × List MemPlace} (h : DataW.trod enc Tryz.prog w base spare held fuel 96 cs = some x)
    (e : x.1 = Rows.laid_tarn_cube_frames) : ∀ f, f < 6 → (cs.drop (f * 9)).take 9 = [.int .i64 (cC f).1, .int .i64 (cC f).2.1, .int .i64 (cC f).2.2, .int .i64 (cR f).1, .int .i64 (cR f).2.1, .int .i64 (cR f).2.2, .int .i64 (cU f).1, .int .i64 (cU f).2.1, .int .i64 (cU f).2.2] := by
  have kf : Tryz.prog.cellsOf 95 = 9 := by kernel_rfl
  obtain ⟨xs, m, _, hx, hlen, hn, hel⟩ := DataW.trod_array Tryz.underlying96 h
  rw [hx] at e
  intro f hf
  have h0 := hel f hf
  rw [kf] at h0
  match xs, hn with
  | [x0, x1, x2, x3, x4, x5], _ =>
    simp only [List.map_cons, List.map_nil, Rows.laid_tarn_cube_frames, DataW.agg.injEq, List.cons.injEq] at e
    rcases six hf with rfl | rfl | rfl | rfl | rfl | rfl
    · exact frame_data h0 (cC 0) (cR 0) (cU 0) e.1
    · exact frame_data h0 (cC 1) (cR 1) (cU 1) e.2.1
    · exact frame_data h0 (cC 2) (cR 2) (cU 2) e.2.2.1
    · exact frame_data h0 (cC 3) (cR 3) (cU 3) e.2.2.2.1
    · exact frame_data h0 (cC 4) (cR 4) (cU 4) e.2.2.2.2.1
    · exact frame_data h0 (cC 5) (cR 5) (cU 5) e.2.2.2.2.2.1
/-- WHAT THE CONDITION GIVES THE WALKS -/
theorem of_laid {W : World} (h : laidMetH Tryz.prog [("tarn/cube.frames", Rows.laid_tarn_cube_frames)] W) : Fr W := by
  rw [MakeChecks.laidMetH_plain _ _ _ (by kernel_rfl)] at h
  obtain ⟨ps, ⟨g0, t0, cs0, f0, p0, q0, hg0, ht0, hv0, hd0, _⟩, _⟩ := h
  obtain rfl := Option.some.inj (gFrames.symm.trans hg0)
  obtain rfl := Option.some.inj (tFrames.symm.trans ht0)
  have T := table_data hd0 rfl
  have C := World.var?_cell hg0 hv0
  have K : ∀ f, f < 6 → ∀ k, k < 9 → W.cell? ⟨0, f * 9 + k, none⟩ = ((cs0.toList.drop (f * 9)).take 9)[k]? := by
    intro f hf k hk
    rw [C, List.getElem?_take, if_pos hk, List.getElem?_drop]
    simp
  have N : ∀ f, f < 6 → Fr9 W f := by
    intro f hf
    have K := K f hf
    rw [T f hf] at K
    exact ⟨⟨K 0 (by omega), K 1 (by omega), K 2 (by omega)⟩, ⟨K 3 (by omega), K 4 (by omega), K 5 (by omega)⟩, ⟨K 6 (by omega), K 7 (by omega), K 8 (by omega)⟩⟩
  refine ⟨?_, N⟩
  have c0 := (N 0 (by omega)).1.1
  rcases Nat.lt_or_ge 0 W.heap.size with h1 | h1
  · exact h1
  · rw [World.cell?, Array.getElem?_eq_none h1] at c0; cases c0
end Go.Proofs.YtnklgfmemelcpaaGreatDoor
