/-
  Some of the texts of this proof, one behind the other.
-/
import Derived.Test.YtpfndibgfkkcgaaDoorTie
import Derived.Test.YtpfndibgfkkcgaaDoorCards
import Derived.ProofKit
import Derived.LaidMore
import Derived.OpenShut
import Derived.Stop.Joined
import Derived.Carry
import Derived.Lib.SmallJoins
import Derived.WalkLawsBesides
import Derived.Deep.SlicePairs
import Derived.Deep.Slices
import Derived.Test.YtpfndibgfkkcgaaDoorZ08
namespace Go.Proofs.YtpfndibgfkkcgaaDoor
open Go.RowKit Go.Deep Cu
namespace Ms
open Sh
set_option maxRecDepth 100000 in
set_option maxHeartbeats 4000000 in
theorem move_bad (gb M N : Nat) (pw : Option Addr) (lw cw : Nat) (pf : Option Addr) (lf cf : Nat) (w : World) (h : ¬ (lw = M ∧ lf = N))
    (CE : Hid (Calls Tryd.prog 14 #[.pointer (some ⟨gb, 0, none⟩)] w fun e w' => e = .returned (.int .i64 (M : Nat)) ∧ w' = w))
    (ED : Hid (Calls Tryd.prog 15 #[.pointer (some ⟨gb, 0, none⟩)] w fun e w' => e = .returned (.int .i64 (N : Nat)) ∧ w' = w)) :
    Calls Tryd.prog 13 #[.pointer (some ⟨gb, 0, none⟩), .slice pw lw cw, .slice pf lf cf] w fun e w' => e = .returned (.tuple #[.slice none 0 0, .int .i64 1]) ∧ Below w.heap.size w w' := by
  by_cases c1 : lw = M
  · have d2 : ((lf : Int) != (N : Int)) = true := by simp; omega
    subst c1
    clear h
    go_enter Tryd.func13, Tryd.ntmps13
    go_wp2_with fail
    refine CE.out.mono ?_
    rintro e9 v9 ⟨rfl, hv9⟩
    have hv8 := hv9.symm
    subst hv8
    go_wp2_with fail
    refine ED.out.mono ?_
    rintro e9 v9 ⟨rfl, hv9⟩
    have hv8 := hv9.symm
    subst hv8
    go_wp2
    go_ret2
    exact ⟨rfl, Below.refl _ _⟩
  · have d1 : ((lw : Int) != (M : Int)) = true := by simp; omega
    clear h c1
    go_enter Tryd.func13, Tryd.ntmps13
    go_wp2_with fail
    refine CE.out.mono ?_
    rintro e9 v9 ⟨rfl, hv9⟩
    have hv8 := hv9.symm
    subst hv8
    go_wp2
    go_ret2
    exact ⟨rfl, Below.refl _ _⟩
theorem mv_in {n c : Nat} {W F : Nat → Int} (hn : 1 ≤ n) (hc : c < 6 * n * n) (hW : ∀ k, k < 6 * n * n → W64 (W k)) (hF : ∀ k, k < 12 * n * n → W64 (F k)) : -170141183460469231731687303715884105728 ≤ mv n W F c ∧ mv n W F c < 170141183460469231731687303715884105728 := by
  have hw := hW c hc
  have ht : ∀ s, s < 4 → -9223372036854775808 ≤ tk n F (4 * c + s) ∧ tk n F (4 * c + s) ≤ 9223372036854775808 := fun s hs => by
    have h := hF _ (eE_lt hn (t_lt hc hs))
    unfold W64 at h
    unfold tk eS
    split <;> omega
  have t0 := ht 0 (by omega)
  have t1 := ht 1 (by omega)
  have t2 := ht 2 (by omega)
  have t3 := ht 3 (by omega)
  unfold W64 at hw
  show _ ≤ W c - (0 + tk n F (4 * c + 0) + tk n F (4 * c + 1) + tk n F (4 * c + 2) + tk n F (4 * c + 3)) ∧ W c - (0 + tk n F (4 * c + 0) + tk n F (4 * c + 1) + tk n F (4 * c + 2) + tk n F (4 * c + 3)) < _
  omega
theorem n6_pos {n : Nat} (hn : 1 ≤ n) : 0 < 6 * n * n := Nat.mul_pos (Nat.mul_pos (by omega) hn) hn
theorem n12_pos {n : Nat} (hn : 1 ≤ n) : 0 < 12 * n * n := Nat.mul_pos (Nat.mul_pos (by omega) hn) hn
/-- MOVE OF LISTS THAT FIT -/
theorem move_fit (n gb : Nat) (pw : Option Addr) (cw : Nat) (W : Nat → Int) (pf : Option Addr) (cf : Nat) (F : Nat → Int) (w : World) (hn : 1 ≤ n ∧ n ≤ 32) (g : GridOf n gb w) (iW : IsI w pw (6 * n * n) W) (iF : IsI w pf (12 * n * n) F) :
    Calls Tryd.prog 13 #[.pointer (some ⟨gb, 0, none⟩), .slice pw (6 * n * n) cw, .slice pf (12 * n * n) cf] w fun e w' => Below w.heap.size w w' ∧ ((can n W F ∧ ∃ v, e = .returned (.tuple #[v, .int .i64 0]) ∧ Own w.heap.size v ((List.range (6 * n * n)).map (mv n W F)) w') ∨ ((¬ can n W F) ∧ e = .returned (.tuple #[.slice none 0 0, .int .i64 20]))) := by
  obtain ⟨h1, h2⟩ := n12 hn
  obtain ⟨wb, wo, rfl⟩ := iW.some0 (n6_pos hn.1)
  obtain ⟨fb, fo, rfl⟩ := iF.some0 (n12_pos hn.1)
  have hM : 6 * n * n ≤ 65536 := by have : 12 * n * n = 2 * (6 * n * n) := by rw [show 12 = 2 * 6 from rfl, Nat.mul_assoc 2 6 n, Nat.mul_assoc 2 (6 * n) n]
                                    omega
  have LR : ∀ k, k < 12 * n * n → edT n k / 4 < 6 * n * n ∧ mt n (edT n k) / 4 < 6 * n * n ∧ edT n k / 4 ≠ mt n (edT n k) / 4 := fun k hk => by
    obtain ⟨t1, t2, t3⟩ := edT_spec hn.1 hk
    have := ends_ne hn.1 hk
    exact ⟨t_cell t1, t_cell (mt_lt hn.1 t1), by omega⟩
  refine (move_go gb wb wo (6 * n * n) cw fb fo (12 * n * n) cf W F (fun k => edT n k / 4) (fun k => mt n (edT n k) / 4) (fun k => edT n k % 4) (fun k => mt n (edT n k) % 4) (fun k c => mv n W (upF k F) c) w hM (by omega)
    (fun v hv => gCells_at (g.to hv)) (fun v hv => gEdges_at (g.to hv)) (fun k hk v hv => ?_) iW iF LR (fun c hc => mv_nil W F hn.1 hc) (fun k hk c hc => mv_up W F hn.1 hk hc) (fun c hc => ?_)).mono ?_
  · obtain ⟨t1, t2, t3⟩ := edT_spec hn.1 hk
    have e := gEdge_ok hn t1 t2 (g.to hv)
    rw [t3, ← (mt_dec hn.1 t1).1, ← (mt_dec hn.1 t1).2] at e
    exact e
  · rw [mv_all W F hn.1 hc]
    exact mv_in hn.1 hc (fun k hk => (iW k hk).1) (fun k hk => (iF k hk).1)
  · have el : (List.range (6 * n * n)).map (fun c => mv n W (upF (12 * n * n) F) c) = (List.range (6 * n * n)).map (mv n W F) := List.map_congr_left fun c hc => mv_all W F hn.1 (List.mem_range.1 hc)
    have ec : (∀ k, k < 6 * n * n → gd (mv n W (upF (12 * n * n) F) k)) ↔ can n W F :=
      ⟨fun h c hc => by have := h c hc; rw [mv_all W F hn.1 hc] at this; exact this, fun h c hc => by rw [mv_all W F hn.1 hc]; exact h c hc⟩
    rintro e w' ⟨b1, ⟨h3, v, rfl, o⟩ | ⟨h3, rfl⟩⟩
    · exact ⟨b1, .inl ⟨ec.1 h3, v, rfl, by rw [← el]; exact o⟩⟩
    · exact ⟨b1, .inr ⟨fun h => h3 (ec.2 h), rfl⟩⟩
/-- MOVE -/
theorem moveC : MoveC := by
  intro n gb pw lw cw W pf lf cf F w hn g _ _ iW iF
  refine ⟨?_, ?_, ?_⟩
  · rintro ⟨rfl, rfl⟩ hc
    refine (move_fit n gb pw cw W pf cf F w hn g iW iF).mono ?_
    rintro e w' ⟨b1, ⟨_, v, rfl, o⟩ | ⟨h3, _⟩⟩
    · exact ⟨v, rfl, b1, o⟩
    · exact absurd hc h3
  · rintro ⟨rfl, rfl⟩ hc
    refine (move_fit n gb pw cw W pf cf F w hn g iW iF).mono ?_
    rintro e w' ⟨b1, ⟨h3, _⟩ | ⟨_, rfl⟩⟩
    · exact absurd h3 hc
    · exact ⟨rfl, b1⟩
  · intro h
    exact move_bad gb (6 * n * n) (12 * n * n) pw lw cw pf lf cf w h (gCells_at g) (gEdges_at g)
end Ms
end Go.Proofs.YtpfndibgfkkcgaaDoor

namespace Go.Proofs.YtpfndibgfkkcgaaDoor
open Go.ChangeShapes Go.WideShapes Go.ChangeAt Go.WideMaps Go.WideElems Go.RowKit Cu

theorem own : ownKnob Tryd.prog.godebug = none := by kernel_rfl
theorem gFrames : Tryd.prog.globalNamed "tarn/cube.frames" = some 0 := by kernel_rfl
theorem tFrames : (Tryd.prog.globals[0]?).map (·.type) = some 102 := by kernel_rfl
theorem door_met (os : Os) (args : Array Value) : laidMetH Tryd.prog [("tarn/cube.frames", Rows.laid_tarn_cube_frames)] ((World.doorLaid Tryd.prog 400 os).forCall (fun _ _ => 0) ⟨#[], args, []⟩).memory :=
  laidMetH_of_parts3 (fuel := 8) (laidMet_of_run' 8 (by kernel_rfl) (by kernel_rfl)) (by kernel_rfl) (by kernel_rfl)
set_option maxRecDepth 100000 in
theorem pt_data {H : Type} {enc : TypeId × Value → H} {w : World} {base fuel : Nat} {spare : Nat → Bool} {held : Bool} {cs : List Value} {x : DataW H × List MemPlace} (h : DataW.trod enc Tryd.prog w base spare held fuel 94 cs = some x)
    (a b c : Int) (e : x.1 = .agg [.lit (.int .i64 a), .lit (.int .i64 b), .lit (.int .i64 c)]) : cs = [.int .i64 a, .int .i64 b, .int .i64 c] := by
  have k3 : Tryd.prog.cellsOf 3 = 1 := by kernel_rfl
  have kp : Tryd.prog.cellsOf 94 = 3 := by kernel_rfl
  obtain ⟨xs, m, _, hx, hlen, hn, hel⟩ := DataW.trod_array Tryd.underlying94 h
  rw [hx] at e
  match xs, hn, cs, hlen.trans kp with
  | [x0, x1, x2], _, [c0, c1, c2], _ =>
    have h0 := hel 0 (by decide)
    have h1 := hel 1 (by decide)
    have h2 := hel 2 (by decide)
    simp [k3] at h0 h1 h2
    obtain ⟨n0, e0, f0, _⟩ := DataW.trod_int Tryd.underlying3 h0
    obtain ⟨n1, e1, f1, _⟩ := DataW.trod_int Tryd.underlying3 h1
    obtain ⟨n2, e2, f2, _⟩ := DataW.trod_int Tryd.underlying3 h2
    simp at e0 e1 e2
    simp [f0, f1, f2] at e
    rw [e0, e1, e2, e.1, e.2.1, e.2.2]
set_option maxRecDepth 100000 in
theorem frame_data {H : Type} {enc : TypeId × Value → H} {w : World} {base fuel : Nat} {spare : Nat → Bool} {held : Bool} {cs : List Value} {x : DataW H × List MemPlace} (h : DataW.trod enc Tryd.prog w base spare held fuel 101 cs = some x)
    (p q r : P3) (e : x.1 = .agg [.agg [.lit (.int .i64 p.1), .lit (.int .i64 p.2.1), .lit (.int .i64 p.2.2)], .agg [.lit (.int .i64 q.1), .lit (.int .i64 q.2.1), .lit (.int .i64 q.2.2)], .agg [.lit (.int .i64 r.1), .lit (.int .i64 r.2.1), .lit (.int .i64 r.2.2)]]) :
    cs = [.int .i64 p.1, .int .i64 p.2.1, .int .i64 p.2.2, .int .i64 q.1, .int .i64 q.2.1, .int .i64 q.2.2, .int .i64 r.1, .int .i64 r.2.1, .int .i64 r.2.2] := by
  have kp : Tryd.prog.cellsOf 94 = 3 := by kernel_rfl
  have kf : Tryd.prog.cellsOf 101 = 9 := by kernel_rfl
  obtain ⟨xs, m, _, hx, hlen, hn, hel⟩ := DataW.trod_struct Tryd.underlying101 h
  rw [hx] at e
  match xs, hn, cs, hlen.trans kf with
  | [x0, x1, x2], _, [c0, c1, c2, c3, c4, c5, c6, c7, c8], _ =>
    have h0 := hel 0 _ rfl
    have h1 := hel 1 _ rfl
    have h2 := hel 2 _ rfl
    simp [kp] at h0 h1 h2
    simp at e
    have e0 := pt_data h0 _ _ _ e.1
    have e1 := pt_data h1 _ _ _ e.2.1
    have e2 := pt_data h2 _ _ _ e.2.2
    simp at e0 e1 e2
    simp [e0, e1, e2]
set_option maxRecDepth 100000 in
theorem table_data {H : Type} {enc : TypeId × Value → H} {w : World} {base fuel : Nat} {spare : Nat → Bool} {held : Bool} {cs : List Value} {x : DataW H × List MemPlace} (h : DataW.trod enc Tryd.prog w base spare held fuel 102 cs = some x)
    (e : x.1 = Rows.laid_tarn_cube_frames) : ∀ f, f < 6 → (cs.drop (f * 9)).take 9 = [.int .i64 (cC f).1, .int .i64 (cC f).2.1, .int .i64 (cC f).2.2, .int .i64 (cR f).1, .int .i64 (cR f).2.1, .int .i64 (cR f).2.2, .int .i64 (cU f).1, .int .i64 (cU f).2.1, .int .i64 (cU f).2.2] := by
  have kf : Tryd.prog.cellsOf 101 = 9 := by kernel_rfl
  obtain ⟨xs, m, _, hx, hlen, hn, hel⟩ := DataW.trod_array Tryd.underlying102 h
  rw [hx] at e
  intro f hf
  have h0 := hel f hf
  rw [kf] at h0
  match xs, hn with
  | [x0, x1, x2, x3, x4, x5], _ =>
    simp only [List.map_cons, List.map_nil, Rows.laid_tarn_cube_frames, DataW.agg.injEq, List.cons.injEq] at e
    rcases six hf with rfl | rfl | rfl | rfl | rfl | rfl
    · exact frame_data h0 (cC 0) (cR 0) (cU 0) e.1
    · exact frame_data h0 (cC 1) (cR 1) (cU 1) e.2.1
    · exact frame_data h0 (cC 2) (cR 2) (cU 2) e.2.2.1
    · exact frame_data h0 (cC 3) (cR 3) (cU 3) e.2.2.2.1
    · exact frame_data h0 (cC 4) (cR 4) (cU 4) e.2.2.2.2.1
    · exact frame_data h0 (cC 5) (cR 5) (cU 5) e.2.2.2.2.2.1
/-- WHAT THE CONDITION GIVES THE WALKS -/
theorem of_laid {W : World} (h : laidMetH Tryd.prog [("tarn/cube.frames", Rows.laid_tarn_cube_frames)] W) : Fr W := by
  rw [MakeChecks.laidMetH_plain _ _ _ (by kernel_rfl)] at h
  obtain ⟨ps, ⟨g0, t0, cs0, f0, p0, q0, hg0, ht0, hv0, hd0, _⟩, _⟩ := h
  obtain rfl := Option.some.inj (gFrames.symm.trans hg0)
  obtain rfl := Option.some.inj (tFrames.symm.trans ht0)
  have T := table_data hd0 rfl
  have C := World.var?_cell hg0 hv0
  have K : ∀ f, f < 6 → ∀ k, k < 9 → W.cell? ⟨0, f * 9 + k, none⟩ = ((cs0.toList.drop (f * 9)).take 9)[k]? := by
    intro f hf k hk
    rw [C, List.getElem?_take, if_pos hk, List.getElem?_drop]
    simp
  have N : ∀ f, f < 6 → Fr9 W f := by
    intro f hf
    have K := K f hf
    rw [T f hf] at K
    exact ⟨⟨K 0 (by omega), K 1 (by omega), K 2 (by omega)⟩, ⟨K 3 (by omega), K 4 (by omega), K 5 (by omega)⟩, ⟨K 6 (by omega), K 7 (by omega), K 8 (by omega)⟩⟩
  refine ⟨?_, N⟩
  have c0 := (N 0 (by omega)).1.1
  rcases Nat.lt_or_ge 0 W.heap.size with h1 | h1
  · exact h1
  · rw [World.cell?, Array.getElem?_eq_none h1] at c0; cases c0
end Go.Proofs.YtpfndibgfkkcgaaDoor

namespace Go.Proofs.YtpfndibgfkkcgaaDoor
open Go.ChangeShapes Go.WideShapes Go.ChangeAt Go.WideMaps Go.WideElems Go.RowKit Go.Deep
namespace Sh
theorem trod_int {H : Type} {enc : TypeId × Value → H} {P : Program} {w : World} {base : Nat} {spare : Nat → Bool} {held : Bool} {t : TypeId} {fuel : Nat} {v : Value} {x : DataW H × List MemPlace} (ht : P.underlying t = some (.int .i64)) (h : DataW.trod enc P w base spare held fuel t [v] = some x) :
    ∃ b, v = .int .i64 b ∧ (-9223372036854775808 ≤ b ∧ b ≤ 9223372036854775807) := by
  obtain ⟨k, e, _, wf⟩ := DataW.trod_int ht h
  simp at e
  simp only [Lit.wf, Bool.and_eq_true, decide_eq_true_eq] at wf
  have q1 : IntKind.i64.min = -9223372036854775808 := by decide
  have q2 : IntKind.i64.max = 9223372036854775807 := by decide
  rw [q1, q2] at wf
  exact ⟨k, e, wf⟩
theorem cell_block {w : World} {a : Addr} {v : Value} (h : w.cell? a = some v) : a.block < w.heap.size := by
  by_cases c : a.block < w.heap.size
  · exact c
  · exfalso
    have : w.heap[a.block]? = none := by simp; omega
    simp [World.cell?, this] at h
theorem pick_fn {α : Type} {n : Nat} {R : Nat → α → Prop} (d : α) (h : ∀ i, i < n → ∃ x, R i x) : ∃ f : Nat → α, ∀ i, i < n → R i (f i) := by
  have : ∀ i, ∃ x, i < n → R i x := fun i => by
    by_cases c : i < n
    · obtain ⟨x, h1⟩ := h i c
      exact ⟨x, fun _ => h1⟩
    · exact ⟨d, fun h => absurd h c⟩
  exact ⟨fun i => (this i).choose, fun i hi => (this i).choose_spec hi⟩
theorem list_open {H : Type} {enc : TypeId × Value → H} {W : World} {cs : List Value} {fuel : Nat} {x : DataW H × List MemPlace}
    (hf : DataW.trod enc Tryd.prog W 0 (fun _ => true) true fuel 22 cs = some x) : ∃ a0 len cap xs, cs = [.slice a0 len cap] ∧ IsI W a0 len xs ∧ len ≤ cap ∧ cap ≤ maxLen := by
  rcases open_slice1 Tryd.underlying22 (by kernel_rfl) hf with ⟨hcs, _⟩ | ⟨a, l, c, m, n, V, D, Pl, hcs, _, hl, hm, hmm, _, hx⟩
  · exact ⟨none, 0, 0, fun _ => 0, hcs, fun k hk => by omega, Nat.le_refl _, Nat.zero_le _⟩
  · simp only [if_true] at hmm
    have each : ∀ i, i < l → ∃ x : Int, W.cell? (a.add i) = some (.int .i64 x) ∧ (-9223372036854775808 ≤ x ∧ x ≤ 9223372036854775807) := by
      intro i hi
      obtain ⟨h1, h2⟩ := hx i (by omega)
      obtain ⟨x, e, wx⟩ := trod_int Tryd.underlying2 h2
      rw [e] at h1
      exact ⟨x, h1, wx⟩
    obtain ⟨f, hf⟩ := pick_fn 0 each
    refine ⟨some a, l, c, f, hcs, fun k hk => ⟨(hf k hk).2, ?_⟩, hl, hm⟩
    have h0 := (hf k hk).1
    have z := (hf 0 (by omega)).1
    obtain ⟨b, off, spot⟩ := a
    have hspot : spot = none := by simpa [Addr.add] using World.cell?_spot z
    subst hspot
    rw [add_off] at h0
    exact ⟨b, off, rfl, cell_block h0, h0⟩
end Sh
end Go.Proofs.YtpfndibgfkkcgaaDoor
