/-
  Some of the texts of this proof, one behind the other.
-/
import Derived.Test.YtpfoohpncbkkfaaDoorTie
import Derived.Test.YtpfoohpncbkkfaaDoorCards
import Derived.ProofKit
import Derived.LaidMore
import Derived.OpenShut
import Derived.Stop.Joined
import Derived.Carry
import Derived.Lib.SmallJoins
import Derived.WalkLawsBesides
import Derived.Test.YtpfoohpncbkkfaaDoorZ16
namespace Go.Proofs.YtpfoohpncbkkfaaDoor
open Go.RowKit Tf Cu Go.Deep Rl
namespace Fc
theorem fsgp_lt {n k : Nat} (hn : 1 ≤ n ∧ n ≤ 32) (hk : k < 12 * n * n) : gpE n k < 18446744073709551616 := by
  obtain ⟨t1, _, _⟩ := edT_spec hn.1 hk
  have h := (GpC_le hn (t_cell t1) (s := edT n k % 4) (by omega)).2
  unfold gpE
  omega
theorem fsfit (gb : Nat) (pb pw pt ps : Option Addr) (lb cb lw cw lt ct ls cs : Nat) (sky st : Int) {n : Nat} (q : Bool) (w : World) (g : GridOf n gb w) (hq : q = true ↔ fit4 n lb lw lt ls) :
    Calls Tryd.prog 27 #[.pointer (some ⟨gb, 0, none⟩), .agg #[.slice pb lb cb, .slice pw lw cw, .slice pt lt ct, .slice ps ls cs, .int .i64 sky, .int .i64 st]] w fun e w' => e = .returned (.bool q) ∧ Below w.heap.size w w' := by
  refine ffits_at gb pb pw pt ps lb cb lw cw lt ct ls cs sky st (6 * n * n) (12 * n * n) q w ?_ (fun v hv => (gCells_at (g.to hv)).mono fun _ _ h => ⟨h.1, by obtain ⟨_, rfl⟩ := h; exact Below.refl _ _⟩) (fun v hv => (gEdges_at (g.to hv)).mono fun _ _ h => ⟨h.1, by obtain ⟨_, rfl⟩ := h; exact Below.refl _ _⟩)
  unfold fit4 at hq
  have e : ∀ a b : Nat, ((a : Int) == (b : Int)) = decide (a = b) := fun a b => by rw [Bool.eq_iff_iff]; simp; omega
  have qf : ¬ (lb = 6 * n * n ∧ lw = 6 * n * n ∧ lt = 6 * n * n ∧ ls = 12 * n * n) → q = false := fun h => by
    cases hc : q
    · rfl
    · exact absurd (hq.1 hc) h
  rw [e, e, e, e]
  by_cases c1 : lb = 6 * n * n
  · by_cases c2 : lw = 6 * n * n
    · by_cases c3 : lt = 6 * n * n
      · refine .inr (.inr (.inr ⟨decide_eq_true c1, decide_eq_true c2, decide_eq_true c3, ?_⟩))
        rw [Bool.eq_iff_iff, decide_eq_true_eq, hq]
        exact ⟨fun h => ⟨c1, c2, c3, h⟩, fun h => h.2.2.2⟩
      · exact .inr (.inr (.inl ⟨decide_eq_true c1, decide_eq_true c2, decide_eq_false c3, qf (fun h => c3 h.2.2.1)⟩))
    · exact .inr (.inl ⟨decide_eq_true c1, decide_eq_false c2, qf (fun h => c2 h.2.1)⟩)
  · exact .inl ⟨decide_eq_false c1, qf (fun h => c1 h.1)⟩
/-- an edge that is there, of a sea that fits -/
theorem fsedge {n gb : Nat} {pb pw ps : Option Addr} {lb lw lt ls : Nat} {B : Nat → Nat} {Wt : Nat → Int} {Sp : Nat → Nat} (cb cw : Nat) (pt : Option Addr) (ct cs : Nat) (sky st : Int) {k : Nat} {w : World} (hn : 1 ≤ n ∧ n ≤ 32) (g : GridOf n gb w) (IB : IsFl w pb lb B) (IW : IsIn w pw lw Wt) (IS : IsFl w ps ls Sp) (hf : fit4 n lb lw lt ls) (hk : k < 12 * n * n) :
    Calls Tryd.prog 33 #[.pointer (some ⟨gb, 0, none⟩), .agg #[.slice pb lb cb, .slice pw lw cw, .slice pt lt ct, .slice ps ls cs, .int .i64 sky, .int .i64 st], .int .i64 (k : Nat)] w fun x w' => x = .returned (.tuple #[.agg #[.float .f64 (B (eL n k)), .int .i64 (Wt (eL n k)), .int .i64 (arC n (eL n k)), .float .f64 (B (eR n k)), .int .i64 (Wt (eR n k)), .int .i64 (arC n (eR n k)), .float .f64 (gpE n k), .float .f64 (Sp k)], .bool true]) ∧ Below w.heap.size w w' := by
  obtain ⟨c1, c2, _⟩ := ends16 hn.1 hk
  have hf2 := hf
  obtain ⟨f1, f2, f3, f4⟩ := hf2
  subst f1 f2 f3 f4
  obtain ⟨bb, bo, rfl⟩ := IB.some0 (by omega)
  obtain ⟨wb, wo, rfl⟩ := IW.some0 (by omega)
  obtain ⟨sb, so, rfl⟩ := IS.some0 (by omega)
  exact edgeOf_go gb bb bo wb wo sb so (6 * n * n) (12 * n * n) cb cw cs pt (6 * n * n) ct sky st k (eL n k) (edT n k % 4) (eR n k) (mt n (edT n k) % 4) (B (eL n k)) (B (eR n k)) (gpE n k) (Sp k) (Wt (eL n k)) (arC n (eL n k)) (Wt (eR n k)) (arC n (eR n k)) w (by omega)
    (fun v hv => edge16 hn hk (g.to hv)) (fun v hv => fsfit gb _ _ pt _ _ cb _ cw _ ct _ cs sky st true v (g.to hv) (by simp [hf]))
    (fun v hv => cellOf_at gb bb bo wb wo (6 * n * n) cb cw pt _ _ ct _ cs sky st (eL n k) (B (eL n k)) (Wt (eL n k)) (arC n (eL n k)) v (by omega) (fun u hu => ((IB.below (hv.trans hu)).at0 c1).2.2) (fun u hu => ((IW.below (hv.trans hu)).at0 c1).2.2) (fun u hu => gArea_ok hn c1 (g.to (hv.trans hu))))
    (fun v hv => cellOf_at gb bb bo wb wo (6 * n * n) cb cw pt _ _ ct _ cs sky st (eR n k) (B (eR n k)) (Wt (eR n k)) (arC n (eR n k)) v (by omega) (fun u hu => ((IB.below (hv.trans hu)).at0 c2).2.2) (fun u hu => ((IW.below (hv.trans hu)).at0 c2).2.2) (fun u hu => gArea_ok hn c2 (g.to (hv.trans hu))))
    (fun v hv => gGap_ok hn hk (g.to hv)) (fun v hv => ((IS.below hv).at0 hk).2.2)
/-- none is there, or the sea doesn't fit -/
theorem fsnone {n gb : Nat} (pb pw : Option Addr) (lb lw cb cw : Nat) (pt : Option Addr) (lt ct : Nat) (ps : Option Addr) (ls cs : Nat) (sky st e : Int) {w : World} (hn : 1 ≤ n ∧ n ≤ 32) (g : GridOf n gb w) (h4 : ¬ has4 n lb lw lt ls e) :
    Calls Tryd.prog 33 #[.pointer (some ⟨gb, 0, none⟩), .agg #[.slice pb lb cb, .slice pw lw cw, .slice pt lt ct, .slice ps ls cs, .int .i64 sky, .int .i64 st], .int .i64 e] w fun x w' => x = .returned (.tuple #[.agg #[.float .f64 0, .int .i64 0, .int .i64 0, .float .f64 0, .int .i64 0, .int .i64 0, .float .f64 0, .float .f64 0], .bool false]) ∧ Below w.heap.size w w' := by
  cases hr : inR e (12 * n * n : Nat)
  · exact edgeOf_no (.pointer (some ⟨gb, 0, none⟩)) pb pw pt ps lb cb lw cw lt ct ls cs sky st e w (fun v hv => gEdge_no hr (g.to hv))
  · have hf : ¬ fit4 n lb lw lt ls := fun h => h4 ⟨h, hr⟩
    obtain ⟨k, rfl, hk⟩ := inR_nat hr
    exact edgeOf_bad gb pb pw pt ps lb cb lw cw lt ct ls cs sky st (k : Int) (eL n k) (edT n k % 4) (eR n k) (mt n (edT n k) % 4) w (fun v hv => edge16 hn hk (g.to hv)) (fun v hv => fsfit gb pb pw pt ps lb cb lw cw lt ct ls cs sky st false v (g.to hv) (by simp [hf]))
theorem fsopen {n : Nat} {pb pw : Option Addr} {lb lw lt ls : Nat} {B : Nat → Nat} {Wt : Nat → Int} (k : Nat) (w : World) (u gap : Nat) (hk : k < 12 * n * n) (hn : 1 ≤ n ∧ n ≤ 32) (hf : fit4 n lb lw lt ls) (IB : IsFl w pb lb B) (IW : IsIn w pw lw Wt) (v : World) :
    Calls Tryd.prog 34 #[.agg #[.float .f64 (B (eL n k)), .int .i64 (Wt (eL n k)), .int .i64 (arC n (eL n k)), .float .f64 (B (eR n k)), .int .i64 (Wt (eR n k)), .int .i64 (arC n (eR n k)), .float .f64 gap, .float .f64 u]] v fun x w' => x = .returned (.bool (opE n B Wt k)) ∧ Below v.heap.size v w' := by
  obtain ⟨c1, c2, _⟩ := ends16 hn.1 hk
  obtain ⟨f1, f2, f3, f4⟩ := hf
  subst f1 f2
  exact eopen_at _ _ _ _ _ _ _ _ v (IB _ c1).1 (IB _ c2).1 (IW _ c1).1.2 (IW _ c2).1.2 (arC_in n _).2 (arC_in n _).2
theorem openC : OpenC := by
  intro n gb pb lb cb B pw lw cw Wt pt lt ct ps ls cs sky st e w hn g IB IW hS he
  obtain ⟨Sp, IS⟩ := hS
  refine ⟨fun h4 => ?_, fun h4 => ?_⟩
  · obtain ⟨hf, hr⟩ := h4
    obtain ⟨k, rfl, hk⟩ := inR_nat hr
    obtain ⟨c1, c2, _⟩ := ends16 hn.1 hk
    rw [Int.toNat_natCast]
    exact open_go _ pb pw pt ps lb cb lw cw lt ct ls cs sky st (k : Int) _ _ _ _ _ _ _ _ _ w (fun v hv => fsedge cb cw pt ct cs sky st hn (g.to hv) (IB.below hv) (IW.below hv) (IS.below hv) hf hk) (fun v => fsopen k w (Sp k) (gpE n k) hk hn hf IB IW v)
  · exact open_no _ pb pw pt ps lb cb lw cw lt ct ls cs sky st e w (fun v hv => fsnone pb pw lb lw cb cw pt lt ct ps ls cs sky st e hn (g.to hv) h4)
theorem speedC : SpeedC := by
  intro n gb sd dt gr dr lim rv pr lr cr pb lb cb B pw lw cw Wt pt lt ct ps ls cs Sp sky st e w hn g IB IW IS hp he
  refine ⟨fun h4 => ?_, fun h4 => ?_⟩
  · obtain ⟨hf, hr⟩ := h4
    obtain ⟨k, rfl, hk⟩ := inR_nat hr
    obtain ⟨c1, c2, _⟩ := ends16 hn.1 hk
    have f4 := hf.2.2.2
    have hB : ∀ c, c < 6 * n * n → B c < 18446744073709551616 := fun c hc => (IB c (by have := hf.1; omega)).1
    have hW : ∀ c, c < 6 * n * n → Wt c ≤ 9223372036854775807 := fun c hc => (IW c (by have := hf.2.1; omega)).1.2
    have EO : Hid (∀ v, Ab w v → _) := fun v hv => fsedge cb cw pt ct cs sky st hn (g.to hv) (IB.below hv) (IW.below hv) (IS.below hv) hf hk
    have OP : Hid (∀ v, _) := fun v => fsopen k w (Sp k) (gpE n k) hk hn hf IB IW v
    rw [Int.toNat_natCast]
    unfold spE
    by_cases o : opE n B Wt k = true
    · rw [if_pos o]
      rw [o] at OP
      have l1 := lvl_lt (hB _ c1) (hW _ c1) (arC_in n (eL n k)).2
      have l2 := lvl_lt (hB _ c2) (hW _ c2) (arC_in n (eR n k)).2
      have d1 : dpB (Wt (eL n k)) (arC n (eL n k)) < 18446744073709551616 := by have := dp_le (hW _ c1) (arC_in n (eL n k)).2; omega
      have d2 : dpB (Wt (eR n k)) (arC n (eR n k)) < 18446744073709551616 := by have := dp_le (hW _ c2) (arC_in n (eR n k)).2; omega
      have su : Sp k < 18446744073709551616 := (IS k (by omega)).1
      exact speed_go _ sd dt gr dr lim rv pr lr cr pb pw pt ps lb cb lw cw lt ct ls cs sky st (k : Int) _ _ _ _ _ _ _ _ _ (fun r => IsC r (u1B gr dt (Sp k) (lvC n B Wt (eL n k)) (lvC n B Wt (eR n k)) (gpE n k))) (fun r => r < 18446744073709551616 ∧ fgt r 0 = fgt (Fc.hB (dpC n Wt (eL n k)) (dpC n Wt (eR n k))) 0 ∧ (fgt r 0 = true → r = Fc.hB (dpC n Wt (eL n k)) (dpC n Wt (eR n k)))) w EO OP
        (fun v => pulled_at _ _ _ _ _ _ _ _ sd dt gr dr lim rv pr lr cr _ _ v hp.1 hp.2.1 su l1 l2 (fsgp_lt hn hk) (fun z => clevel_at _ _ _ z (hB _ c1) (hW _ c1) (arC_in n _).2) (fun z => clevel_at _ _ _ z (hB _ c2) (hW _ c2) (arC_in n _).2))
        (fun v => edepth_at _ _ _ _ _ _ _ _ _ _ v d1 d2 (fun z => cdepth_at _ _ _ z (hW _ c1) (arC_in n _).2) (fun z => cdepth_at _ _ _ z (hW _ c2) (arC_in n _).2))
        (fun u h iu ih v => by
          obtain ⟨h1, h2, h3⟩ := ih
          cases q : fgt h 0
          · rw [q] at h2
            have e : spB gr dt dr (Sp k) (lvC n B Wt (eL n k)) (lvC n B Wt (eR n k)) (dpC n Wt (eL n k)) (dpC n Wt (eR n k)) (gpE n k) = 0 := by unfold spB; rw [if_neg (by rw [← h2]; decide)]
            rw [e]
            exact dragged_no sd dt gr dr lim rv pr lr cr u h v q
          · exact dragged_yes sd dt gr dr lim rv pr lr cr u h _ _ _ _ _ _ v hp.1 hp.2.2 h1 iu (h3 q) q)
    · rw [if_neg o]
      have o2 : opE n B Wt k = false := by simpa using o
      rw [o2] at OP
      exact speed_shut _ sd dt gr dr lim rv pr lr cr pb pw pt ps lb cb lw cw lt ct ls cs sky st (k : Int) _ _ _ _ _ _ _ _ w EO OP
  · exact speed_no _ sd dt gr dr lim rv pr lr cr pb pw pt ps lb cb lw cw lt ct ls cs sky st e w (fun v hv => fsnone pb pw lb lw cb cw pt lt ct ps ls cs sky st e hn (g.to hv) h4)
theorem speedsC : SpeedsC := by
  intro n gb sd dt gr dr lim rv pr lr cr pb lb cb B pw lw cw Wt pt lt ct ps ls cs Sp sky st w hn g IB IW IS hp
  have en := n6_16 hn
  refine ⟨fun hf => ?_, fun hf => ?_⟩
  · refine (speeds_go gb sd dt gr dr lim rv pr lr cr pb pw pt ps lb cb lw cw lt ct ls cs sky st (12 * n * n) (spE n gr dt dr B Wt Sp) w (by omega) (fun v hv => fsfit gb pb pw pt ps lb cb lw cw lt ct ls cs sky st true v (g.to hv) (by simp [hf])) (fun v hv => gEdges_at (g.to hv)) (fun c hc v hv => ?_)).mono ?_
    · have h := (speedC n gb sd dt gr dr lim rv pr lr cr pb lb cb B pw lw cw Wt pt lt ct ps ls cs Sp sky st (c : Nat) v hn (g.to hv) (IB.below hv) (IW.below hv) (IS.below hv) hp (by omega)).1 ⟨hf, inR_true hc⟩
      rw [Int.toNat_natCast] at h
      exact h
    · rintro e w' ⟨b, rfl, hb, ro, hB⟩
      exact ⟨_, rfl, hb, row_ownF ro hB (Nat.le_refl _) (by unfold maxLen; omega) (fun i hi => rfl)⟩
  · exact speeds_no gb sd dt gr dr lim rv pr lr cr pb pw pt ps lb cb lw cw lt ct ls cs sky st w (fun v hv => fsfit gb pb pw pt ps lb cb lw cw lt ct ls cs sky st false v (g.to hv) (by simp [hf]))
end Fc
end Go.Proofs.YtpfoohpncbkkfaaDoor

namespace Go.Proofs.YtpfoohpncbkkfaaDoor
open Go.ChangeShapes Go.WideShapes Go.ChangeAt Go.WideMaps Go.WideElems Go.RowKit Go.Deep
theorem array6' {c : Array Value} (h : c.size = 6) : ∃ v0 v1 v2 v3 v4 v5, c = #[v0, v1, v2, v3, v4, v5] := by
  rcases c with ⟨l⟩
  match l, h with
  | [v0, v1, v2, v3, v4, v5], _ => exact ⟨v0, v1, v2, v3, v4, v5, rfl⟩
set_option maxRecDepth 100000 in
theorem sea12_open {H : Type} {enc : TypeId × Value → H} {W : World} {r : Reach} {b0 : Nat} {v : Value} {d : DataW H} {p : List MemPlace} (hv : Value.okWide Tryd.prog W r b0 29 v) (h : DataW.Trod enc Tryd.prog W 0 (fun _ => true) true 29 v d p) :
    ∃ pb lb cb B pw lw cw Wt pt lt ct Tr ps ls cs Sp sky st, v = .agg #[.slice pb lb cb, .slice pw lw cw, .slice pt lt ct, .slice ps ls cs, .int .i64 sky, .int .i64 st] ∧ SeaAt W pb lb cb B pw lw cw Wt pt lt ct Tr ps ls cs Sp := by
  have hC : Tryd.prog.cellsOf 29 = 6 := by kernel_rfl
  obtain ⟨cs, rfl, hsz⟩ := okWide_struct Tryd.underlying29 hv
  obtain ⟨v0, v1, v2, v3, v4, v5, rfl⟩ := array6' (hsz.trans hC)
  obtain ⟨fuel, hf⟩ := h
  have hf' : DataW.trod enc Tryd.prog W 0 (fun _ => true) true fuel 29 [v0, v1, v2, v3, v4, v5] = some (d, p) := by simpa [Value.cells] using hf
  obtain ⟨pb, lb, cb, B, pw, lw, cw, Wt, pt, lt, ct, Tr, ps, ls, cs, Sp, sky, st, ⟨rfl, rfl, rfl, rfl, rfl, rfl⟩, hs⟩ := sea_cells hf'
  exact ⟨pb, lb, cb, B, pw, lw, cw, Wt, pt, lt, ct, Tr, ps, ls, cs, Sp, sky, st, rfl, hs⟩
end Go.Proofs.YtpfoohpncbkkfaaDoor

namespace Go.Proofs.YtpfoohpncbkkfaaDoor
open Go.ChangeShapes Go.WideShapes Go.ChangeAt Go.WideMaps Go.WideElems Go.RowKit Cu

theorem own : ownKnob Tryd.prog.godebug = none := by kernel_rfl
theorem gFrames : Tryd.prog.globalNamed "tarn/cube.frames" = some 1 := by kernel_rfl
theorem tFrames : (Tryd.prog.globals[1]?).map (·.type) = some 113 := by kernel_rfl
theorem door_met (os : Os) (args : Array Value) : laidMetH Tryd.prog [("tarn/cube.frames", Rows.laid_tarn_cube_frames)] ((World.doorLaid Tryd.prog 400 os).forCall (fun _ _ => 0) ⟨#[], args, []⟩).memory :=
  laidMetH_of_parts3 (fuel := 8) (laidMet_of_run' 8 (by kernel_rfl) (by kernel_rfl)) (by kernel_rfl) (by kernel_rfl)
set_option maxRecDepth 100000 in
theorem pt_data {H : Type} {enc : TypeId × Value → H} {w : World} {base fuel : Nat} {spare : Nat → Bool} {held : Bool} {cs : List Value} {x : DataW H × List MemPlace} (h : DataW.trod enc Tryd.prog w base spare held fuel 105 cs = some x)
    (a b c : Int) (e : x.1 = .agg [.lit (.int .i64 a), .lit (.int .i64 b), .lit (.int .i64 c)]) : cs = [.int .i64 a, .int .i64 b, .int .i64 c] := by
  have k3 : Tryd.prog.cellsOf 3 = 1 := by kernel_rfl
  have kp : Tryd.prog.cellsOf 105 = 3 := by kernel_rfl
  obtain ⟨xs, m, _, hx, hlen, hn, hel⟩ := DataW.trod_array Tryd.underlying105 h
  rw [hx] at e
  match xs, hn, cs, hlen.trans kp with
  | [x0, x1, x2], _, [c0, c1, c2], _ =>
    have h0 := hel 0 (by decide)
    have h1 := hel 1 (by decide)
    have h2 := hel 2 (by decide)
    simp [k3] at h0 h1 h2
    obtain ⟨n0, e0, f0, _⟩ := DataW.trod_int Tryd.underlying3 h0
    obtain ⟨n1, e1, f1, _⟩ := DataW.trod_int Tryd.underlying3 h1
    obtain ⟨n2, e2, f2, _⟩ := DataW.trod_int Tryd.underlying3 h2
    simp at e0 e1 e2
    simp [f0, f1, f2] at e
    rw [e0, e1, e2, e.1, e.2.1, e.2.2]
set_option maxRecDepth 100000 in
theorem frame_data {H : Type} {enc : TypeId × Value → H} {w : World} {base fuel : Nat} {spare : Nat → Bool} {held : Bool} {cs : List Value} {x : DataW H × List MemPlace} (h : DataW.trod enc Tryd.prog w base spare held fuel 112 cs = some x)
    (p q r : P3) (e : x.1 = .agg [.agg [.lit (.int .i64 p.1), .lit (.int .i64 p.2.1), .lit (.int .i64 p.2.2)], .agg [.lit (.int .i64 q.1), .lit (.int .i64 q.2.1), .lit (.int .i64 q.2.2)], .agg [.lit (.int .i64 r.1), .lit (.int .i64 r.2.1), .lit (.int .i64 r.2.2)]]) :
    cs = [.int .i64 p.1, .int .i64 p.2.1, .int .i64 p.2.2, .int .i64 q.1, .int .i64 q.2.1, .int .i64 q.2.2, .int .i64 r.1, .int .i64 r.2.1, .int .i64 r.2.2] := by
  have kp : Tryd.prog.cellsOf 105 = 3 := by kernel_rfl
  have kf : Tryd.prog.cellsOf 112 = 9 := by kernel_rfl
  obtain ⟨xs, m, _, hx, hlen, hn, hel⟩ := DataW.trod_struct Tryd.underlying112 h
  rw [hx] at e
  match xs, hn, cs, hlen.trans kf with
  | [x0, x1, x2], _, [c0, c1, c2, c3, c4, c5, c6, c7, c8], _ =>
    have h0 := hel 0 _ rfl
    have h1 := hel 1 _ rfl
    have h2 := hel 2 _ rfl
    simp [kp] at h0 h1 h2
    simp at e
    have e0 := pt_data h0 _ _ _ e.1
    have e1 := pt_data h1 _ _ _ e.2.1
    have e2 := pt_data h2 _ _ _ e.2.2
    simp at e0 e1 e2
    simp [e0, e1, e2]
set_option maxRecDepth 100000 in
theorem table_data {H : Type} {enc : TypeId × Value → H} {w : World} {base fuel : Nat} {spare : Nat → Bool} {held : Bool} {cs : List Value} {x : DataW H × List MemPlace} (h : DataW.trod enc Tryd.prog w base spare held fuel 113 cs = some x)
    (e : x.1 = Rows.laid_tarn_cube_frames) : ∀ f, f < 6 → (cs.drop (f * 9)).take 9 = [.int .i64 (cC f).1, .int .i64 (cC f).2.1, .int .i64 (cC f).2.2, .int .i64 (cR f).1, .int .i64 (cR f).2.1, .int .i64 (cR f).2.2, .int .i64 (cU f).1, .int .i64 (cU f).2.1, .int .i64 (cU f).2.2] := by
  have kf : Tryd.prog.cellsOf 112 = 9 := by kernel_rfl
  obtain ⟨xs, m, _, hx, hlen, hn, hel⟩ := DataW.trod_array Tryd.underlying113 h
  rw [hx] at e
  intro f hf
  have h0 := hel f hf
  rw [kf] at h0
  match xs, hn with
  | [x0, x1, x2, x3, x4, x5], _ =>
    simp only [List.map_cons, List.map_nil, Rows.laid_tarn_cube_frames, DataW.agg.injEq, List.cons.injEq] at e
    rcases six hf with rfl | rfl | rfl | rfl | rfl | rfl
    · exact frame_data h0 (cC 0) (cR 0) (cU 0) e.1
    · exact frame_data h0 (cC 1) (cR 1) (cU 1) e.2.1
    · exact frame_data h0 (cC 2) (cR 2) (cU 2) e.2.2.1
    · exact frame_data h0 (cC 3) (cR 3) (cU 3) e.2.2.2.1
    · exact frame_data h0 (cC 4) (cR 4) (cU 4) e.2.2.2.2.1
    · exact frame_data h0 (cC 5) (cR 5) (cU 5) e.2.2.2.2.2.1
/-- WHAT THE CONDITION GIVES THE WALKS -/
theorem of_laid {W : World} (h : laidMetH Tryd.prog [("tarn/cube.frames", Rows.laid_tarn_cube_frames)] W) : Fr W := by
  rw [MakeChecks.laidMetH_plain _ _ _ (by kernel_rfl)] at h
  obtain ⟨ps, ⟨g0, t0, cs0, f0, p0, q0, hg0, ht0, hv0, hd0, _⟩, _⟩ := h
  obtain rfl := Option.some.inj (gFrames.symm.trans hg0)
  obtain rfl := Option.some.inj (tFrames.symm.trans ht0)
  have T := table_data hd0 rfl
  have C := World.var?_cell hg0 hv0
  have K : ∀ f, f < 6 → ∀ k, k < 9 → W.cell? ⟨1, f * 9 + k, none⟩ = ((cs0.toList.drop (f * 9)).take 9)[k]? := by
    intro f hf k hk
    rw [C, List.getElem?_take, if_pos hk, List.getElem?_drop]
    simp
  have N : ∀ f, f < 6 → Fr9 W f := by
    intro f hf
    have K := K f hf
    rw [T f hf] at K
    exact ⟨⟨K 0 (by omega), K 1 (by omega), K 2 (by omega)⟩, ⟨K 3 (by omega), K 4 (by omega), K 5 (by omega)⟩, ⟨K 6 (by omega), K 7 (by omega), K 8 (by omega)⟩⟩
  refine ⟨?_, N⟩
  have c0 := (N 0 (by omega)).1.1
  rcases Nat.lt_or_ge 1 W.heap.size with h1 | h1
  · exact h1
  · rw [World.cell?, Array.getElem?_eq_none h1] at c0; cases c0
end Go.Proofs.YtpfoohpncbkkfaaDoor

namespace Go.Proofs.YtpfoohpncbkkfaaDoor
open Go.ChangeShapes Go.WideShapes Go.ChangeAt Go.WideMaps Go.WideElems Go.RowKit Go.Deep
theorem array7' {c : Array Value} (h : c.size = 7) : ∃ v0 v1 v2 v3 v4 v5 v6, c = #[v0, v1, v2, v3, v4, v5, v6] := by
  rcases c with ⟨l⟩
  match l, h with
  | [v0, v1, v2, v3, v4, v5, v6], _ => exact ⟨v0, v1, v2, v3, v4, v5, v6, rfl⟩
theorem trod_bool13 {H : Type} {enc : TypeId × Value → H} {P : Program} {w : World} {base : Nat} {spare : Nat → Bool} {held : Bool} {t : TypeId} {fuel : Nat} {v : Value} {x : DataW H × List MemPlace} (ht : P.underlying t = some .bool) (h : DataW.trod enc P w base spare held fuel t [v] = some x) :
    ∃ b, v = .bool b := by
  cases fuel with
  | zero => simp [DataW.trod] at h
  | succ n =>
    unfold DataW.trod at h
    rw [ht] at h
    split at h <;> simp_all
end Go.Proofs.YtpfoohpncbkkfaaDoor

namespace Go.Proofs.YtpfoohpncbkkfaaDoor
open Go.ChangeShapes Go.WideShapes Go.ChangeAt Go.WideMaps Go.WideElems Go.RowKit Go.Deep
namespace Fc
set_option maxRecDepth 100000 in
theorem plan_open16 {H : Type} {enc : TypeId × Value → H} {W : World} {r : Reach} {b0 : Nat} {v : Value} {d : DataW H} {p : List MemPlace} (hv : Value.okWide Tryd.prog W r b0 25 v) (h : DataW.Trod enc Tryd.prog W 0 (fun _ => true) true 25 v d p) :
    ∃ sd dt gr dr lim rv pr lr cr, v = .agg #[.int .i64 sd, .float .f64 dt, .float .f64 gr, .float .f64 dr, .int .i64 lim, .bool rv, .slice pr lr cr] ∧ (dt < 18446744073709551616 ∧ gr < 18446744073709551616 ∧ dr < 18446744073709551616) := by
  have hC : Tryd.prog.cellsOf 25 = 7 := by kernel_rfl
  obtain ⟨cs, rfl, hsz⟩ := okWide_struct Tryd.underlying25 hv
  obtain ⟨v0, v1, v2, v3, v4, v5, v6, rfl⟩ := array7' (hsz.trans hC)
  obtain ⟨fuel, hf⟩ := h
  have hf' : DataW.trod enc Tryd.prog W 0 (fun _ => true) true fuel 25 [v0, v1, v2, v3, v4, v5, v6] = some (d, p) := by simpa [Value.cells] using hf
  have k0 : Tryd.prog.cellsOf 22 = 1 := by kernel_rfl
  have k1 : Tryd.prog.cellsOf 4 = 1 := by kernel_rfl
  have k2 : Tryd.prog.cellsOf 23 = 1 := by kernel_rfl
  have k3 : Tryd.prog.cellsOf 3 = 1 := by kernel_rfl
  obtain ⟨xs, m, _, hx, hlen, hn, hel⟩ := DataW.trod_struct Tryd.underlying25 hf'
  match xs, hn with
  | [x0, x1, x2, x3, x4, x5, x6], _ =>
    have h0 := hel 0 _ rfl
    have h1 := hel 1 _ rfl
    have h2 := hel 2 _ rfl
    have h3 := hel 3 _ rfl
    have h4 := hel 4 _ rfl
    have h5 := hel 5 _ rfl
    have h6 := hel 6 _ rfl
    simp [k0, k1, k2, k3] at h0 h1 h2 h3 h4 h5 h6
    obtain ⟨sd, rfl, i0⟩ := trod_int12 Tryd.underlying3 h0
    obtain ⟨dt, rfl, i1⟩ := trod_flt12 Tryd.underlying22 h1
    obtain ⟨gr, rfl, i2⟩ := trod_flt12 Tryd.underlying22 h2
    obtain ⟨dr, rfl, i3⟩ := trod_flt12 Tryd.underlying22 h3
    obtain ⟨lim, rfl, i4⟩ := trod_int12 Tryd.underlying3 h4
    obtain ⟨rv, rfl⟩ := trod_bool13 Tryd.underlying4 h5
    rcases open_slice Tryd.underlying23 h6 with ⟨hcs, _⟩ | ⟨a, l, c, _, _, _, _, hcs, _⟩
    · simp at hcs
      subst hcs
      exact ⟨_, _, _, _, _, _, _, _, _, rfl, i1, i2, i3⟩
    · simp at hcs
      subst hcs
      exact ⟨_, _, _, _, _, _, _, _, _, rfl, i1, i2, i3⟩
end Fc
end Go.Proofs.YtpfoohpncbkkfaaDoor
