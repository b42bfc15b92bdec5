/-
  Some of the texts of this proof, one behind the other.
-/
import Derived.ProofKit
import Derived.OpenShut
import Derived.WalkLawsBesides
import Derived.Stop.Joined
import Derived.Carry
import Derived.Lib.SmallJoins
import Derived.Deep.SlicePairs
import Derived.Deep.Slices
import Derived.BigRegion
import Derived.Test.YtidmgnllphnbbaaGreatDoorZ12
namespace Go.Proofs.YtidmgnllphnbbaaGreatDoor
open Go.RowKit Go.Deep Cu
namespace Tr
open Sh
set_option maxRecDepth 100000 in
set_option maxHeartbeats 8000000 in
theorem nets17_ok (n : Nat) (side : Int) (w : World) (hF : Fr w) (hn : 1 ≤ n ∧ n ≤ 32)
    (hs : (wrap64 ((IntKind.u64.wrap side).tmod 9)) = (n : Nat)) :
    Calls Tryz.prog 5 #[.int .i64 side] w fun e w' => ∃ gb rb, e = .returned (.tuple #[.pointer (some ⟨gb, 0, none⟩), .pointer (some ⟨rb, 0, none⟩)]) ∧ Below w.heap.size w w' ∧ GridOf n gb w' ∧ RefOf n rb w' := by
  go_enter Tryz.func5, Tryz.ntmps5
  go_wp2_with fail
  rw [hs]
  refine (new_at n w hn hF).mono ?_
  rintro e9 v1 ⟨gb, rfl, a1, -, g1⟩
  have A1 := hid a1
  have G1 : Hid (GridOf n gb v1) := g1
  clear a1 g1
  go_wp2_with fail
  refine (rnew_at n v1 hn).mono ?_
  rintro e9 v2 ⟨rb, ab, es, rfl, a2, re⟩
  have R2 : Hid (RefOf n rb v2) := RE.all hn.1 re
  have A2 : Hid (Ab v1 v2) := a2
  clear a2 re
  go_wp2
  go_ret2
  exact ⟨gb, rb, rfl, A1.out.trans A2.out, G1.out.to A2.out, R2.out⟩
set_option maxRecDepth 100000 in
set_option maxHeartbeats 8000000 in
theorem nets17_no (side : Int) (w : World)
    (hs : (wrap64 ((IntKind.u64.wrap side).tmod 9)) = 0) :
    Calls Tryz.prog 5 #[.int .i64 side] w fun e w' => e = .returned (.tuple #[.pointer none, .pointer none]) ∧ w' = w := by
  go_enter Tryz.func5, Tryz.ntmps5
  go_wp2_with fail
  rw [hs]
  refine (new_no 0 w (by omega)).mono ?_
  rintro e9 v1 ⟨rfl, hv⟩
  have hv2 := hv.symm
  subst hv2
  go_wp2_with fail
  refine (rnew_no 0 w (by omega)).mono ?_
  rintro e9 v2 ⟨rfl, hv⟩
  have hv2 := hv.symm
  subst hv2
  go_wp2
  go_ret2
  exact ⟨rfl, by first | trivial | rfl⟩
set_option maxRecDepth 100000 in
set_option maxHeartbeats 16000000 in
theorem tfl_long1 (side : Int) (pw ph pf : Option Addr) (lw cw lh ch lf cf : Nat) (w : World)
    (LV : Hid (∀ v, Ab w v → Calls Tryz.prog 4 #[] v fun e w' => e = .returned (.bool true) ∧ Below v.heap.size v w')) (h1 : 65536 < lw) :
    Calls Tryz.prog 3 #[.int .i64 side, .slice pw lw cw, .slice ph lh ch, .slice pf lf cf] w fun e w' => e = .returned (.bool true) ∧ Below w.heap.size w w' := by
  have d0 : decide ((65536 : Int) < (lw : Int)) = true := decide_eq_true (by omega)
  go_enter Tryz.func3, Tryz.ntmps3
  go_wp2_with fail
  refine (LV.out _ (Ab.refl w)).mono ?_
  rintro e9 v1 ⟨rfl, b1⟩
  have A1 : Hid (Ab w v1) := b1
  clear b1
  go_wp2
  go_ret
  exact ⟨rfl, A1.out⟩
set_option maxRecDepth 100000 in
set_option maxHeartbeats 16000000 in
theorem tfl_long2 (side : Int) (pw ph pf : Option Addr) (lw cw lh ch lf cf : Nat) (w : World)
    (LV : Hid (∀ v, Ab w v → Calls Tryz.prog 4 #[] v fun e w' => e = .returned (.bool true) ∧ Below v.heap.size v w')) (h1 : ¬ 65536 < lw) (h2 : 65536 < lh) :
    Calls Tryz.prog 3 #[.int .i64 side, .slice pw lw cw, .slice ph lh ch, .slice pf lf cf] w fun e w' => e = .returned (.bool true) ∧ Below w.heap.size w w' := by
  have d0 : decide ((65536 : Int) < (lw : Int)) = false := decide_eq_false (by omega)
  have d1 : decide ((65536 : Int) < (lh : Int)) = true := decide_eq_true (by omega)
  go_enter Tryz.func3, Tryz.ntmps3
  go_wp2_with fail
  refine (LV.out _ (Ab.refl w)).mono ?_
  rintro e9 v1 ⟨rfl, b1⟩
  have A1 : Hid (Ab w v1) := b1
  clear b1
  go_wp2
  go_ret
  exact ⟨rfl, A1.out⟩
set_option maxRecDepth 100000 in
set_option maxHeartbeats 16000000 in
theorem tfl_long3 (side : Int) (pw ph pf : Option Addr) (lw cw lh ch lf cf : Nat) (w : World)
    (LV : Hid (∀ v, Ab w v → Calls Tryz.prog 4 #[] v fun e w' => e = .returned (.bool true) ∧ Below v.heap.size v w')) (h1 : ¬ 65536 < lw) (h2 : ¬ 65536 < lh) (h3 : 65536 < lf) :
    Calls Tryz.prog 3 #[.int .i64 side, .slice pw lw cw, .slice ph lh ch, .slice pf lf cf] w fun e w' => e = .returned (.bool true) ∧ Below w.heap.size w w' := by
  have d0 : decide ((65536 : Int) < (lw : Int)) = false := decide_eq_false (by omega)
  have d1 : decide ((65536 : Int) < (lh : Int)) = false := decide_eq_false (by omega)
  have d2 : decide ((65536 : Int) < (lf : Int)) = true := decide_eq_true (by omega)
  go_enter Tryz.func3, Tryz.ntmps3
  go_wp2_with fail
  refine (LV.out _ (Ab.refl w)).mono ?_
  rintro e9 v1 ⟨rfl, b1⟩
  have A1 : Hid (Ab w v1) := b1
  clear b1
  go_wp2
  go_ret
  exact ⟨rfl, A1.out⟩
set_option maxRecDepth 100000 in
set_option maxHeartbeats 16000000 in
theorem tfl_go (side : Int) {pw ph pf : Option Addr} {lw cw lh ch lf cf : Nat} {fw fh ff : Nat → Int} (L : Nat) (D : Nat → Int) (q : Int) (w : World)
    (LV : Hid (∀ v, Ab w v → Calls Tryz.prog 4 #[] v fun e w' => e = .returned (.bool true) ∧ Below v.heap.size v w'))
    (NT : Hid (∀ v, Ab w v → Calls Tryz.prog 5 #[.int .i64 side] v fun e w' => ∃ gv rv, e = .returned (.tuple #[gv, rv]) ∧ Below v.heap.size v w' ∧ (∀ g1 c1 g2 c2 g3 c3 z, Ab w' z → IsI z (some ⟨g1, 0, none⟩) lw fw → IsI z (some ⟨g2, 0, none⟩) lh fh → IsI z (some ⟨g3, 0, none⟩) lf ff → Calls Tryz.prog 6 #[gv, .slice (some ⟨g1, 0, none⟩) lw c1, .slice (some ⟨g2, 0, none⟩) lh c2, .slice (some ⟨g3, 0, none⟩) lf c3] z fun e w' => ∃ la lc, e = .returned (.tuple #[.slice la L lc, .int .i64 q]) ∧ Below z.heap.size z w' ∧ IsI w' la L D) ∧ (∀ z, Ab w' z → Calls Tryz.prog 7 #[rv, .slice pw lw cw, .slice ph lh ch, .slice pf lf cf] z fun e w' => ∃ la lc, e = .returned (.tuple #[.slice la L lc, .int .i64 q]) ∧ Below z.heap.size z w' ∧ IsI w' la L D)))
    (IW : Hid (IsI w pw lw fw)) (IH : Hid (IsI w ph lh fh)) (IF : Hid (IsI w pf lf ff)) (h1 : ¬ 65536 < lw) (h2 : ¬ 65536 < lh) (h3 : ¬ 65536 < lf) (HLL : Hid (L ≤ 65536)) :
    Calls Tryz.prog 3 #[.int .i64 side, .slice pw lw cw, .slice ph lh ch, .slice pf lf cf] w fun e w' => e = .returned (.bool true) ∧ Below w.heap.size w w' := by
  have d1 : decide ((65536 : Int) < (lw : Int)) = false := decide_eq_false (by omega)
  have d2 : decide ((65536 : Int) < (lh : Int)) = false := decide_eq_false (by omega)
  have d3 : decide ((65536 : Int) < (lf : Int)) = false := decide_eq_false (by omega)
  have HL : Hid (lw ≤ 65536 ∧ lh ≤ 65536 ∧ lf ≤ 65536) := ⟨by omega, by omega, by omega⟩
  clear h1 h2 h3
  go_enter Tryz.func3, Tryz.ntmps3
  go_wp2_with fail
  refine (LV.out _ (Ab.refl w)).mono ?_
  rintro e9 v1 ⟨rfl, b1⟩
  have A1 : Hid (Ab w v1) := b1
  clear b1
  go_wp2_with fail
  refine (NT.out _ A1.out).mono ?_
  rintro e9 v2 ⟨gv, rv, rfl, b2, CA, RA⟩
  have A2 : Hid (Ab w v2) := A1.out.trans b2
  have HCA := hid CA
  have HRA := hid RA
  clear b2 CA RA A1
  have O1 := hid (own_new v2 v2.heap.size (Nat.le_refl _))
  have B1 : Hid (Ab v2 (v2.alloc (.cells #[] 2))) := bl1 _ _
  have I1 := hid (IW.out.below (A2.out.trans B1.out))
  go_wp2_with (first
    | (at_builtin; have q2 := P5.out; refine wpList_copy rfl (.tmp 48) (.tmp 49) rfl w5.heap.size w5.heap.size rfl (own_new w5 w5.heap.size (Nat.le_refl _)) pf lf cf ff rfl (IF.out.below (A4.out.trans (A5.out.trans (bl1 w5 (.cells #[] 2))))) HL.out.2.2 (by simp) ?_; intro g3 c3 w6 i6 b6 _; have I6 := hid i6; have A6 : Hid (Ab w5 w6) := Below.trans (bl1 w5 (.cells #[] 2)) b6; clear i6 b6 q2)
    | (at_builtin; have q1 := P4.out; refine wpList_copy rfl (.tmp 45) (.tmp 46) rfl w4.heap.size w4.heap.size rfl (own_new w4 w4.heap.size (Nat.le_refl _)) ph lh ch fh rfl (IH.out.below (A4.out.trans (bl1 w4 (.cells #[] 2)))) HL.out.2.1 (by simp) ?_; intro g2 c2 w5 i5 b5 _; have I5 := hid i5; have A5 : Hid (Ab w4 w5) := Below.trans (bl1 w4 (.cells #[] 2)) b5; have P5 := hid True.intro; clear i5 b5 q1)
    | (at_builtin; refine wpList_copy rfl (.tmp 42) (.tmp 43) rfl v2.heap.size v2.heap.size rfl O1.out pw lw cw fw rfl I1.out HL.out.1 (by simp) ?_; intro g1 c1 w4 i4 b4 _; have I4 := hid i4; have A24 : Hid (Ab v2 w4) := Below.trans (bl1 v2 (.cells #[] 2)) b4; have A4 : Hid (Ab w w4) := A2.out.trans A24.out; have P4 := hid True.intro; clear i4 b4))
  refine (HCA.out g1 c1 g2 c2 g3 c3 w6 (A24.out.trans (A5.out.trans A6.out)) (I4.out.below (A5.out.trans A6.out)) (I5.out.below A6.out) I6.out).mono ?_
  rintro e9 v7 ⟨la, lc, rfl, b7, i7⟩
  have A7 : Hid (Ab v2 v7) := A24.out.trans (A5.out.trans (A6.out.trans b7))
  have I7 := hid i7
  clear b7 i7 I4 I5 I6 A24 A5 A6 A4 O1 B1 I1 P4 P5
  go_wp2_with fail
  refine (HRA.out v7 A7.out).mono ?_
  rintro e9 v8 ⟨ka, kc, rfl, b8, i8⟩
  have A8 : Hid (Ab v2 v8) := A7.out.trans b8
  have I78 := hid (I7.out.below b8)
  have I8 := hid i8
  clear b8 i8 I7 A7
  have qq : ((q : Int) == q) = true := by simp
  go_wp2_with fail
  refine (same17_at la ka L lc kc D v8 (by have := HLL.out; omega) I78.out I8.out).mono ?_
  rintro e9 v9 ⟨rfl, b9⟩
  have A9 : Hid (Ab w v9) := A2.out.trans (A8.out.trans b9)
  clear b9
  go_wp2
  go_ret
  exact ⟨rfl, A9.out⟩
/-- the reference's Flows -/
theorem rflows_at {n rb : Nat} {pw ph pf : Option Addr} {lw cw lh ch lf cf : Nat} {W H F : Nat → Int} (w : World) (hn : 1 ≤ n ∧ n ≤ 32) (g : RefOf n rb w) (iw : IsI w pw lw W) (ih : IsI w ph lh H) (if_ : IsI w pf lf F) :
    (fits17 n lw W lh H lf F → Calls Tryz.prog 7 #[.pointer (some ⟨rb, 0, none⟩), .slice pw lw cw, .slice ph lh ch, .slice pf lf cf] w fun e w' => ∃ b, e = .returned (.tuple #[.slice (some ⟨b, 0, none⟩) (12 * n * n) (12 * n * n), .int .i64 0]) ∧ Below w.heap.size w w' ∧ w'.rowIs b 2 (12 * n * n) (fun e => .int .i64 (flF n W H F e)) ∧ w.heap.size ≤ b) ∧
    (¬ fits17 n lw W lh H lf F → Calls Tryz.prog 7 #[.pointer (some ⟨rb, 0, none⟩), .slice pw lw cw, .slice ph lh ch, .slice pf lf cf] w fun e w' => e = .returned (.tuple #[.slice none 0 0, .int .i64 1]) ∧ Below w.heap.size w w') := by
  have en : (1 ≤ 6 * n * n ∧ 6 * n * n ≤ 6144) ∧ 1 ≤ 12 * n * n ∧ 12 * n * n ≤ 12288 := by
    have h := Nat.mul_le_mul hn.2 hn.2
    have h2 := Nat.mul_le_mul hn.1 hn.1
    rw [Nat.mul_assoc, Nat.mul_assoc]
    omega
  have e24 : 4 * (6 * n * n) = 24 * n * n := by rw [← Nat.mul_assoc, ← Nat.mul_assoc]
  have CC : Hid (∀ v, Ab w v → Calls Tryz.prog 36 #[.pointer (some ⟨rb, 0, none⟩)] v fun e w' => e = .returned (.int .i64 (6 * n * n : Nat)) ∧ w' = v) := fun v a => rCells_at hn (g.to a)
  have CE : Hid (∀ v, Ab w v → Calls Tryz.prog 37 #[.pointer (some ⟨rb, 0, none⟩)] v fun e w' => e = .returned (.int .i64 (12 * n * n : Nat)) ∧ w' = v) := fun v a => rEdges_at (g.to a)
  have NO : ∀ q : Bool, (q = false ∨ (q = true ∧ ((lh : Int) != (lw : Int)) = true)) → Calls Tryz.prog 16 #[.pointer (some ⟨rb, 0, none⟩), .slice pw lw cw, .slice pf lf cf] w (fun e w' => e = .returned (.bool q) ∧ w' = w) → Calls Tryz.prog 7 #[.pointer (some ⟨rb, 0, none⟩), .slice pw lw cw, .slice ph lh ch, .slice pf lf cf] w fun e w' => e = .returned (.tuple #[.slice none 0 0, .int .i64 1]) ∧ Below w.heap.size w w' := fun q hq ft => (rfl_no rb pw ph pf lw cw lh ch lf cf q w hq ft).mono fun _ _ h => ⟨h.1, by obtain ⟨_, rfl⟩ := h; exact Below.refl _ _⟩
  by_cases c1 : lw = 6 * n * n
  · by_cases c2 : lf = 12 * n * n
    · by_cases c3 : (∀ c, c < lw → 0 ≤ W c) ∧ (∀ e, e < lf → -4503599627370496 ≤ F e ∧ F e ≤ 4503599627370496)
      · subst c1 c2
        obtain ⟨W0, F0⟩ := c3
        have FT := rfits_yes rb _ _ cw cf _ _ W F w ⟨by omega, by omega⟩ iw if_ CC CE ⟨W0, F0⟩
        by_cases c4 : lh = 6 * n * n
        · subst c4
          obtain ⟨wb, wo, rfl⟩ := iw.some0 (by omega)
          obtain ⟨hb, ho, rfl⟩ := ih.some0 (by omega)
          obtain ⟨fb0, fo, rfl⟩ := if_.some0 (by omega)
          have ogb : ∀ t, t < 24 * n * n → 0 ≤ og n F t ∧ og n F t ≤ 4503599627370496 := fun t ht => ⟨og_nn _ _ _, og_le (by omega) (F0 _ (eE_lt hn.1 ht))⟩
          have sg1 : ∀ t, eS n t = 1 ∨ eS n t = -1 := fun t => by unfold eS; split <;> simp
          have H1 : ∀ c, c < 6 * n * n → H c ≤ 9223372036854775807 := fun c hc => (ih.at0 hc).1.2
          have ARD : Hid (∀ v c s, Ab w v → c < 6 * n * n → s < 4 → Calls Tryz.prog 19 #[.pointer (some ⟨rb, 0, none⟩), .int .i64 (c : Nat), .int .i64 (s : Nat)] v fun e w' => e = .returned (.tuple #[.int .i64 (eE n (4 * c + s) : Nat), .int .i64 (eS n (4 * c + s))]) ∧ Below v.heap.size v w') := fun v c s a hc hs => rAround_ok hn hc hs (g.to a)
          have GG : ∀ c, c < 6 * n * n → ((0 ≤ H c ∧ oS n F c ≤ W c) ↔ good17 (W c) (H c) 4 (oA n F c)) := fun c hc => ⟨fun h => ⟨W0 c hc, h.1, oA_ok h.2⟩, fun h => ⟨h.2.1, h.2.2.2⟩⟩
          have K := rfl_go rb (6 * n * n) (12 * n * n) fb0 fo cf wb wo cw hb ho ch W H (og n F) (tks n W H F) (flF n W H F) (eS n) (flP n W H F) (eE n) (fun c => 0 ≤ H c ∧ oS n F c ≤ W c) w ⟨by omega, by omega⟩ ARD
            (fun t ht => ⟨eE_lt hn.1 (by omega), sg1 t⟩)
            (fun t ht gt => by
              have hc := t_cell (n := n) (t := t) (by omega)
              have a := tks_nn (t := t) gt.1 (H1 _ hc) gt.2
              have b := tks_le (t := t) gt.1 (H1 _ hc) gt.2
              have := H1 _ hc
              omega)
            (fun e _ => flP_0 n W H F e)
            (fun ga t ht e he => flP_step hn.1 (by omega) he (fun c hc => ⟨(ga c hc).1, H1 c hc⟩) (fun c hc => (ga c hc).2))
            (fun e he => by rw [e24]; exact flP_all hn.1 he) iw ih FT
            (fun v c a hc => routs_go rb (6 * n * n) (12 * n * n) c fb0 fo cf F (og n F) (eS n) (eE n) v hc (fun z c s b hc hs => ARD.out z c s (a.trans b) hc hs) (fun t ht => ⟨eE_lt hn.1 (by omega), sg1 t, rfl⟩) F0 (if_.below a))
            (fun v c bo a hc gc r => by
              have gd := (GG c hc).1 gc
              refine ((rtakes_at (W c) (H c) (some ⟨bo, 0, none⟩) 4 4 (oA n F c) v (iw.at0 hc).1 (ih.at0 hc).1 (by omega) (row_in r (fun i hi => by have := ogb _ (t_lt hc hi); unfold oA; omega))).1 gd).mono ?_
              rintro e' w' ⟨l, rfl, b, o⟩
              obtain ⟨kb, kc, e1, e2, e3⟩ := World.ownsRow.form o (by rw [tkL_len]; omega)
              rw [tkL_len] at e1
              subst e1
              obtain ⟨a0, cap, e4, i4⟩ := tk_own17 gd (ih.at0 hc).1 o
              injection e4 with e5 e6 e7
              subst e5
              refine ⟨_, rfl, b, kb, kc, rfl, e2, i4.congr (fun k hk => ?_)⟩
              show tkA (H c) (W c) (oA n F c) k = tks n W H F (4 * c + k)
              unfold tks
              rw [(t_dec hk).1, (t_dec hk).2])
            (fun v c bo a hc gc r => (rtakes_at (W c) (H c) (some ⟨bo, 0, none⟩) 4 4 (oA n F c) v (iw.at0 hc).1 (ih.at0 hc).1 (by omega) (row_in r (fun i hi => by have := ogb _ (t_lt hc hi); unfold oA; omega))).2 (fun gd => gc ((GG c hc).2 gd)))
          refine ⟨fun ft => K.mono ?_, fun no => K.mono ?_⟩
          · rintro e' w' (⟨-, h⟩ | ⟨h, -⟩)
            · exact h
            · exact absurd (fun c hc => ⟨ft.2.2.2.2.1 c hc, ft.2.2.2.2.2.2 c hc⟩) h
          · rintro e' w' (⟨h, -⟩ | ⟨-, h⟩)
            · exact absurd ⟨rfl, rfl, rfl, W0, fun c hc => (h c hc).1, F0, fun c hc => (h c hc).2⟩ no
            · exact h
        · exact ⟨fun ft => absurd ft.2.1 c4, fun _ => NO true (.inr ⟨rfl, by rw [bne_iff_ne]; omega⟩) FT⟩
      · refine ⟨fun ft => absurd ⟨ft.2.2.2.1, ft.2.2.2.2.2.1⟩ c3, fun _ => ?_⟩
        subst c1 c2
        exact NO false (.inl rfl) (rfits_no rb _ _ cw cf _ _ W F w ⟨by omega, by omega⟩ iw if_ CC CE c3)
    · exact ⟨fun ft => absurd ft.2.2.1 c2, fun _ => NO false (.inl rfl) (rfits_len rb (6 * n * n) (12 * n * n) _ _ _ _ _ _ w CC CE (.inr ⟨by rw [c1]; simp, by rw [bne_iff_ne]; omega⟩))⟩
  · exact ⟨fun ft => absurd ft.1 c1, fun _ => NO false (.inl rfl) (rfits_len rb (6 * n * n) (12 * n * n) _ _ _ _ _ _ w CC CE (.inl (by rw [bne_iff_ne]; omega)))⟩
theorem tflows_at (TC : TakesC) (FC : FlowsC) (FN : FlowsN) (side : Int) {pw ph pf : Option Addr} {lw cw lh ch lf cf : Nat} {fw fh ff : Nat → Int} (w : World) (hF : Fr w) (iw : IsI w pw lw fw) (ih : IsI w ph lh fh) (if_ : IsI w pf lf ff) :
    Calls Tryz.prog 3 #[.int .i64 side, .slice pw lw cw, .slice ph lh ch, .slice pf lf cf] w fun e w' => e = .returned (.bool true) ∧ Below w.heap.size w w' := by
  have LV : Hid (∀ v, Ab w v → Calls Tryz.prog 4 #[] v fun e w' => e = .returned (.bool true) ∧ Below v.heap.size v w') := fun v _ => awake17_at TC v
  by_cases h1 : 65536 < lw
  · exact tfl_long1 side pw ph pf lw cw lh ch lf cf w LV h1
  by_cases h2 : 65536 < lh
  · exact tfl_long2 side pw ph pf lw cw lh ch lf cf w LV h1 h2
  by_cases h3 : 65536 < lf
  · exact tfl_long3 side pw ph pf lw cw lh ch lf cf w LV h1 h2 h3
  obtain ⟨n, n8, e9⟩ := side9 side
  by_cases n0 : n = 0
  · subst n0
    refine tfl_go side 0 (fun _ => 0) 2 w LV ?_ iw ih if_ h1 h2 h3 (show 0 ≤ _ by omega)
    intro v _
    refine (nets17_no side v e9).mono ?_
    rintro e' w' ⟨rfl, rfl⟩
    refine ⟨_, _, rfl, Below.refl _ _, fun g1 c1 g2 c2 g3 c3 z _ _ _ _ => ?_, fun z _ => ?_⟩
    · refine (FN _ _ _ _ _ _ _ _ _ z).mono ?_
      rintro e2 w2 ⟨rfl, b⟩
      exact ⟨none, 0, rfl, b, IsI.nil _ _ _⟩
    · refine (rfl_nil _ _ _ _ _ _ _ _ _ z).mono ?_
      rintro e2 w2 ⟨rfl, rfl⟩
      exact ⟨none, 0, rfl, Below.refl _ _, IsI.nil _ _ _⟩
  · have hn : 1 ≤ n ∧ n ≤ 32 := by omega
    have en : 12 * n * n ≤ 12288 := by
      have h := Nat.mul_le_mul hn.2 hn.2
      rw [Nat.mul_assoc]
      omega
    by_cases ft : fits17 n lw fw lh fh lf ff
    · have H0 : ∀ c, c < 6 * n * n → 0 ≤ fh c ∧ fh c ≤ 9223372036854775807 := fun c hc => ⟨ft.2.2.2.2.1 c (by rw [ft.2.1]; exact hc), (ih c (by rw [ft.2.1]; exact hc)).1.2⟩
      have O0 : ∀ c, c < 6 * n * n → oS n ff c ≤ fw c := fun c hc => ft.2.2.2.2.2.2 c (by rw [ft.1]; exact hc)
      refine tfl_go side (12 * n * n) (flF n fw fh ff) 0 w LV ?_ iw ih if_ h1 h2 h3 (show 12 * n * n ≤ _ by omega)
      intro v hv
      refine (nets17_ok n side v (hF.to hv) hn e9).mono ?_
      rintro e' w' ⟨gb, rb, rfl, b, g, r⟩
      refine ⟨_, _, rfl, b, fun g1 c1 g2 c2 g3 c3 z a i1 i2 i3 => ?_, fun z a => ?_⟩
      · refine ((FC n gb (some ⟨g1, 0, none⟩) lw c1 fw (some ⟨g2, 0, none⟩) lh c2 fh (some ⟨g3, 0, none⟩) lf c3 ff z hn (g.to a) (by omega) (by omega) (by omega) i1 i2 i3).1 ft).mono ?_
        rintro e2 w2 ⟨l, rfl, b2, o⟩
        obtain ⟨a0, cap, rfl, i⟩ := own_fl hn.1 H0 O0 o
        exact ⟨a0, cap, rfl, b2, i⟩
      · have q := hv.trans (Ab.trans b a)
        refine ((rflows_at z hn (r.to a) (iw.below q) (ih.below q) (if_.below q)).1 ft).mono ?_
        rintro e2 w2 ⟨bq, rfl, b2, rr, -⟩
        exact ⟨_, _, rfl, b2, row_in rr (fun i hi => by have := flF_in hn.1 hi H0 O0; omega)⟩
    · refine tfl_go side 0 (fun _ => 0) 1 w LV ?_ iw ih if_ h1 h2 h3 (show 0 ≤ _ by omega)
      intro v hv
      refine (nets17_ok n side v (hF.to hv) hn e9).mono ?_
      rintro e' w' ⟨gb, rb, rfl, b, g, r⟩
      refine ⟨_, _, rfl, b, fun g1 c1 g2 c2 g3 c3 z a i1 i2 i3 => ?_, fun z a => ?_⟩
      · refine ((FC n gb (some ⟨g1, 0, none⟩) lw c1 fw (some ⟨g2, 0, none⟩) lh c2 fh (some ⟨g3, 0, none⟩) lf c3 ff z hn (g.to a) (by omega) (by omega) (by omega) i1 i2 i3).2 ft).mono ?_
        rintro e2 w2 ⟨rfl, b2⟩
        exact ⟨none, 0, rfl, b2, IsI.nil _ _ _⟩
      · have q := hv.trans (Ab.trans b a)
        refine ((rflows_at z hn (r.to a) (iw.below q) (ih.below q) (if_.below q)).2 ft).mono ?_
        rintro e2 w2 ⟨rfl, b2⟩
        exact ⟨none, 0, rfl, b2, IsI.nil _ _ _⟩
end Tr
end Go.Proofs.YtidmgnllphnbbaaGreatDoor

namespace Go.Proofs.YtidmgnllphnbbaaGreatDoor
open Go.ChangeShapes Go.WideShapes Go.ChangeAt Go.WideMaps Go.WideElems Go.RowKit Go.Deep
namespace Sh
theorem trod_int {H : Type} {enc : TypeId × Value → H} {P : Program} {w : World} {base : Nat} {spare : Nat → Bool} {held : Bool} {t : TypeId} {fuel : Nat} {v : Value} {x : DataW H × List MemPlace} (ht : P.underlying t = some (.int .i64)) (h : DataW.trod enc P w base spare held fuel t [v] = some x) :
    ∃ b, v = .int .i64 b ∧ (-9223372036854775808 ≤ b ∧ b ≤ 9223372036854775807) := by
  obtain ⟨k, e, _, wf⟩ := DataW.trod_int ht h
  simp at e
  simp only [Lit.wf, Bool.and_eq_true, decide_eq_true_eq] at wf
  have q1 : IntKind.i64.min = -9223372036854775808 := by decide
  have q2 : IntKind.i64.max = 9223372036854775807 := by decide
  rw [q1, q2] at wf
  exact ⟨k, e, wf⟩
theorem cell_block {w : World} {a : Addr} {v : Value} (h : w.cell? a = some v) : a.block < w.heap.size := by
  by_cases c : a.block < w.heap.size
  · exact c
  · exfalso
    have : w.heap[a.block]? = none := by simp; omega
    simp [World.cell?, this] at h
theorem pick_fn {α : Type} {n : Nat} {R : Nat → α → Prop} (d : α) (h : ∀ i, i < n → ∃ x, R i x) : ∃ f : Nat → α, ∀ i, i < n → R i (f i) := by
  have : ∀ i, ∃ x, i < n → R i x := fun i => by
    by_cases c : i < n
    · obtain ⟨x, h1⟩ := h i c
      exact ⟨x, fun _ => h1⟩
    · exact ⟨d, fun h => absurd h c⟩
  exact ⟨fun i => (this i).choose, fun i hi => (this i).choose_spec hi⟩
theorem list_open {H : Type} {enc : TypeId × Value → H} {W : World} {cs : List Value} {fuel : Nat} {x : DataW H × List MemPlace}
    (hf : DataW.trod enc Tryz.prog W 0 (fun _ => true) true fuel 22 cs = some x) : ∃ a0 len cap xs, cs = [.slice a0 len cap] ∧ IsI W a0 len xs ∧ len ≤ cap ∧ cap ≤ maxLen := by
  rcases open_slice1 Tryz.underlying22 (by kernel_rfl) hf with ⟨hcs, _⟩ | ⟨a, l, c, m, n, V, D, Pl, hcs, _, hl, hm, hmm, _, hx⟩
  · exact ⟨none, 0, 0, fun _ => 0, hcs, fun k hk => by omega, Nat.le_refl _, Nat.zero_le _⟩
  · simp only [if_true] at hmm
    have each : ∀ i, i < l → ∃ x : Int, W.cell? (a.add i) = some (.int .i64 x) ∧ (-9223372036854775808 ≤ x ∧ x ≤ 9223372036854775807) := by
      intro i hi
      obtain ⟨h1, h2⟩ := hx i (by omega)
      obtain ⟨x, e, wx⟩ := trod_int Tryz.underlying2 h2
      rw [e] at h1
      exact ⟨x, h1, wx⟩
    obtain ⟨f, hf⟩ := pick_fn 0 each
    refine ⟨some a, l, c, f, hcs, fun k hk => ⟨(hf k hk).2, ?_⟩, hl, hm⟩
    have h0 := (hf k hk).1
    have z := (hf 0 (by omega)).1
    obtain ⟨b, off, spot⟩ := a
    have hspot : spot = none := by simpa [Addr.add] using World.cell?_spot z
    subst hspot
    rw [add_off] at h0
    exact ⟨b, off, rfl, cell_block h0, h0⟩
end Sh
end Go.Proofs.YtidmgnllphnbbaaGreatDoor

namespace Go.Proofs.YtidmgnllphnbbaaGreatDoor
open Go.RowKit
namespace Sh
theorem ret_int {k : IntKind} {a b : Int} (h : a = b) : Ending.returned (.int k a) = .returned (.int k b) := by rw [h]
theorem pow_pos (k : Nat) : 0 < 2 ^ k := Nat.two_pow_pos k
theorem and32 (z : Int) (h0 : 0 ≤ z) (h1 : z < 18446744073709551616) : bits .and .u64 z 4294967295 = z % 4294967296 := by go_bits2
set_option maxHeartbeats 2000000 in
theorem mul64_go (x y x0 x1 y0 y1 a b c d t w1 l : Int) (w : World) (_hx : 0 ≤ x) (_hx1 : x < 18446744073709551616) (_hy : 0 ≤ y) (_hy1 : y < 18446744073709551616)
    (e1 : bits .and .u64 x 4294967295 = x0) (e2 : x / 4294967296 = x1) (e3 : bits .and .u64 y 4294967295 = y0) (e4 : y / 4294967296 = y1)
    (ma : IntKind.u64.wrap (x0 * y0) = a) (mb : IntKind.u64.wrap (x1 * y0) = b) (mc : IntKind.u64.wrap (x0 * y1) = c) (md : IntKind.u64.wrap (x1 * y1) = d) (ml : IntKind.u64.wrap (x * y) = l)
    (a0 : 0 ≤ a) (a1 : a ≤ 18446744065119617025) (b0 : 0 ≤ b) (b1 : b ≤ 18446744065119617025) (c0 : 0 ≤ c) (c1 : c ≤ 18446744065119617025) (d0 : 0 ≤ d) (d1 : d ≤ 18446744065119617025)
    (ht : b + a / 4294967296 = t) (t0 : 0 ≤ t) (t1 : t < 18446744073709551616) (hw : bits .and .u64 t 4294967295 = w1) (w0 : 0 ≤ w1) (w2 : w1 < 4294967296) (hr : d + t / 4294967296 + (w1 + c) / 4294967296 < 18446744073709551616) :
    Calls Tryz.prog 39 #[.int .u64 x, .int .u64 y] w fun r w' => r = .returned (.tuple #[.int .u64 (d + t / 4294967296 + (w1 + c) / 4294967296), .int .u64 l]) ∧ w' = w := by
  go_enter Tryz.func39, Tryz.ntmps39
  go_wp2
  go_ret2
  exact ⟨rfl, rfl⟩
theorem u64wr (v : Int) : IntKind.u64.wrap v = v % 18446744073709551616 := by
  simp [IntKind.wrap, IntKind.bits, IntKind.signed]
theorem prod_le (a b : Int) (ha : 0 ≤ a) (ha1 : a ≤ 4294967295) (hb : 0 ≤ b) (hb1 : b ≤ 4294967295) : 0 ≤ a * b ∧ a * b ≤ 18446744065119617025 := by
  refine ⟨Int.mul_nonneg ha hb, ?_⟩
  exact Int.le_trans (Int.mul_le_mul ha1 hb1 hb (by decide)) (by decide)
/-- THE LONG PRODUCT -/
theorem mul64_at (x y : Int) (w : World) (hx : 0 ≤ x) (hx1 : x < 18446744073709551616) (hy : 0 ≤ y) (hy1 : y < 18446744073709551616) :
    Calls Tryz.prog 39 #[.int .u64 x, .int .u64 y] w fun r w' => r = .returned (.tuple #[.int .u64 (x * y / 18446744073709551616), .int .u64 (x * y % 18446744073709551616)]) ∧ w' = w := by
  obtain ⟨a0, a1⟩ := prod_le (x % 4294967296) (y % 4294967296) (by omega) (by omega) (by omega) (by omega)
  obtain ⟨b0, b1⟩ := prod_le (x / 4294967296) (y % 4294967296) (by omega) (by omega) (by omega) (by omega)
  obtain ⟨c0, c1⟩ := prod_le (x % 4294967296) (y / 4294967296) (by omega) (by omega) (by omega) (by omega)
  obtain ⟨d0, d1⟩ := prod_le (x / 4294967296) (y / 4294967296) (by omega) (by omega) (by omega) (by omega)
  have hxy : x * y = x % 4294967296 * (y % 4294967296) + (x / 4294967296 * (y % 4294967296) + x % 4294967296 * (y / 4294967296)) * 4294967296 + x / 4294967296 * (y / 4294967296) * 18446744073709551616 := by
    have ex : x = x % 4294967296 + x / 4294967296 * 4294967296 := by omega
    have ey : y = y % 4294967296 + y / 4294967296 * 4294967296 := by omega
    generalize x % 4294967296 = p at *
    generalize x / 4294967296 = q at *
    generalize y % 4294967296 = r at *
    generalize y / 4294967296 = s at *
    subst ex ey
    rw [Int.add_mul, Int.mul_add, Int.mul_add]
    have z1 : p * (s * 4294967296) = p * s * 4294967296 := by rw [Int.mul_assoc]
    have z2 : q * 4294967296 * r = q * r * 4294967296 := by rw [Int.mul_assoc, Int.mul_comm 4294967296, ← Int.mul_assoc]
    have z3 : q * 4294967296 * (s * 4294967296) = q * s * 18446744073709551616 := by
      rw [Int.mul_assoc, Int.mul_left_comm 4294967296, ← Int.mul_assoc]; rfl
    rw [z1, z2, z3]
    generalize p * r = A
    generalize p * s = B
    generalize q * r = C
    generalize q * s = D
    omega
  have w1 := and32 (x / 4294967296 * (y % 4294967296) + x % 4294967296 * (y % 4294967296) / 4294967296)
  have ma := u64wr (x % 4294967296 * (y % 4294967296))
  have mb := u64wr (x / 4294967296 * (y % 4294967296))
  have mc := u64wr (x % 4294967296 * (y / 4294967296))
  have md := u64wr (x / 4294967296 * (y / 4294967296))
  have e1 := and32 x hx hx1
  have e3 := and32 y hy hy1
  have h := mul64_go x y (x % 4294967296) (x / 4294967296) (y % 4294967296) (y / 4294967296)
  generalize x % 4294967296 * (y % 4294967296) = a at *
  generalize x / 4294967296 * (y % 4294967296) = b at *
  generalize x % 4294967296 * (y / 4294967296) = c at *
  generalize x / 4294967296 * (y / 4294967296) = d at *
  have w1' := w1 (by omega) (by omega)
  have h2 := h a b c d _ _ _ w hx hx1 hy hy1 e1 rfl e3 rfl (by rw [ma]; omega) (by rw [mb]; omega) (by rw [mc]; omega) (by rw [md]; omega) (u64wr _) a0 a1 b0 b1 c0 c1 d0 d1 rfl (by omega) (by omega) w1' (by omega) (by omega) (by omega)
  have e : d + (b + a / 4294967296) / 4294967296 + ((b + a / 4294967296) % 4294967296 + c) / 4294967296 = x * y / 18446744073709551616 := by
    rw [hxy]; omega
  rw [e] at h2
  exact h2
theorem log2_of {n k : Nat} (h : 2 ^ k ≤ n) (h' : n < 2 ^ (k + 1)) : n.log2 = k := by
  have : n ≠ 0 := by have := pow_pos k; omega
  exact (Nat.log2_eq_iff this).2 ⟨h, h'⟩

theorem ba_get (b : ByteArray) (i : Nat) (h : i < b.size) : b[i]'h = (b[i]?).getD 0 := by simp [h]
/-- how many bits a number below 256 has -/
def len8 (n : Nat) : Int := if n = 0 then 0 else ((n.log2 + 1 : Nat) : Int)
set_option maxHeartbeats 2000000 in
set_option maxRecDepth 100000 in
theorem len_0 (x : Int) (w : World) (h0 : 0 ≤ x) (h1 : x < 18446744073709551616) (t32 : x < 4294967296) (t16 : x < 65536) (t8 : x < 256) : Calls Tryz.prog 74 #[.int .u64 x] w fun e w' => e = .returned (.int .i64 (0 + len8 x.toNat)) ∧ w' = w := by
  go_enter Tryz.func74, Tryz.ntmps74
  go_wp2
  go_ret
  refine ⟨ret_int ?_, rfl⟩
  have hl : x.toNat < 256 := by omega
  rw [ba_get]
  generalize hn : x.toNat = n at hl ⊢
  clear hn
  revert n
  decide +kernel
set_option maxHeartbeats 2000000 in
set_option maxRecDepth 100000 in
theorem len_8 (x y0 : Int) (w : World) (h0 : 0 ≤ x) (h1 : x < 18446744073709551616) (t32 : x < 4294967296) (t16 : x < 65536) (t8 : 256 ≤ x) (e8 : x / 256 = y0) (p8 : 0 ≤ y0) (fl : y0 < 256) : Calls Tryz.prog 74 #[.int .u64 x] w fun e w' => e = .returned (.int .i64 (8 + len8 y0.toNat)) ∧ w' = w := by
  go_enter Tryz.func74, Tryz.ntmps74
  go_wp2
  go_ret
  refine ⟨ret_int ?_, rfl⟩
  have hl : y0.toNat < 256 := by omega
  rw [ba_get]
  generalize hn : y0.toNat = n at hl ⊢
  clear hn
  revert n
  decide +kernel
set_option maxHeartbeats 2000000 in
set_option maxRecDepth 100000 in
theorem len_16 (x y0 : Int) (w : World) (h0 : 0 ≤ x) (h1 : x < 18446744073709551616) (t32 : x < 4294967296) (t16 : 65536 ≤ x) (e16 : x / 65536 = y0) (p16 : 0 ≤ y0) (t8 : y0 < 256) (_fl : y0 < 256) : Calls Tryz.prog 74 #[.int .u64 x] w fun e w' => e = .returned (.int .i64 (16 + len8 y0.toNat)) ∧ w' = w := by
  go_enter Tryz.func74, Tryz.ntmps74
  go_wp2
  go_ret
  refine ⟨ret_int ?_, rfl⟩
  have hl : y0.toNat < 256 := by omega
  rw [ba_get]
  generalize hn : y0.toNat = n at hl ⊢
  clear hn
  revert n
  decide +kernel
set_option maxHeartbeats 2000000 in
set_option maxRecDepth 100000 in
theorem len_24 (x y0 y1 : Int) (w : World) (h0 : 0 ≤ x) (h1 : x < 18446744073709551616) (t32 : x < 4294967296) (t16 : 65536 ≤ x) (e16 : x / 65536 = y0) (_p16 : 0 ≤ y0) (t8 : 256 ≤ y0) (e8 : y0 / 256 = y1) (p8 : 0 ≤ y1) (fl : y1 < 256) : Calls Tryz.prog 74 #[.int .u64 x] w fun e w' => e = .returned (.int .i64 (24 + len8 y1.toNat)) ∧ w' = w := by
  go_enter Tryz.func74, Tryz.ntmps74
  go_wp2
  go_ret
  refine ⟨ret_int ?_, rfl⟩
  have hl : y1.toNat < 256 := by omega
  rw [ba_get]
  generalize hn : y1.toNat = n at hl ⊢
  clear hn
  revert n
  decide +kernel
set_option maxHeartbeats 2000000 in
set_option maxRecDepth 100000 in
theorem len_32 (x y0 : Int) (w : World) (_h0 : 0 ≤ x) (_h1 : x < 18446744073709551616) (t32 : 4294967296 ≤ x) (e32 : x / 4294967296 = y0) (p32 : 0 ≤ y0) (t16 : y0 < 65536) (t8 : y0 < 256) (_fl : y0 < 256) : Calls Tryz.prog 74 #[.int .u64 x] w fun e w' => e = .returned (.int .i64 (32 + len8 y0.toNat)) ∧ w' = w := by
  go_enter Tryz.func74, Tryz.ntmps74
  go_wp2
  go_ret
  refine ⟨ret_int ?_, rfl⟩
  have hl : y0.toNat < 256 := by omega
  rw [ba_get]
  generalize hn : y0.toNat = n at hl ⊢
  clear hn
  revert n
  decide +kernel
set_option maxHeartbeats 2000000 in
set_option maxRecDepth 100000 in
theorem len_40 (x y0 y1 : Int) (w : World) (_h0 : 0 ≤ x) (_h1 : x < 18446744073709551616) (t32 : 4294967296 ≤ x) (e32 : x / 4294967296 = y0) (p32 : 0 ≤ y0) (t16 : y0 < 65536) (t8 : 256 ≤ y0) (e8 : y0 / 256 = y1) (p8 : 0 ≤ y1) (fl : y1 < 256) : Calls Tryz.prog 74 #[.int .u64 x] w fun e w' => e = .returned (.int .i64 (40 + len8 y1.toNat)) ∧ w' = w := by
  go_enter Tryz.func74, Tryz.ntmps74
  go_wp2
  go_ret
  refine ⟨ret_int ?_, rfl⟩
  have hl : y1.toNat < 256 := by omega
  rw [ba_get]
  generalize hn : y1.toNat = n at hl ⊢
  clear hn
  revert n
  decide +kernel
set_option maxHeartbeats 2000000 in
set_option maxRecDepth 100000 in
theorem len_48 (x y0 y1 : Int) (w : World) (_h0 : 0 ≤ x) (_h1 : x < 18446744073709551616) (t32 : 4294967296 ≤ x) (e32 : x / 4294967296 = y0) (_p32 : 0 ≤ y0) (t16 : 65536 ≤ y0) (e16 : y0 / 65536 = y1) (p16 : 0 ≤ y1) (t8 : y1 < 256) (_fl : y1 < 256) : Calls Tryz.prog 74 #[.int .u64 x] w fun e w' => e = .returned (.int .i64 (48 + len8 y1.toNat)) ∧ w' = w := by
  go_enter Tryz.func74, Tryz.ntmps74
  go_wp2
  go_ret
  refine ⟨ret_int ?_, rfl⟩
  have hl : y1.toNat < 256 := by omega
  rw [ba_get]
  generalize hn : y1.toNat = n at hl ⊢
  clear hn
  revert n
  decide +kernel
set_option maxHeartbeats 2000000 in
set_option maxRecDepth 100000 in
theorem len_56 (x y0 y1 y2 : Int) (w : World) (_h0 : 0 ≤ x) (_h1 : x < 18446744073709551616) (t32 : 4294967296 ≤ x) (e32 : x / 4294967296 = y0) (_p32 : 0 ≤ y0) (t16 : 65536 ≤ y0) (e16 : y0 / 65536 = y1) (_p16 : 0 ≤ y1) (t8 : 256 ≤ y1) (e8 : y1 / 256 = y2) (p8 : 0 ≤ y2) (fl : y2 < 256) : Calls Tryz.prog 74 #[.int .u64 x] w fun e w' => e = .returned (.int .i64 (56 + len8 y2.toNat)) ∧ w' = w := by
  go_enter Tryz.func74, Tryz.ntmps74
  go_wp2
  go_ret
  refine ⟨ret_int ?_, rfl⟩
  have hl : y2.toNat < 256 := by omega
  rw [ba_get]
  generalize hn : y2.toNat = n at hl ⊢
  clear hn
  revert n
  decide +kernel
theorem log2_shift (n s : Nat) (h : 0 < n / 2 ^ s) : n.log2 = (n / 2 ^ s).log2 + s := by
  have hy : n / 2 ^ s ≠ 0 := by omega
  have h1 := Nat.log2_self_le hy
  have h2 := Nat.lt_log2_self (n := n / 2 ^ s)
  apply log2_of
  · rw [Nat.pow_add]
    exact Nat.le_trans (Nat.mul_le_mul_right _ h1) (Nat.div_mul_le_self n (2 ^ s))
  · have : n < (n / 2 ^ s + 1) * 2 ^ s := by
      have := Nat.lt_mul_div_succ n (pow_pos s)
      rw [Nat.mul_comm] at this; exact this
    refine Nat.lt_of_lt_of_le this ?_
    have e : (n / 2 ^ s).log2 + s + 1 = ((n / 2 ^ s).log2 + 1) + s := by omega
    rw [e, Nat.pow_add]
    exact Nat.mul_le_mul_right _ h2
theorem len8_log (n s : Nat) (h : 0 < n / 2 ^ s) : (s : Int) + len8 (n / 2 ^ s) = ((n.log2 + 1 : Nat) : Int) := by
  have := log2_shift n s h
  unfold len8
  rw [if_neg (by omega)]; omega
theorem len64_at (x : Nat) (w : World) (h0 : 0 < x) (h1 : x < 18446744073709551616) :
    Calls Tryz.prog 74 #[.int .u64 (x : Int)] w fun e w' => e = .returned (.int .i64 ((x.log2 + 1 : Nat) : Int)) ∧ w' = w := by
  by_cases a : x < 4294967296
  · by_cases b : x < 65536
    · by_cases c : x < 256
      · have h := len_0 (x : Int) w (by omega) (by omega) (by omega) (by omega) (by omega)
        have e := len8_log x 0 (by rw [Nat.pow_zero, Nat.div_one]; exact h0)
        rw [Nat.pow_zero, Nat.div_one] at e
        rw [Int.toNat_natCast] at h
        rw [← e]; exact h
      · have h := len_8 (x : Int) _ w (by omega) (by omega) (by omega) (by omega) (by omega) rfl (by omega) (by omega)
        have e := len8_log x 8 (by omega)
        rw [show ((x : Int) / 256).toNat = x / 2 ^ 8 by omega] at h
        rw [← e]; exact h
    · by_cases c : x / 65536 < 256
      · have h := len_16 (x : Int) _ w (by omega) (by omega) (by omega) (by omega) rfl (by omega) (by omega) (by omega)
        have e := len8_log x 16 (by omega)
        rw [show ((x : Int) / 65536).toNat = x / 2 ^ 16 by omega] at h
        rw [← e]; exact h
      · have h := len_24 (x : Int) _ _ w (by omega) (by omega) (by omega) (by omega) rfl (by omega) (by omega) rfl (by omega) (by omega)
        have e := len8_log x 24 (by omega)
        rw [show ((x : Int) / 65536 / 256).toNat = x / 2 ^ 24 by omega] at h
        rw [← e]; exact h
  · by_cases b : x / 4294967296 < 65536
    · by_cases c : x / 4294967296 < 256
      · have h := len_32 (x : Int) _ w (by omega) (by omega) (by omega) rfl (by omega) (by omega) (by omega) (by omega)
        have e := len8_log x 32 (by omega)
        rw [show ((x : Int) / 4294967296).toNat = x / 2 ^ 32 by omega] at h
        rw [← e]; exact h
      · have h := len_40 (x : Int) _ _ w (by omega) (by omega) (by omega) rfl (by omega) (by omega) (by omega) rfl (by omega) (by omega)
        have e := len8_log x 40 (by omega)
        rw [show ((x : Int) / 4294967296 / 256).toNat = x / 2 ^ 40 by omega] at h
        rw [← e]; exact h
    · by_cases c : x / 4294967296 / 65536 < 256
      · have h := len_48 (x : Int) _ _ w (by omega) (by omega) (by omega) rfl (by omega) (by omega) rfl (by omega) (by omega) (by omega)
        have e := len8_log x 48 (by omega)
        rw [show ((x : Int) / 4294967296 / 65536).toNat = x / 2 ^ 48 by omega] at h
        rw [← e]; exact h
      · have h := len_56 (x : Int) _ _ _ w (by omega) (by omega) (by omega) rfl (by omega) (by omega) rfl (by omega) (by omega) rfl (by omega) (by omega)
        have e := len8_log x 56 (by omega)
        rw [show ((x : Int) / 4294967296 / 65536 / 256).toNat = x / 2 ^ 56 by omega] at h
        rw [← e]; exact h

theorem two_pow_cast (k : Nat) : ((2 : Int) ^ k) = ((2 ^ k : Nat) : Int) := by rw [Int.natCast_pow]; rfl
theorem or_add (a b s : Nat) (hb : b < 2 ^ s) (h : a * 2 ^ s + b < 18446744073709551616) : bits .or .u64 ((a * 2 ^ s : Nat) : Int) (b : Int) = ((a * 2 ^ s + b : Nat) : Int) := by
  show IntKind.u64.wrap ((BitVec.ofInt 64 ((a * 2 ^ s : Nat) : Int) ||| BitVec.ofInt 64 (b : Int)).toNat : Int) = _
  rw [BitVec.toNat_or, ofInt_u64 _ (by omega), ofInt_u64 _ (by omega)]
  have := Nat.shiftLeft_add_eq_or_of_lt hb a
  rw [Nat.shiftLeft_eq] at this
  rw [← this, u64wr]
  omega

set_option maxRecDepth 100000 in
theorem lead_go (x n : Int) (w : World) (L : Hid (Calls Tryz.prog 74 #[.int .u64 x] w fun e w' => e = .returned (.int .i64 n) ∧ w' = w)) (h0 : 0 ≤ n) (h1 : n ≤ 64) : Calls Tryz.prog 55 #[.int .u64 x] w fun e w' => e = .returned (.int .i64 (64 - n)) ∧ w' = w := by
  go_enter Tryz.func55, Tryz.ntmps55
  go_wp2_with fail
  refine L.out.mono ?_
  rintro e9 v ⟨rfl, hv⟩
  have hv2 := hv.symm
  subst hv2
  go_wp2
  go_ret
  exact ⟨rfl, rfl⟩
/-- HOW MANY ZEROS LEAD -/
theorem lead_at (x : Nat) (w : World) (h0 : 0 < x) (h1 : x < 18446744073709551616) : Calls Tryz.prog 55 #[.int .u64 (x : Int)] w fun e w' => e = .returned (.int .i64 (64 - ((x.log2 + 1 : Nat) : Int))) ∧ w' = w := by
  have l : x.log2 < 64 := (Nat.log2_lt (by omega)).2 h1
  exact lead_go _ _ w (len64_at x w h0 h1) (by omega) (by omega)
end Sh
end Go.Proofs.YtidmgnllphnbbaaGreatDoor

namespace Go.Proofs.YtidmgnllphnbbaaGreatDoor.Sh
/-- the guess so far -/
def DI (y yn1 u32 U q rh : Int) : Prop := q * yn1 + rh = u32 ∧ U / y ≤ q ∧ 0 ≤ rh ∧ 0 ≤ q
section
variable {y yn1 yn0 u32 u1 U q rh : Int}
theorem DI.start (hy : y = yn1 * 4294967296 + yn0) (h0 : 0 ≤ yn0) (h1 : 0 < yn1) (hu : U = u32 * 4294967296 + u1) (hu1 : 0 ≤ u1 ∧ u1 < 4294967296) (hu0 : 0 ≤ u32) : DI y yn1 u32 U (u32 / yn1) (u32 - u32 / yn1 * yn1) := by
  have d := div_two (a := u32) h1
  rw [Int.mul_comm] at d
  have q0 : 0 ≤ u32 / yn1 := Int.ediv_nonneg hu0 (by omega)
  refine ⟨by omega, ?_, by omega, q0⟩
  generalize u32 / yn1 = k at *
  have hy0 : 0 < y := by omega
  refine Int.le_of_lt_add_one (Int.ediv_lt_of_lt_mul hy0 ?_)
  have e1 : (k + 1) * y = (k * yn1 + yn1) * 4294967296 + (k + 1) * yn0 := by
    rw [hy, Int.mul_add, ← Int.mul_assoc, Int.add_mul k 1 yn1, Int.one_mul]
  have e2 : 0 ≤ (k + 1) * yn0 := Int.mul_nonneg (by omega) h0
  rw [e1]
  have e3 : u32 + 1 ≤ k * yn1 + yn1 := by omega
  omega
/-- the test against the whole -/
theorem DI.test (hy : y = yn1 * 4294967296 + yn0) (hu : U = u32 * 4294967296 + u1) (h : DI y yn1 u32 U q rh) : (4294967296 * rh + u1 < q * yn0 ↔ U < q * y) := by
  have e : q * y = q * yn1 * 4294967296 + q * yn0 := by rw [hy, Int.mul_add, ← Int.mul_assoc]
  have h1 := h.1
  rw [e, hu]
  constructor <;> intro k <;> omega
theorem DI.small (hy0 : 0 < y) (hu : U = u32 * 4294967296 + u1) (hu1 : 0 ≤ u1 ∧ u1 < 4294967296) (hl : u32 < y) : U / y < 4294967296 := by
  refine Int.ediv_lt_of_lt_mul hy0 ?_
  omega
theorem DI.next (hy : y = yn1 * 4294967296 + yn0) (hy0 : 0 < y) (hu : U = u32 * 4294967296 + u1) (hu1 : 0 ≤ u1 ∧ u1 < 4294967296) (hl : u32 < y) (hU : 0 ≤ U) (h1 : 0 < yn1) (h : DI y yn1 u32 U q rh) (c : 4294967296 ≤ q ∨ 4294967296 * rh + u1 < q * yn0) : DI y yn1 u32 U (q - 1) (rh + yn1) := by
  have lt : U / y < q := by
    rcases c with c | c
    · have := DI.small hy0 hu hu1 hl; omega
    · have k := (DI.test hy hu h).1 c
      exact Int.ediv_lt_of_lt_mul hy0 k
  have p := Int.ediv_nonneg hU (show 0 ≤ y by omega)
  obtain ⟨a, b, r, s⟩ := h
  refine ⟨?_, by omega, by omega, by omega⟩
  rw [Int.sub_mul, Int.one_mul]
  omega
theorem DI.done (hy : y = yn1 * 4294967296 + yn0) (hy0 : 0 < y) (hu : U = u32 * 4294967296 + u1) (h : DI y yn1 u32 U q rh) (c : ¬ 4294967296 * rh + u1 < q * yn0) : q = U / y := by
  have k : q * y ≤ U := by
    have := (DI.test hy hu h)
    rcases Int.lt_or_le U (q * y) with l | l
    · exact absurd (this.2 l) c
    · exact l
  have g := h.2.1
  have l := (Int.le_ediv_iff_mul_le hy0).2 k
  omega
/-- where the rest is great the test would not strike -/
theorem DI.great (hy : y = yn1 * 4294967296 + yn0) (h0 : 0 ≤ yn0 ∧ yn0 < 4294967296) (h1 : 0 < yn1) (hu1 : 0 ≤ u1) (hl : u32 < y) (h : DI y yn1 u32 U q rh) (g : 4294967296 ≤ rh) : q < 4294967296 ∧ ¬ 4294967296 * rh + u1 < q * yn0 := by
  obtain ⟨a, b, r, s⟩ := h
  have lq : q < 4294967296 := by
    have k : yn1 * q < yn1 * 4294967296 := by
      have : yn1 * q = q * yn1 := Int.mul_comm _ _
      omega
    exact Int.lt_of_mul_lt_mul_left k (by omega)
  refine ⟨lq, fun c => ?_⟩
  have m : q * yn0 ≤ 4294967295 * 4294967295 := Int.mul_le_mul (by omega) (by omega) h0.1 (by omega)
  have e : (4294967295 : Int) * 4294967295 = 18446744065119617025 := by decide
  omega
end
end Go.Proofs.YtidmgnllphnbbaaGreatDoor.Sh

namespace Go.Proofs.YtidmgnllphnbbaaGreatDoor
open Go.RowKit
namespace Sh
set_option maxRecDepth 100000 in
set_option maxHeartbeats 4000000 in
theorem div_zero_go (lo y : Int) (w : World) (hy : 0 < y) (hy2 : y < 18446744073709551616) (hl : 0 ≤ lo) (hl2 : lo < 18446744073709551616) :
    Calls Tryz.prog 40 #[.int .u64 0, .int .u64 lo, .int .u64 y] w fun e w' => (∃ r, e = .returned (.tuple #[.int .u64 (lo / y), .int .u64 r])) ∧ w' = w.drew := by
  have h0 : (y == 0) = false := by simp; omega
  have h1 : decide (y ≤ 0) = false := decide_eq_false (by omega)
  go_enter Tryz.func40, Tryz.ntmps40
  go_wp2
  go_region
  go_wp2
  go_ret2
  exact ⟨⟨_, rfl⟩, rfl⟩
set_option maxRecDepth 100000 in
set_option maxHeartbeats 8000000 in
theorem div_go (hi lo y s Y a1 a0 u32 u10 u1 u0 U Q1 qa ra n21 V Q0 qb rb R : Int) (w : World) (h0 : 0 < hi) (hy : hi < y) (_hy2 : y < 9223372036854775808) (_hl : 0 ≤ lo) (_hl2 : lo < 18446744073709551616)
    (LZ : Hid (∀ v, Calls Tryz.prog 55 #[.int .u64 y] v fun e w' => e = .returned (.int .i64 s) ∧ w' = v))
    (s0 : 0 < s) (s1 : s < 64)
    (eY : IntKind.u64.wrap (y * 2 ^ s.toNat) = Y) (_Y0 : 0 ≤ Y) (_Y1 : Y < 18446744073709551616) (e1 : Y / 4294967296 = a1) (e0 : bits .and .u64 Y 4294967295 = a0)
    (eu : bits .or .u64 (IntKind.u64.wrap (hi * 2 ^ s.toNat)) (lo / 2 ^ (64 - s).toNat) = u32)
    (el : IntKind.u64.wrap (lo * 2 ^ s.toNat) = u10) (_l0 : 0 ≤ u10) (_l1 : u10 < 18446744073709551616) (f1 : u10 / 4294967296 = u1) (f0 : bits .and .u64 u10 4294967295 = u0) (a1p : 0 < a1) (a1q : a1 < 4294967296) (a0p : 0 ≤ a0) (a0q : a0 < 4294967296) (u32p : 0 ≤ u32) (u32q : u32 < 18446744073709551616) (u1p : 0 ≤ u1) (u1q : u1 < 4294967296) (u0p : 0 ≤ u0) (u0q : u0 < 4294967296)
    (eqa : u32 / a1 = qa) (era : IntKind.u64.wrap (u32 - IntKind.u64.wrap (qa * a1)) = ra) (qap : 0 ≤ qa) (qaq : qa < 18446744073709551616) (_rap : 0 ≤ ra) (raq : ra < 4294967296)
    (HY : Hid (Y = a1 * 4294967296 + a0)) (HY0 : Hid (0 < Y)) (HAU : Hid (U = u32 * 4294967296 + u1)) (HA0 : Hid (0 ≤ U)) (HAL : Hid (u32 < Y)) (HAQ : Hid (U / Y = Q1)) (HAS : Hid (DI Y a1 u32 U qa ra))
    (en : IntKind.u64.wrap (IntKind.u64.wrap (IntKind.u64.wrap (u32 * 4294967296) + u1) - IntKind.u64.wrap (Q1 * Y)) = n21) (np : 0 ≤ n21) (nq : n21 < 18446744073709551616) (Q1p : 0 ≤ Q1) (Q1q : Q1 < 4294967296)
    (eqb : n21 / a1 = qb) (erb : IntKind.u64.wrap (n21 - IntKind.u64.wrap (qb * a1)) = rb) (_qbp : 0 ≤ qb) (qbq : qb < 18446744073709551616) (_rbp : 0 ≤ rb) (rbq : rb < 4294967296)
    (HBU : Hid (V = n21 * 4294967296 + u0)) (HB0 : Hid (0 ≤ V)) (HBL : Hid (n21 < Y)) (HBQ : Hid (V / Y = Q0)) (HBS : Hid (DI Y a1 n21 V qb rb)) (Q0p : 0 ≤ Q0) (Q0q : Q0 < 4294967296) (RE : Hid (Q1 * 4294967296 + Q0 = R)) :
    Calls Tryz.prog 40 #[.int .u64 hi, .int .u64 lo, .int .u64 y] w fun e w' => (∃ r, e = .returned (.tuple #[.int .u64 R, .int .u64 r])) ∧ w' = w := by
  have g0 : (y == 0) = false := by simp; omega
  have g1 : decide (y ≤ hi) = false := decide_eq_false (by omega)
  have g2 : (hi == 0) = false := by simp; omega
  go_enter Tryz.func40, Tryz.ntmps40
  go_wp2_with fail
  refine (LZ.out _).mono ?_
  rintro e9 v ⟨rfl, hv⟩
  have hv2 := hv.symm
  subst hv2
  go_wp2
  clear g0 g1 g2 LZ eY eu el
  go_loopw [15, 16] (fun qv rv w8 => ∃ (q r : Int), qv = .int .u64 q ∧ rv = .int .u64 r ∧ DI Y a1 u32 U q r ∧ r < 4294967296 ∧ q < 18446744073709551616 ∧ w8 = w) (fun qv _ _ => (intOf qv).toNat)
  case atStart => exact ⟨_, _, rfl, rfl, by first | exact HAS.out | (rw [eqa]; exact HAS.out), by omega, by omega, rfl⟩
  case round =>
    obtain ⟨q, r, rfl, rfl, iv, rbd, qbd, hw8⟩ := hrel
    have hw9 := hw8.symm
    subst hw9
    have q0 := iv.2.2.2
    have r0 := iv.2.2.1
    have IV := hid iv
    clear iv
    by_cases c1 : 4294967296 ≤ q
    · have d1 : decide (4294967296 ≤ q) = true := decide_eq_true c1
      have CC : Hid (4294967296 ≤ q ∨ 4294967296 * r + u1 < q * a0) := Or.inl c1
      have NX := hid (DI.next HY.out HY0.out HAU.out ⟨by omega, by omega⟩ HAL.out HA0.out a1p IV.out CC.out)
      have q1 : 1 ≤ q := by have := NX.out.2.2.2; omega
      clear CC
      by_cases b : 4294967296 ≤ r + a1
      · have d3 : decide (4294967296 ≤ r + a1) = true := decide_eq_true b
        have GR := hid (DI.great (u1 := u1) HY.out ⟨by omega, by omega⟩ a1p (by omega) HAL.out NX.out b)
        have qe : q - 1 = Q1 := (DI.done HY.out HY0.out HAU.out NX.out GR.out.2).trans HAQ.out
        clear IV NX GR
        go_wp2
        go_loopw [16, 18] (fun rv qv w8 => ∃ (q r : Int), qv = .int .u64 q ∧ rv = .int .u64 r ∧ DI Y a1 n21 V q r ∧ r < 4294967296 ∧ q < 18446744073709551616 ∧ w8 = w) (fun _ qv _ => (intOf qv).toNat)
        case atStart => exact ⟨_, _, rfl, rfl, by first | exact HBS.out | (rw [eqb]; exact HBS.out), by omega, by omega, rfl⟩
        case round =>
          obtain ⟨q, r, rfl, rfl, iv, rbd, qbd, hw8⟩ := hrel
          have hw9 := hw8.symm
          subst hw9
          have q0 := iv.2.2.2
          have r0 := iv.2.2.1
          have IV := hid iv
          clear iv
          by_cases c1 : 4294967296 ≤ q
          · have d1 : decide (4294967296 ≤ q) = true := decide_eq_true c1
            have CC : Hid (4294967296 ≤ q ∨ 4294967296 * r + u0 < q * a0) := Or.inl c1
            have NX := hid (DI.next HY.out HY0.out HBU.out ⟨by omega, by omega⟩ HBL.out HB0.out a1p IV.out CC.out)
            have q1 : 1 ≤ q := by have := NX.out.2.2.2; omega
            clear CC
            by_cases b : 4294967296 ≤ r + a1
            · have d3 : decide (4294967296 ≤ r + a1) = true := decide_eq_true b
              have GR := hid (DI.great (u1 := u0) HY.out ⟨by omega, by omega⟩ a1p (by omega) HBL.out NX.out b)
              have qe : q - 1 = Q0 := (DI.done HY.out HY0.out HBU.out NX.out GR.out.2).trans HBQ.out
              clear IV NX GR
              go_wp2
              go_ret2
              exact ⟨⟨_, by rw [← RE.out]; rfl⟩, by first | trivial | rfl⟩
            · have d3 : decide (4294967296 ≤ r + a1) = false := decide_eq_false b
              go_wp2
              exact ⟨⟨_, _, rfl, rfl, NX.out, by omega, by omega, by first | trivial | rfl⟩, by simp [intOf] <;> omega⟩
          · have d1 : decide (4294967296 ≤ q) = false := decide_eq_false c1
            have pb := mul_bd (a := q) (b := a0) (m := 4294967295) (by omega) (by omega) (by omega) (by omega)
            obtain ⟨p, hp⟩ : ∃ p, q * a0 = p := ⟨_, rfl⟩
            have PE := hid hp
            rw [hp] at pb
            have p0 := pb.1
            have p1 : p ≤ 18446744065119617025 := Int.le_trans pb.2 (by decide)
            clear pb
            by_cases c2 : 4294967296 * r + u0 < p
            · have d2 : decide (4294967296 * r + u0 < p) = true := decide_eq_true c2
              have CC : Hid (4294967296 ≤ q ∨ 4294967296 * r + u0 < q * a0) := Or.inr (by rw [PE.out]; exact c2)
              have NX := hid (DI.next HY.out HY0.out HBU.out ⟨by omega, by omega⟩ HBL.out HB0.out a1p IV.out CC.out)
              have q1 : 1 ≤ q := by have := NX.out.2.2.2; omega
              clear CC
              by_cases b : 4294967296 ≤ r + a1
              · have d3 : decide (4294967296 ≤ r + a1) = true := decide_eq_true b
                have GR := hid (DI.great (u1 := u0) HY.out ⟨by omega, by omega⟩ a1p (by omega) HBL.out NX.out b)
                have qe : q - 1 = Q0 := (DI.done HY.out HY0.out HBU.out NX.out GR.out.2).trans HBQ.out
                clear IV NX GR
                go_wp2
                go_ret2
                exact ⟨⟨_, by rw [← RE.out]; rfl⟩, by first | trivial | rfl⟩
              · have d3 : decide (4294967296 ≤ r + a1) = false := decide_eq_false b
                go_wp2
                exact ⟨⟨_, _, rfl, rfl, NX.out, by omega, by omega, by first | trivial | rfl⟩, by simp [intOf] <;> omega⟩
            · have d2 : decide (4294967296 * r + u0 < p) = false := decide_eq_false c2
              have qe : q = Q0 := (DI.done HY.out HY0.out HBU.out IV.out (by rw [PE.out]; exact c2)).trans HBQ.out
              clear IV
              subst qe
              go_wp2
              go_ret2
              exact ⟨⟨_, by rw [← RE.out]; rfl⟩, by first | trivial | rfl⟩
      · have d3 : decide (4294967296 ≤ r + a1) = false := decide_eq_false b
        go_wp2
        exact ⟨⟨_, _, rfl, rfl, NX.out, by omega, by omega, by first | trivial | rfl⟩, by simp [intOf] <;> omega⟩
    · have d1 : decide (4294967296 ≤ q) = false := decide_eq_false c1
      have pb := mul_bd (a := q) (b := a0) (m := 4294967295) (by omega) (by omega) (by omega) (by omega)
      obtain ⟨p, hp⟩ : ∃ p, q * a0 = p := ⟨_, rfl⟩
      have PE := hid hp
      rw [hp] at pb
      have p0 := pb.1
      have p1 : p ≤ 18446744065119617025 := Int.le_trans pb.2 (by decide)
      clear pb
      by_cases c2 : 4294967296 * r + u1 < p
      · have d2 : decide (4294967296 * r + u1 < p) = true := decide_eq_true c2
        have CC : Hid (4294967296 ≤ q ∨ 4294967296 * r + u1 < q * a0) := Or.inr (by rw [PE.out]; exact c2)
        have NX := hid (DI.next HY.out HY0.out HAU.out ⟨by omega, by omega⟩ HAL.out HA0.out a1p IV.out CC.out)
        have q1 : 1 ≤ q := by have := NX.out.2.2.2; omega
        clear CC
        by_cases b : 4294967296 ≤ r + a1
        · have d3 : decide (4294967296 ≤ r + a1) = true := decide_eq_true b
          have GR := hid (DI.great (u1 := u1) HY.out ⟨by omega, by omega⟩ a1p (by omega) HAL.out NX.out b)
          have qe : q - 1 = Q1 := (DI.done HY.out HY0.out HAU.out NX.out GR.out.2).trans HAQ.out
          clear IV NX GR
          go_wp2
          go_loopw [16, 18] (fun rv qv w8 => ∃ (q r : Int), qv = .int .u64 q ∧ rv = .int .u64 r ∧ DI Y a1 n21 V q r ∧ r < 4294967296 ∧ q < 18446744073709551616 ∧ w8 = w) (fun _ qv _ => (intOf qv).toNat)
          case atStart => exact ⟨_, _, rfl, rfl, by first | exact HBS.out | (rw [eqb]; exact HBS.out), by omega, by omega, rfl⟩
          case round =>
            obtain ⟨q, r, rfl, rfl, iv, rbd, qbd, hw8⟩ := hrel
            have hw9 := hw8.symm
            subst hw9
            have q0 := iv.2.2.2
            have r0 := iv.2.2.1
            have IV := hid iv
            clear iv
            by_cases c1 : 4294967296 ≤ q
            · have d1 : decide (4294967296 ≤ q) = true := decide_eq_true c1
              have CC : Hid (4294967296 ≤ q ∨ 4294967296 * r + u0 < q * a0) := Or.inl c1
              have NX := hid (DI.next HY.out HY0.out HBU.out ⟨by omega, by omega⟩ HBL.out HB0.out a1p IV.out CC.out)
              have q1 : 1 ≤ q := by have := NX.out.2.2.2; omega
              clear CC
              by_cases b : 4294967296 ≤ r + a1
              · have d3 : decide (4294967296 ≤ r + a1) = true := decide_eq_true b
                have GR := hid (DI.great (u1 := u0) HY.out ⟨by omega, by omega⟩ a1p (by omega) HBL.out NX.out b)
                have qe : q - 1 = Q0 := (DI.done HY.out HY0.out HBU.out NX.out GR.out.2).trans HBQ.out
                clear IV NX GR
                go_wp2
                go_ret2
                exact ⟨⟨_, by rw [← RE.out]; rfl⟩, by first | trivial | rfl⟩
              · have d3 : decide (4294967296 ≤ r + a1) = false := decide_eq_false b
                go_wp2
                exact ⟨⟨_, _, rfl, rfl, NX.out, by omega, by omega, by first | trivial | rfl⟩, by simp [intOf] <;> omega⟩
            · have d1 : decide (4294967296 ≤ q) = false := decide_eq_false c1
              have pb := mul_bd (a := q) (b := a0) (m := 4294967295) (by omega) (by omega) (by omega) (by omega)
              obtain ⟨p, hp⟩ : ∃ p, q * a0 = p := ⟨_, rfl⟩
              have PE := hid hp
              rw [hp] at pb
              have p0 := pb.1
              have p1 : p ≤ 18446744065119617025 := Int.le_trans pb.2 (by decide)
              clear pb
              by_cases c2 : 4294967296 * r + u0 < p
              · have d2 : decide (4294967296 * r + u0 < p) = true := decide_eq_true c2
                have CC : Hid (4294967296 ≤ q ∨ 4294967296 * r + u0 < q * a0) := Or.inr (by rw [PE.out]; exact c2)
                have NX := hid (DI.next HY.out HY0.out HBU.out ⟨by omega, by omega⟩ HBL.out HB0.out a1p IV.out CC.out)
                have q1 : 1 ≤ q := by have := NX.out.2.2.2; omega
                clear CC
                by_cases b : 4294967296 ≤ r + a1
                · have d3 : decide (4294967296 ≤ r + a1) = true := decide_eq_true b
                  have GR := hid (DI.great (u1 := u0) HY.out ⟨by omega, by omega⟩ a1p (by omega) HBL.out NX.out b)
                  have qe : q - 1 = Q0 := (DI.done HY.out HY0.out HBU.out NX.out GR.out.2).trans HBQ.out
                  clear IV NX GR
                  go_wp2
                  go_ret2
                  exact ⟨⟨_, by rw [← RE.out]; rfl⟩, by first | trivial | rfl⟩
                · have d3 : decide (4294967296 ≤ r + a1) = false := decide_eq_false b
                  go_wp2
                  exact ⟨⟨_, _, rfl, rfl, NX.out, by omega, by omega, by first | trivial | rfl⟩, by simp [intOf] <;> omega⟩
              · have d2 : decide (4294967296 * r + u0 < p) = false := decide_eq_false c2
                have qe : q = Q0 := (DI.done HY.out HY0.out HBU.out IV.out (by rw [PE.out]; exact c2)).trans HBQ.out
                clear IV
                subst qe
                go_wp2
                go_ret2
                exact ⟨⟨_, by rw [← RE.out]; rfl⟩, by first | trivial | rfl⟩
        · have d3 : decide (4294967296 ≤ r + a1) = false := decide_eq_false b
          go_wp2
          exact ⟨⟨_, _, rfl, rfl, NX.out, by omega, by omega, by first | trivial | rfl⟩, by simp [intOf] <;> omega⟩
      · have d2 : decide (4294967296 * r + u1 < p) = false := decide_eq_false c2
        have qe : q = Q1 := (DI.done HY.out HY0.out HAU.out IV.out (by rw [PE.out]; exact c2)).trans HAQ.out
        clear IV
        subst qe
        go_wp2
        go_loopw [16, 18] (fun rv qv w8 => ∃ (q r : Int), qv = .int .u64 q ∧ rv = .int .u64 r ∧ DI Y a1 n21 V q r ∧ r < 4294967296 ∧ q < 18446744073709551616 ∧ w8 = w) (fun _ qv _ => (intOf qv).toNat)
        case atStart => exact ⟨_, _, rfl, rfl, by first | exact HBS.out | (rw [eqb]; exact HBS.out), by omega, by omega, rfl⟩
        case round =>
          obtain ⟨q, r, rfl, rfl, iv, rbd, qbd, hw8⟩ := hrel
          have hw9 := hw8.symm
          subst hw9
          have q0 := iv.2.2.2
          have r0 := iv.2.2.1
          have IV := hid iv
          clear iv
          by_cases c1 : 4294967296 ≤ q
          · have d1 : decide (4294967296 ≤ q) = true := decide_eq_true c1
            have CC : Hid (4294967296 ≤ q ∨ 4294967296 * r + u0 < q * a0) := Or.inl c1
            have NX := hid (DI.next HY.out HY0.out HBU.out ⟨by omega, by omega⟩ HBL.out HB0.out a1p IV.out CC.out)
            have q1 : 1 ≤ q := by have := NX.out.2.2.2; omega
            clear CC
            by_cases b : 4294967296 ≤ r + a1
            · have d3 : decide (4294967296 ≤ r + a1) = true := decide_eq_true b
              have GR := hid (DI.great (u1 := u0) HY.out ⟨by omega, by omega⟩ a1p (by omega) HBL.out NX.out b)
              have qe : q - 1 = Q0 := (DI.done HY.out HY0.out HBU.out NX.out GR.out.2).trans HBQ.out
              clear IV NX GR
              go_wp2
              go_ret2
              exact ⟨⟨_, by rw [← RE.out]; rfl⟩, by first | trivial | rfl⟩
            · have d3 : decide (4294967296 ≤ r + a1) = false := decide_eq_false b
              go_wp2
              exact ⟨⟨_, _, rfl, rfl, NX.out, by omega, by omega, by first | trivial | rfl⟩, by simp [intOf] <;> omega⟩
          · have d1 : decide (4294967296 ≤ q) = false := decide_eq_false c1
            have pb := mul_bd (a := q) (b := a0) (m := 4294967295) (by omega) (by omega) (by omega) (by omega)
            obtain ⟨p, hp⟩ : ∃ p, q * a0 = p := ⟨_, rfl⟩
            have PE := hid hp
            rw [hp] at pb
            have p0 := pb.1
            have p1 : p ≤ 18446744065119617025 := Int.le_trans pb.2 (by decide)
            clear pb
            by_cases c2 : 4294967296 * r + u0 < p
            · have d2 : decide (4294967296 * r + u0 < p) = true := decide_eq_true c2
              have CC : Hid (4294967296 ≤ q ∨ 4294967296 * r + u0 < q * a0) := Or.inr (by rw [PE.out]; exact c2)
              have NX := hid (DI.next HY.out HY0.out HBU.out ⟨by omega, by omega⟩ HBL.out HB0.out a1p IV.out CC.out)
              have q1 : 1 ≤ q := by have := NX.out.2.2.2; omega
              clear CC
              by_cases b : 4294967296 ≤ r + a1
              · have d3 : decide (4294967296 ≤ r + a1) = true := decide_eq_true b
                have GR := hid (DI.great (u1 := u0) HY.out ⟨by omega, by omega⟩ a1p (by omega) HBL.out NX.out b)
                have qe : q - 1 = Q0 := (DI.done HY.out HY0.out HBU.out NX.out GR.out.2).trans HBQ.out
                clear IV NX GR
                go_wp2
                go_ret2
                exact ⟨⟨_, by rw [← RE.out]; rfl⟩, by first | trivial | rfl⟩
              · have d3 : decide (4294967296 ≤ r + a1) = false := decide_eq_false b
                go_wp2
                exact ⟨⟨_, _, rfl, rfl, NX.out, by omega, by omega, by first | trivial | rfl⟩, by simp [intOf] <;> omega⟩
            · have d2 : decide (4294967296 * r + u0 < p) = false := decide_eq_false c2
              have qe : q = Q0 := (DI.done HY.out HY0.out HBU.out IV.out (by rw [PE.out]; exact c2)).trans HBQ.out
              clear IV
              subst qe
              go_wp2
              go_ret2
              exact ⟨⟨_, by rw [← RE.out]; rfl⟩, by first | trivial | rfl⟩
end Sh
end Go.Proofs.YtidmgnllphnbbaaGreatDoor
