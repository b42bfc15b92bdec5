/-
  Some of the texts of this proof, one behind the other.
-/
import Derived.Test.YtkckcohemalhiaaGreatDoorRa16
namespace Go.Proofs.YtkckcohemalhiaaGreatDoor
open Go.RowKit Tf Cu Go.Deep
attribute [local go_sem] run_bits run_from raw_feq raw_fne raw_flt raw_fgt run_neg run_store_float
namespace Rv
set_option maxRecDepth 100000 in
set_option maxHeartbeats 64000000 in
theorem run_no0 (gb : Nat) (pb : Option Addr) (lb cb : Nat) (pw : Option Addr) (lw cw : Nat) (pt : Option Addr) (lt ct : Nat) (ps : Option Addr) (ls cs : Nat) (sky st : Int) (w : World)
    (FT : Hid (∀ v, Ab w v → Calls Tryz.prog 35 #[.pointer (some ⟨gb, 0, none⟩), .agg #[.slice pb lb cb, .slice pw lw cw, .slice pt lt ct, .slice ps ls cs, .int .i64 sky, .int .i64 st]] v fun e w' => e = .returned (.bool false) ∧ Below v.heap.size v w')) :
    Calls Tryz.prog 10 #[.pointer (some ⟨gb, 0, none⟩), .agg #[.slice pb lb cb, .slice pw lw cw, .slice pt lt ct, .slice ps ls cs, .int .i64 sky, .int .i64 st]] w fun e w' => e = .returned (.tuple #[.slice none 0 0, .slice none 0 0, .int .i64 1]) ∧ Below w.heap.size w w' := by
  have A0 : Hid (Ab w (w.alloc (.cells #[.slice pb lb cb, .slice pw lw cw, .slice pt lt ct, .slice ps ls cs, .int .i64 sky, .int .i64 st] 25))) := bl1 _ _
  have R0 : Hid ((w.alloc (.cells #[.slice pb lb cb, .slice pw lw cw, .slice pt lt ct, .slice ps ls cs, .int .i64 sky, .int .i64 st] 25)).heap[w.heap.size]? = some (.cells #[.slice pb lb cb, .slice pw lw cw, .slice pt lt ct, .slice ps ls cs, .int .i64 sky, .int .i64 st] 25)) := heap_alloc_new _ _
  go_enter Tryz.func10, Tryz.ntmps10
  go_upto_region 1 with fail
  generalize hW : World.alloc w _ = W0 at *
  obtain ⟨gw, hgw⟩ : ∃ g, w.heap.size = g := ⟨_, rfl⟩
  rw [hgw] at R0 ⊢
  clear hgw hW
  have x0 := cell_of_row _ _ 0 _ _ _ R0.out
  have x1 := cell_of_row _ _ 1 _ _ _ R0.out
  have x2 := cell_of_row _ _ 2 _ _ _ R0.out
  have x3 := cell_of_row _ _ 3 _ _ _ R0.out
  have x4 := cell_of_row _ _ 4 _ _ _ R0.out
  have x5 := cell_of_row _ _ 5 _ _ _ R0.out
  go_wp2_with fail
  refine (FT.out _ A0.out).mono ?_
  rintro e9 v1 ⟨rfl, b1⟩
  have A1 : Hid (Ab w v1) := A0.out.trans b1
  have QA1 := hid (Ab.heap b1 R0.out)
  clear b1 x0 x1 x2 x3 x4 x5
  go_wp2
  go_ret3
  exact ⟨rfl, A1.out⟩
set_option maxRecDepth 100000 in
set_option maxHeartbeats 64000000 in
theorem run_no1 (gb : Nat) (pb : Option Addr) (lb cb : Nat) (pw : Option Addr) (lw cw : Nat) (pt : Option Addr) (lt ct : Nat) (ps : Option Addr) (ls cs : Nat) (sky st : Int) (w : World)
    (FT : Hid (∀ v, Ab w v → Calls Tryz.prog 35 #[.pointer (some ⟨gb, 0, none⟩), .agg #[.slice pb lb cb, .slice pw lw cw, .slice pt lt ct, .slice ps ls cs, .int .i64 sky, .int .i64 st]] v fun e w' => e = .returned (.bool true) ∧ Below v.heap.size v w'))
    (BW : Hid (∀ v, Ab w v → Calls Tryz.prog 36 #[.slice pw lw cw] v fun e w' => e = .returned (.bool false) ∧ Below v.heap.size v w')) :
    Calls Tryz.prog 10 #[.pointer (some ⟨gb, 0, none⟩), .agg #[.slice pb lb cb, .slice pw lw cw, .slice pt lt ct, .slice ps ls cs, .int .i64 sky, .int .i64 st]] w fun e w' => e = .returned (.tuple #[.slice none 0 0, .slice none 0 0, .int .i64 1]) ∧ Below w.heap.size w w' := by
  have A0 : Hid (Ab w (w.alloc (.cells #[.slice pb lb cb, .slice pw lw cw, .slice pt lt ct, .slice ps ls cs, .int .i64 sky, .int .i64 st] 25))) := bl1 _ _
  have R0 : Hid ((w.alloc (.cells #[.slice pb lb cb, .slice pw lw cw, .slice pt lt ct, .slice ps ls cs, .int .i64 sky, .int .i64 st] 25)).heap[w.heap.size]? = some (.cells #[.slice pb lb cb, .slice pw lw cw, .slice pt lt ct, .slice ps ls cs, .int .i64 sky, .int .i64 st] 25)) := heap_alloc_new _ _
  go_enter Tryz.func10, Tryz.ntmps10
  go_upto_region 1 with fail
  generalize hW : World.alloc w _ = W0 at *
  obtain ⟨gw, hgw⟩ : ∃ g, w.heap.size = g := ⟨_, rfl⟩
  rw [hgw] at R0 ⊢
  clear hgw hW
  have x0 := cell_of_row _ _ 0 _ _ _ R0.out
  have x1 := cell_of_row _ _ 1 _ _ _ R0.out
  have x2 := cell_of_row _ _ 2 _ _ _ R0.out
  have x3 := cell_of_row _ _ 3 _ _ _ R0.out
  have x4 := cell_of_row _ _ 4 _ _ _ R0.out
  have x5 := cell_of_row _ _ 5 _ _ _ R0.out
  go_wp2_with fail
  refine (FT.out _ A0.out).mono ?_
  rintro e9 v1 ⟨rfl, b1⟩
  have A1 : Hid (Ab w v1) := A0.out.trans b1
  have QA1 := hid (Ab.heap b1 R0.out)
  clear b1 x0 x1 x2 x3 x4 x5
  have x0 := cell_of_row _ _ 0 _ _ _ QA1.out
  have x1 := cell_of_row _ _ 1 _ _ _ QA1.out
  have x2 := cell_of_row _ _ 2 _ _ _ QA1.out
  have x3 := cell_of_row _ _ 3 _ _ _ QA1.out
  have x4 := cell_of_row _ _ 4 _ _ _ QA1.out
  have x5 := cell_of_row _ _ 5 _ _ _ QA1.out
  go_wp2_with fail
  refine (BW.out _ A1.out).mono ?_
  rintro e9 v2 ⟨rfl, b1⟩
  have A2 : Hid (Ab w v2) := A1.out.trans b1
  have QA2 := hid (Ab.heap b1 QA1.out)
  clear b1 x0 x1 x2 x3 x4 x5
  go_wp2
  go_ret3
  exact ⟨rfl, A2.out⟩
set_option maxRecDepth 100000 in
set_option maxHeartbeats 64000000 in
theorem run_no2 (gb : Nat) (pb : Option Addr) (lb cb : Nat) (pw : Option Addr) (lw cw : Nat) (pt : Option Addr) (lt ct : Nat) (ps : Option Addr) (ls cs : Nat) (sky st : Int) (w : World)
    (FT : Hid (∀ v, Ab w v → Calls Tryz.prog 35 #[.pointer (some ⟨gb, 0, none⟩), .agg #[.slice pb lb cb, .slice pw lw cw, .slice pt lt ct, .slice ps ls cs, .int .i64 sky, .int .i64 st]] v fun e w' => e = .returned (.bool true) ∧ Below v.heap.size v w'))
    (BW : Hid (∀ v, Ab w v → Calls Tryz.prog 36 #[.slice pw lw cw] v fun e w' => e = .returned (.bool true) ∧ Below v.heap.size v w'))
    (BT : Hid (∀ v, Ab w v → Calls Tryz.prog 36 #[.slice pt lt ct] v fun e w' => e = .returned (.bool false) ∧ Below v.heap.size v w')) :
    Calls Tryz.prog 10 #[.pointer (some ⟨gb, 0, none⟩), .agg #[.slice pb lb cb, .slice pw lw cw, .slice pt lt ct, .slice ps ls cs, .int .i64 sky, .int .i64 st]] w fun e w' => e = .returned (.tuple #[.slice none 0 0, .slice none 0 0, .int .i64 1]) ∧ Below w.heap.size w w' := by
  have A0 : Hid (Ab w (w.alloc (.cells #[.slice pb lb cb, .slice pw lw cw, .slice pt lt ct, .slice ps ls cs, .int .i64 sky, .int .i64 st] 25))) := bl1 _ _
  have R0 : Hid ((w.alloc (.cells #[.slice pb lb cb, .slice pw lw cw, .slice pt lt ct, .slice ps ls cs, .int .i64 sky, .int .i64 st] 25)).heap[w.heap.size]? = some (.cells #[.slice pb lb cb, .slice pw lw cw, .slice pt lt ct, .slice ps ls cs, .int .i64 sky, .int .i64 st] 25)) := heap_alloc_new _ _
  go_enter Tryz.func10, Tryz.ntmps10
  go_upto_region 1 with fail
  generalize hW : World.alloc w _ = W0 at *
  obtain ⟨gw, hgw⟩ : ∃ g, w.heap.size = g := ⟨_, rfl⟩
  rw [hgw] at R0 ⊢
  clear hgw hW
  have x0 := cell_of_row _ _ 0 _ _ _ R0.out
  have x1 := cell_of_row _ _ 1 _ _ _ R0.out
  have x2 := cell_of_row _ _ 2 _ _ _ R0.out
  have x3 := cell_of_row _ _ 3 _ _ _ R0.out
  have x4 := cell_of_row _ _ 4 _ _ _ R0.out
  have x5 := cell_of_row _ _ 5 _ _ _ R0.out
  go_wp2_with fail
  refine (FT.out _ A0.out).mono ?_
  rintro e9 v1 ⟨rfl, b1⟩
  have A1 : Hid (Ab w v1) := A0.out.trans b1
  have QA1 := hid (Ab.heap b1 R0.out)
  clear b1 x0 x1 x2 x3 x4 x5
  have x0 := cell_of_row _ _ 0 _ _ _ QA1.out
  have x1 := cell_of_row _ _ 1 _ _ _ QA1.out
  have x2 := cell_of_row _ _ 2 _ _ _ QA1.out
  have x3 := cell_of_row _ _ 3 _ _ _ QA1.out
  have x4 := cell_of_row _ _ 4 _ _ _ QA1.out
  have x5 := cell_of_row _ _ 5 _ _ _ QA1.out
  go_wp2_with fail
  refine (BW.out _ A1.out).mono ?_
  rintro e9 v2 ⟨rfl, b1⟩
  have A2 : Hid (Ab w v2) := A1.out.trans b1
  have QA2 := hid (Ab.heap b1 QA1.out)
  clear b1 x0 x1 x2 x3 x4 x5
  have x0 := cell_of_row _ _ 0 _ _ _ QA2.out
  have x1 := cell_of_row _ _ 1 _ _ _ QA2.out
  have x2 := cell_of_row _ _ 2 _ _ _ QA2.out
  have x3 := cell_of_row _ _ 3 _ _ _ QA2.out
  have x4 := cell_of_row _ _ 4 _ _ _ QA2.out
  have x5 := cell_of_row _ _ 5 _ _ _ QA2.out
  go_wp2_with fail
  refine (BT.out _ A2.out).mono ?_
  rintro e9 v3 ⟨rfl, b1⟩
  have A3 : Hid (Ab w v3) := A2.out.trans b1
  have QA3 := hid (Ab.heap b1 QA2.out)
  clear b1 x0 x1 x2 x3 x4 x5
  go_wp2
  go_ret3
  exact ⟨rfl, A3.out⟩
theorem clone19 (p : Option Addr) (N c : Nat) (f : Nat → Int) (w : World) (h0 : 0 < N) (hN : N ≤ 65536) (hf : Sh.IsI w p N f) :
    Calls Tryz.prog 37 #[.slice p N c] w fun e w' => ∃ g cap F, e = .returned (.slice (some ⟨g, 0, none⟩) N cap) ∧ Below w.heap.size w w' ∧ w.heap.size ≤ g ∧ N ≤ cap ∧ cap ≤ maxLen ∧ w'.rowIs g 2 cap F ∧ ∀ i, i < N → F i = .int .i64 (f i) := by
  refine (Sh.clone_at p N c f w hN hf).mono ?_
  rintro e w' ⟨v, rfl, b, o⟩
  obtain ⟨g, cap, F, rfl, h1, h2, h3, h4, h5⟩ := Sh.own_twoA o h0
  exact ⟨g, cap, F, rfl, b, h1, h2, h3, h4, h5⟩
set_option maxRecDepth 100000 in
set_option maxHeartbeats 64000000 in
theorem run_go (gb N : Nat) (pb : Option Addr) (cb : Nat) (pw : Option Addr) (cw : Nat) (pt : Option Addr) (ct : Nat) (ps : Option Addr) (ls cs : Nat) (sky st : Int) (W T : Nat → Int) (dn : Nat → Int) (sh : Int → Nat → Bool) (ar : Nat → Int) (L : List Nat) (w : World) (hN : N ≤ 6144) (hN0 : 0 < N)
    (FT : Hid (∀ v, Ab w v → Calls Tryz.prog 35 #[.pointer (some ⟨gb, 0, none⟩), .agg #[.slice pb N cb, .slice pw N cw, .slice pt N ct, .slice ps ls cs, .int .i64 sky, .int .i64 st]] v fun e w' => e = .returned (.bool true) ∧ Below v.heap.size v w'))
    (BW : Hid (∀ v, Ab w v → Calls Tryz.prog 36 #[.slice pw N cw] v fun e w' => e = .returned (.bool true) ∧ Below v.heap.size v w'))
    (BT : Hid (∀ v, Ab w v → Calls Tryz.prog 36 #[.slice pt N ct] v fun e w' => e = .returned (.bool true) ∧ Below v.heap.size v w'))
    (CW : Hid (∀ v, Ab w v → Calls Tryz.prog 37 #[.slice pw N cw] v fun e w' => ∃ g cap F, e = .returned (.slice (some ⟨g, 0, none⟩) N cap) ∧ Below v.heap.size v w' ∧ v.heap.size ≤ g ∧ N ≤ cap ∧ cap ≤ maxLen ∧ w'.rowIs g 2 cap F ∧ ∀ i, i < N → F i = .int .i64 (W i)))
    (CT : Hid (∀ v, Ab w v → Calls Tryz.prog 37 #[.slice pt N ct] v fun e w' => ∃ g cap F, e = .returned (.slice (some ⟨g, 0, none⟩) N cap) ∧ Below v.heap.size v w' ∧ v.heap.size ≤ g ∧ N ≤ cap ∧ cap ≤ maxLen ∧ w'.rowIs g 2 cap F ∧ ∀ i, i < N → F i = .int .i64 (T i)))
    (OR : Hid (∀ v, Ab w v → Calls Tryz.prog 16 #[.slice pb N cb] v fun e w' => ∃ u, e = .returned u ∧ Below v.heap.size v w' ∧ OT 3 v.heap.size u (L.map fun c => ((c : Nat) : Int)) w'))
    (DW : Hid (∀ v (c : Nat), Ab w v → c < N → Calls Tryz.prog 12 #[.pointer (some ⟨gb, 0, none⟩), .slice pb N cb, .int .i64 (c : Nat)] v fun e w' => e = .returned (.int .i64 (dn c)) ∧ Below v.heap.size v w'))
    (AR_ : Hid (∀ v (c : Nat), Ab w v → c < N → Calls Tryz.prog 18 #[.pointer (some ⟨gb, 0, none⟩), .int .i64 (c : Nat)] v fun e w' => e = .returned (.int .i64 (ar c)) ∧ Below v.heap.size v w'))
    (RU : Hid (∀ v (c : Nat) (x : Int), Ab w v → c < N → 0 ≤ x → x ≤ 4503599627370496 → Calls Tryz.prog 38 #[.int .i64 x, .int .i64 (ar c)] v fun e w' => e = .returned (.bool (decide (0 < x) && sh x c)) ∧ Below v.heap.size v w'))
    (PC : Sh.PartC)
    (DM : Hid (∀ c, c < N → -1 ≤ dn c)) (OD : Hid (okD N dn)) (LM : Hid (∀ c ∈ L, c < N)) (LL : Hid (L.length = N)) (OK : Hid (okV N W ∧ okV N T)) :
    Calls Tryz.prog 10 #[.pointer (some ⟨gb, 0, none⟩), .agg #[.slice pb N cb, .slice pw N cw, .slice pt N ct, .slice ps ls cs, .int .i64 sky, .int .i64 st]] w fun e w' => ∃ v u, e = .returned (.tuple #[v, u, .int .i64 0]) ∧ Below w.heap.size w w' ∧ Sh.Own w.heap.size v ((List.range N).map (rvL dn sh (W, T) L).1) w' ∧ Sh.Own w.heap.size u ((List.range N).map (rvL dn sh (W, T) L).2) w' ∧ ∀ k, v.ownBlock = some k → u.ownBlock ≠ some k := by
  have HN := hid (And.intro hN hN0)
  have PCH := hid PC
  clear hN hN0 PC
  have A0 : Hid (Ab w (w.alloc (.cells #[.slice pb N cb, .slice pw N cw, .slice pt N ct, .slice ps ls cs, .int .i64 sky, .int .i64 st] 25))) := bl1 _ _
  have R0 : Hid ((w.alloc (.cells #[.slice pb N cb, .slice pw N cw, .slice pt N ct, .slice ps ls cs, .int .i64 sky, .int .i64 st] 25)).heap[w.heap.size]? = some (.cells #[.slice pb N cb, .slice pw N cw, .slice pt N ct, .slice ps ls cs, .int .i64 sky, .int .i64 st] 25)) := heap_alloc_new _ _
  go_enter Tryz.func10, Tryz.ntmps10
  go_upto_region 1 with fail
  generalize hW : World.alloc w _ = W0 at *
  obtain ⟨gw, hgw⟩ : ∃ g, w.heap.size = g := ⟨_, rfl⟩
  rw [hgw] at R0 ⊢
  clear hgw hW
  have x0 := cell_of_row _ _ 0 _ _ _ R0.out
  have x1 := cell_of_row _ _ 1 _ _ _ R0.out
  have x2 := cell_of_row _ _ 2 _ _ _ R0.out
  have x3 := cell_of_row _ _ 3 _ _ _ R0.out
  have x4 := cell_of_row _ _ 4 _ _ _ R0.out
  have x5 := cell_of_row _ _ 5 _ _ _ R0.out
  go_wp2_with fail
  refine (FT.out _ A0.out).mono ?_
  rintro e9 v1 ⟨rfl, b1⟩
  have A1 : Hid (Ab w v1) := A0.out.trans b1
  have QA1 := hid (Ab.heap b1 R0.out)
  clear b1 x0 x1 x2 x3 x4 x5
  have x0 := cell_of_row _ _ 0 _ _ _ QA1.out
  have x1 := cell_of_row _ _ 1 _ _ _ QA1.out
  have x2 := cell_of_row _ _ 2 _ _ _ QA1.out
  have x3 := cell_of_row _ _ 3 _ _ _ QA1.out
  have x4 := cell_of_row _ _ 4 _ _ _ QA1.out
  have x5 := cell_of_row _ _ 5 _ _ _ QA1.out
  go_wp2_with fail
  refine (BW.out _ A1.out).mono ?_
  rintro e9 v2 ⟨rfl, b1⟩
  have A2 : Hid (Ab w v2) := A1.out.trans b1
  have QA2 := hid (Ab.heap b1 QA1.out)
  clear b1 x0 x1 x2 x3 x4 x5
  have x0 := cell_of_row _ _ 0 _ _ _ QA2.out
  have x1 := cell_of_row _ _ 1 _ _ _ QA2.out
  have x2 := cell_of_row _ _ 2 _ _ _ QA2.out
  have x3 := cell_of_row _ _ 3 _ _ _ QA2.out
  have x4 := cell_of_row _ _ 4 _ _ _ QA2.out
  have x5 := cell_of_row _ _ 5 _ _ _ QA2.out
  go_wp2_with fail
  refine (BT.out _ A2.out).mono ?_
  rintro e9 v3 ⟨rfl, b1⟩
  have A3 : Hid (Ab w v3) := A2.out.trans b1
  have QA3 := hid (Ab.heap b1 QA2.out)
  clear b1 x0 x1 x2 x3 x4 x5
  go_upto_region 5 with fail
  go_cut [7, 8] from 32 to 37 (fun s7 s8 wx => ∃ bw cpw Fw bt cpt Ft, s7 = .slice (some ⟨bw, 0, none⟩) N cpw ∧ s8 = .slice (some ⟨bt, 0, none⟩) N cpt ∧ Ab v3 wx ∧ (v3.heap.size ≤ bw ∧ v3.heap.size ≤ bt ∧ bw ≠ bt) ∧ (N ≤ cpw ∧ cpw ≤ maxLen ∧ N ≤ cpt ∧ cpt ≤ maxLen) ∧ wx.rowIs bw 2 cpw Fw ∧ (∀ i, i < N → Fw i = .int .i64 (W i)) ∧ wx.rowIs bt 2 cpt Ft ∧ (∀ i, i < N → Ft i = .int .i64 (T i)))
  case first =>
    have aw : Ab w v3 := A3.out
    have av : Ab v3 v3 := Ab.refl _
    have gl : gw < v3.heap.size := lt_of_get QA3.out
    have CE : Hid (∀ z, Ab v3 z → z.heap[gw]? = some (.cells #[.slice pb N cb, .slice pw N cw, .slice pt N ct, .slice ps ls cs, .int .i64 sky, .int .i64 st] 25)) := fun z h => Ab.heap h QA3.out
    have x0 := cell_of_row _ _ 0 _ _ _ QA3.out
    have x1 := cell_of_row _ _ 1 _ _ _ QA3.out
    have x2 := cell_of_row _ _ 2 _ _ _ QA3.out
    have x3 := cell_of_row _ _ 3 _ _ _ QA3.out
    have x4 := cell_of_row _ _ 4 _ _ _ QA3.out
    have x5 := cell_of_row _ _ 5 _ _ _ QA3.out
    go_region_with (first
      | (go_at_call_of 37 (Value.slice pw N cw); refine (CW.out _ (aw.trans (show Ab v3 _ by with_reducible (repeat (first | assumption | apply Ab.drew))))).mono ?_; rintro e9 z1 ⟨g1, c1, F1, rfl, b1, k1, m1, n1, r1, f1⟩; have az1 : Ab v3 z1 := (show Ab v3 _ by with_reducible (repeat (first | assumption | apply Ab.drew))).trans b1; have h1 := Nat.le_trans az1.size (Nat.le_refl _); have x1' := cell_of_row _ _ 1 _ _ _ (CE.out _ az1); have x2' := cell_of_row _ _ 2 _ _ _ (CE.out _ az1); have gl1 : gw < z1.heap.size := Nat.lt_of_lt_of_le gl az1.size; (try (have s1 := rowIs.ab r2 (show Ab z2 z1 from (show Ab z2 _ by with_reducible (repeat (first | assumption | apply Ab.drew | exact Ab.refl _))).trans b1))); (try (have t1 := r2.lt)))
      | (go_at_call_of 37 (Value.slice pt N ct); refine (CT.out _ (aw.trans (show Ab v3 _ by with_reducible (repeat (first | assumption | apply Ab.drew))))).mono ?_; rintro e9 z2 ⟨g2, c2, F2, rfl, b2, k2, m2, n2, r2, f2⟩; have az2 : Ab v3 z2 := (show Ab v3 _ by with_reducible (repeat (first | assumption | apply Ab.drew))).trans b2; have x1'' := cell_of_row _ _ 1 _ _ _ (CE.out _ az2); have x2'' := cell_of_row _ _ 2 _ _ _ (CE.out _ az2); have gl2 : gw < z2.heap.size := Nat.lt_of_lt_of_le gl az2.size; (try (have s2 := rowIs.ab r1 (show Ab z1 z2 from (show Ab z1 _ by with_reducible (repeat (first | assumption | apply Ab.drew | exact Ab.refl _))).trans b2))); (try (have t2 := r1.lt))))
    all_goals (try go_wp2_with fail)
    all_goals go_meet
    all_goals (have kk := az1.size; have k1' : v3.heap.size ≤ g1 := k1; exact ⟨g1, c1, F1, g2, c2, F2, rfl, rfl, az2, ⟨k1', by omega, by omega⟩, ⟨m1, n1, m2, n2⟩, s2, f1, r2, f2⟩)
  case rest =>
    obtain ⟨bw, cpw, Fw, bt, cpt, Ft, rfl, rfl, ac, hne, hcp, r1, f1, r2, f2⟩ := hcut
    rename World => v5
    have A5 : Hid (Ab w v5) := A3.out.trans ac
    have Q5 := hid (Ab.heap ac QA3.out)
    have RW5 := hid r1
    have RT5 := hid r2
    have FW5 := hid f1
    have FT5 := hid f2
    have CP := hid hcp
    have NE : Hid (bw ≠ bt ∧ w.heap.size ≤ bw ∧ w.heap.size ≤ bt) := by
      have h2 := A3.out.size
      exact ⟨hne.2.2, by omega, by omega⟩
    have GW : Hid (gw ≠ bw ∧ gw ≠ bt) := by
      have h := lt_of_get QA3.out
      exact ⟨by omega, by omega⟩
    clear ac hne hcp r1 f1 r2 f2
    have x0 := cell_of_row _ _ 0 _ _ _ Q5.out
    have x1 := cell_of_row _ _ 1 _ _ _ Q5.out
    have x2 := cell_of_row _ _ 2 _ _ _ Q5.out
    have x3 := cell_of_row _ _ 3 _ _ _ Q5.out
    have x4 := cell_of_row _ _ 4 _ _ _ Q5.out
    have x5 := cell_of_row _ _ 5 _ _ _ Q5.out
    go_wp2_with fail
    refine (OR.out v5 A5.out).mono ?_
    rintro e9 v6 ⟨u, rfl, b6, o6⟩
    obtain ⟨pl, cl, rfl, il⟩ := o6.isI (fun x hx => by
      obtain ⟨c, hc, rfl⟩ := List.mem_map.1 hx
      have := LM.out c hc
      have := HN.out.1
      omega)
    have LN : (L.map fun c => ((c : Nat) : Int)).length = N := by rw [List.length_map]; exact LL.out
    rw [LN] at il
    rw [LN]
    have IL : Hid (Sh.IsI v6 pl N (fun k => ((L.getD k 0 : Nat) : Int))) := il.congr (fun k hk => by
      have h : k < L.length := by rw [LL.out]; exact hk
      simp [List.getD, h])
    have NL : Hid (∀ b o, pl = some ⟨b, o, none⟩ → b ≠ bw ∧ b ≠ bt) := fun b o e => by
      subst e
      have h := (o6.blk (k := b) rfl).1
      have h1 := RW5.out.lt
      have h2 := RT5.out.lt
      exact ⟨by omega, by omega⟩
    have A6 : Hid (Ab w v6) := A5.out.trans b6
    have Q6 := hid (Ab.heap b6 Q5.out)
    have RW6 := hid (rowIs.ab RW5.out b6)
    have RT6 := hid (rowIs.ab RT5.out b6)
    obtain ⟨qq, oq, rfl⟩ := IL.out.some0 HN.out.2
    have NQ := hid (NL.out qq oq rfl)
    clear b6 o6 il NL x0 x1 x2 x3 x4 x5 RW5 RT5 Q5 A5 QA1 QA2 QA3 A1 A2 A3 R0 A0 FT BW BT OR CW CT LN
    go_wp2
    go_loopw [42] (fun iv wr => ∃ k : Nat, k ≤ N ∧ iv = .int .i64 (k : Nat) ∧ Ab w wr ∧ wr.heap[gw]? = v6.heap[gw]? ∧ wr.heap[qq]? = v6.heap[qq]? ∧ wr.rowIs bw 2 cpw (fun i => if i < N then .int .i64 ((rvL dn sh (W, T) (L.take k)).1 i) else Fw i) ∧ wr.rowIs bt 2 cpt (fun i => if i < N then .int .i64 ((rvL dn sh (W, T) (L.take k)).2 i) else Ft i)) (fun iv _ => N - (intOf iv).toNat)
    case atStart => exact ⟨0, by omega, rfl, A6.out, rfl, rfl, RW6.out.congr (fun i _ => by by_cases h : i < N; rw [if_pos h, FW5.out i h]; rfl; rw [if_neg h]), RT6.out.congr (fun i _ => by by_cases h : i < N; rw [if_pos h, FT5.out i h]; rfl; rw [if_neg h])⟩
    case round =>
      obtain ⟨k, hk, rfl, ar1, hgw, hqq, rw1, rt1⟩ := hrel
      have AR := hid ar1
      have EG := hid hgw
      have EQ := hid hqq
      have RW := hid rw1
      have RT := hid rt1
      clear ar1 hgw hqq rw1 rt1 RW6 RT6
      by_cases hkn : k < N
      · have HK := hid hkn
        have kI : (k : Int) < N := by omega
        have kB : (k : Int) ≤ 6144 := by have := HN.out.1; omega
        obtain ⟨c, hc⟩ : ∃ c, L.getD k 0 = c := ⟨_, rfl⟩
        have kL : k < L.length := by have := LL.out; omega
        have ec : L[k] = c := by rw [← hc]; simp [List.getD, kL]
        have cN : c < N := LM.out c (by rw [← ec]; exact List.getElem_mem _)
        have NX : Hid (rvL dn sh (W, T) (L.take (k + 1)) = rv1 dn sh (rvL dn sh (W, T) (L.take k)) c) := by
          show _ = _
          rw [List.take_succ_eq_append_getElem kL, ec]
          unfold rvL
          rw [List.foldl_append]
          rfl
        have KO := rvL_ok (n := N) (dn := dn) (sh := sh) (X := (W, T)) (l := L.take k) OD.out (fun x hx => LM.out x (List.mem_of_mem_take hx)) OK.out
        obtain ⟨X, hX⟩ : ∃ X, rvL dn sh (W, T) (L.take k) = X := ⟨_, rfl⟩
        rw [hX] at RW RT KO NX
        have lc := (IL.out.at0 hkn).2.2
        rw [hc] at lc
        have y0 : wr.cell? ⟨qq, oq + k, none⟩ = some (.int .i64 (c : Nat)) := (World.cell?_of_block EQ.out).trans lc
        have CN := hid cN
        have cI : (c : Int) < N := by omega
        have cB : (c : Int) ≤ 6144 := by have := HN.out.1; omega
        have H6 : Hid (wr.heap[gw]? = some (.cells #[.slice pb N cb, .slice pw N cw, .slice pt N ct, .slice ps ls cs, .int .i64 sky, .int .i64 st] 25)) := EG.out.trans Q6.out
        have x0 := cell_of_row _ _ 0 _ _ _ H6.out
        obtain ⟨x, hx⟩ : ∃ x, X.1 c = x := ⟨_, rfl⟩
        obtain ⟨tt, htt⟩ : ∃ x, X.2 c = x := ⟨_, rfl⟩
        have xb := KO.1.1.b cN
        have tb := KO.1.2.b cN
        rw [hx] at xb
        rw [htt] at tb
        have xb1 := xb.1
        have xb2 := xb.2
        have tb1 := tb.1
        have tb2 := tb.2
        have HX := hid hx
        have HT := hid htt
        have XW : Hid (∀ v, Ab wr v → v.cell? ⟨bw, c, none⟩ = some (.int .i64 x) ∧ v.cell? ⟨bt, c, none⟩ = some (.int .i64 tt)) := fun v a => by
          have h1 := (rowIs.ab RW.out a).cell (Nat.lt_of_lt_of_le cN CP.out.1)
          have h2 := (rowIs.ab RT.out a).cell (Nat.lt_of_lt_of_le cN CP.out.2.2.1)
          rw [if_pos cN, hx] at h1
          rw [if_pos cN, htt] at h2
          exact ⟨h1, h2⟩
        obtain ⟨d, hd⟩ : ∃ d, dn c = d := ⟨_, rfl⟩
        have CD := hid (DW.out wr c AR.out cN)
        rw [hd] at CD
        have HD := hid hd
        have dm := DM.out c cN
        rw [hd] at dm
        have KOH := hid KO
        clear hX hc kL ec cN hx htt xb tb hd KO lc hkn hk
        go_wp2_with fail
        refine CD.out.mono ?_
        rintro e9 v7 ⟨rfl, b7⟩
        have A7 : Hid (Ab wr v7) := b7
        clear b7 CD x0 y0
        have HQ2 : Hid (qq < wr.heap.size) := by
          have h := EQ.out
          have h2 := (IL.out.at0 HK.out).2.1
          show qq < wr.heap.size
          rcases Nat.lt_or_ge qq wr.heap.size with h1 | h1
          · exact h1
          · rw [Array.getElem?_eq_none h1, Array.getElem?_eq_getElem h2] at h
            cases h
        by_cases f1 : d < 0
        · have f2 : d = -1 := by omega
          subst f2
          go_upto_region 10 with fail
          obtain ⟨UU, E, hF1, hF2⟩ := cls v7
          have HU := hid hF2
          have HU1 := hid hF1
          have DD0 := HU.out _ (Ab.refl v7).drew
          clear hF1 hF2
          refine region_cls E (by kernel_rfl) (by kernel_rfl) DD0 ?_
          repeat (go_big_quiet_step (with_reducible rfl))
          refine wpQuiet_nil ?_
          intro v8 hwz
          obtain ⟨u0, hu⟩ := hwz
          have A8 : Hid (Ab v7 v8) := by rw [hu]; exact HU1.out u0
          clear hu u0
          clear HU HU1 DD0 
          clear E UU
          have NXX : Hid (rvL dn sh (W, T) (L.take (k + 1)) = X) := by
            show _ = _
            rw [NX.out]
            unfold rv1
            rw [if_pos (.inl (by rw [HD.out]; exact f1))]
          go_wp2
          exact ⟨⟨k + 1, by have := HK.out; omega, by simp, AR.out.trans (A7.out.trans A8.out), ((A7.out.trans A8.out).block _ (lt_of_get H6.out)).trans EG.out, ((A7.out.trans A8.out).block _ HQ2.out).trans EQ.out, by rw [NXX.out]; exact rowIs.ab RW.out (A7.out.trans A8.out), by rw [NXX.out]; exact rowIs.ab RT.out (A7.out.trans A8.out)⟩, by have := HK.out; simp [intOf]; omega⟩
        · have e5 : (d == -1) = false := by simp; omega
          obtain ⟨dq, rfl⟩ : ∃ q : Nat, d = (q : Nat) := ⟨d.toNat, by omega⟩
          have CA : Hid (∀ v, Ab v7 v → Calls Tryz.prog 18 #[.pointer (some ⟨gb, 0, none⟩), .int .i64 (c : Nat)] v fun e w' => e = .returned (.int .i64 (ar c)) ∧ Below v.heap.size v w') := fun v a => AR_.out v c (AR.out.trans (A7.out.trans a)) CN.out
          have CR : Hid (∀ v, Ab v7 v → Calls Tryz.prog 38 #[.int .i64 x, .int .i64 (ar c)] v fun e w' => e = .returned (.bool (decide (0 < x) && sh x c)) ∧ Below v.heap.size v w') := fun v a => RU.out v c x (AR.out.trans (A7.out.trans a)) CN.out xb1 xb2
          obtain ⟨rr, hrr⟩ : ∃ r, (decide (0 < x) && sh x c) = r := ⟨_, rfl⟩
          have RR := hid hrr
          rw [hrr] at CR
          clear hrr dm
          cases rr with
          | false =>
            have QF : Hid (x ≤ 0 ∨ sh x c = false) := by
              have h := RR.out
              rw [Bool.and_eq_false_iff] at h
              rcases h with h | h
              · exact .inl (by have := of_decide_eq_false h; omega)
              · exact .inr h
            go_upto_region 10 with fail
            obtain ⟨UU, E, hF1, hF2⟩ := cls v7
            have HU := hid hF2
            have HU1 := hid hF1
            have e1 : ∀ u, (E u).cell? ⟨bw, c, none⟩ = some (.int .i64 x) := fun u => (XW.out _ (A7.out.trans (hF1 u))).1
            have DD0 := HU.out _ (Ab.refl v7).drew
            clear hF1 hF2
            refine region_cls E (by kernel_rfl) (by kernel_rfl) DD0 ?_
            repeat (go_big_quiet_step (first | (go_at_call 18; exact calls_cls HU HU1 (CA.out _ (HU1.out _))) | (go_at_call 38; exact calls_cls HU HU1 (CR.out _ (HU1.out _))) | (with_reducible rfl)))
            refine wpQuiet_nil ?_
            intro v8 hwz
            obtain ⟨u0, hu⟩ := hwz
            have A8 : Hid (Ab v7 v8) := by rw [hu]; exact HU1.out u0
            clear hu u0
            clear HU HU1 DD0 e1
            clear E UU
            have NXX : Hid (rvL dn sh (W, T) (L.take (k + 1)) = X) := by
              show _ = _
              rw [NX.out]
              unfold rv1
              rw [if_pos (.inr (by rw [HX.out]; exact QF.out))]
            go_wp2
            exact ⟨⟨k + 1, by have := HK.out; omega, by simp, AR.out.trans (A7.out.trans A8.out), ((A7.out.trans A8.out).block _ (lt_of_get H6.out)).trans EG.out, ((A7.out.trans A8.out).block _ HQ2.out).trans EQ.out, by rw [NXX.out]; exact rowIs.ab RW.out (A7.out.trans A8.out), by rw [NXX.out]; exact rowIs.ab RT.out (A7.out.trans A8.out)⟩, by have := HK.out; simp [intOf]; omega⟩
          | true =>
            have q1 := (Bool.and_eq_true _ _).mp RR.out
            have f2 : 0 < x := of_decide_eq_true q1.1
            have SQ := hid q1.2
            have OP := OD.out c CN.out (by rw [HD.out]; omega)
            rw [HD.out, Int.toNat_natCast] at OP
            have dN := OP.1
            have dc := OP.2
            obtain ⟨m, hm⟩ : ∃ m, gvW x = m := ⟨_, rfl⟩
            have mq : x.tdiv 4 = m := by rw [← hm]; unfold gvW; exact Int.tdiv_eq_ediv_of_nonneg (by omega)
            obtain ⟨p, hp⟩ : ∃ p, Sh.part tt m x = p := ⟨_, rfl⟩
            have gi := gv_in (x := x) (t := tt) (by omega) ⟨tb1, tb2⟩
            rw [hm, hp] at gi
            have m1 := gi.1.1
            have m2 := gi.1.2
            have p1 := gi.2.1
            have p2 := gi.2.2
            obtain ⟨xd, hxd⟩ : ∃ z, X.1 dq = z := ⟨_, rfl⟩
            obtain ⟨td, htd⟩ : ∃ z, X.2 dq = z := ⟨_, rfl⟩
            have xdb := KOH.out.1.1.b dN
            have tdb := KOH.out.1.2.b dN
            rw [hxd] at xdb
            rw [htd] at tdb
            have xd1 := xdb.1
            have xd2 := xdb.2
            have td1 := tdb.1
            have td2 := tdb.2
            have CT : Hid (∀ v, Calls Tryz.prog 39 #[.int .i64 tt, .int .i64 m, .int .i64 x] v fun e w' => e = .returned (.int .i64 p) ∧ Below v.heap.size v w') := fun v => by
              rw [← hp]
              exact PCH.out tt m x v (by unfold Sh.W64; omega) (by unfold Sh.W64; omega) (by unfold Sh.W64; omega)
            have NXX : Hid ((∀ i, (rvL dn sh (W, T) (L.take (k + 1))).1 i = if i = dq then xd + m else if i = c then x - m else X.1 i) ∧ ∀ i, (rvL dn sh (W, T) (L.take (k + 1))).2 i = if i = dq then td + p else if i = c then tt - p else X.2 i) := by
              rw [NX.out]
              unfold rv1
              rw [if_neg (by
                rw [HD.out, HX.out]
                intro q
                rcases q with q | q | q
                · omega
                · omega
                · rw [SQ.out] at q; cases q), HD.out, Int.toNat_natCast, HX.out, HT.out, hm, hp]
              refine ⟨fun i => ?_, fun i => ?_⟩
              · dsimp only
                by_cases e : i = dq
                · rw [if_pos e, if_pos e, e, hxd]
                · rw [if_neg e, if_neg e]
              · dsimp only
                by_cases e : i = dq
                · rw [if_pos e, if_pos e, e, htd]
                · rw [if_neg e, if_neg e]
            have HXD := hid (And.intro hxd htd)
            have DN := hid dN
            have DC := hid dc
            have dI : (dq : Int) < N := by omega
            have dB : (dq : Int) ≤ 6144 := by have := HN.out.1; omega
            clear hm hp gi hxd htd xdb tdb dN dc OP q1
            go_upto_region 10 with fail
            obtain ⟨UU, E, hF1, hF2⟩ := cls v7
            have HU := hid hF2
            have HU1 := hid hF1
            have e1 : ∀ u, (E u).cell? ⟨bw, c, none⟩ = some (.int .i64 x) := fun u => (XW.out _ (A7.out.trans (hF1 u))).1
            have DD0 := HU.out _ (Ab.refl v7).drew
            clear hF1 hF2
            refine region_cls E (by kernel_rfl) (by kernel_rfl) DD0 ?_
            repeat (go_big_quiet_step (first | (go_at_call 18; exact calls_cls HU HU1 (CA.out _ (HU1.out _))) | (go_at_call 38; exact calls_cls HU HU1 (CR.out _ (HU1.out _))) | (with_reducible rfl)))
            refine wpQuiet_nil ?_
            intro v8 hwz
            obtain ⟨u0, hu⟩ := hwz
            have A8 : Hid (Ab v7 v8) := by rw [hu]; exact HU1.out u0
            clear hu u0
            clear HU HU1 DD0 e1
            clear E UU
            have z1 := (XW.out _ (A7.out.trans A8.out)).1
            go_upto_region 12 with fail
            obtain ⟨UU, E, hF1, hF2⟩ := cls v8
            have HU := hid hF2
            have HU1 := hid hF1
            have e1 : ∀ u, (E u).cell? ⟨bw, c, none⟩ = some (.int .i64 x) := fun u => (XW.out _ (A7.out.trans (A8.out.trans (hF1 u)))).1
            have e2 : ∀ u, (E u).cell? ⟨bt, c, none⟩ = some (.int .i64 tt) := fun u => (XW.out _ (A7.out.trans (A8.out.trans (hF1 u)))).2
            have DD0 := HU.out _ (Ab.refl v8).drew
            clear hF1 hF2
            refine region_cls E (by kernel_rfl) (by kernel_rfl) DD0 ?_
            repeat (go_big_quiet_step (first | (go_at_call 39; exact calls_cls HU HU1 (CT.out _)) | (with_reducible rfl)))
            refine wpQuiet_nil ?_
            intro v9 hwz
            obtain ⟨u0, hu⟩ := hwz
            have A9 : Hid (Ab v8 v9) := by rw [hu]; exact HU1.out u0
            clear hu u0
            clear HU HU1 DD0 e1 e2
            clear E UU
            clear z1
            have A79 : Hid (Ab wr v9) := A7.out.trans (A8.out.trans A9.out)
            have RW9 := hid (rowIs.ab RW.out A79.out)
            have RT9 := hid (rowIs.ab RT.out A79.out)
            have q1 := (XW.out _ A79.out).1
            have f1 := RW9.out.frozen c
            go_upto_region 14 with fail
            have RWa := hid (RW9.out.set c (.int .i64 (x - m)))
            have RTa := hid (RT9.out.setOther (a := ⟨bw, c, none⟩) (by have := NE.out.1; intro e; have e2 : bt = bw := e; omega) (.int .i64 (x - m)))
            have Ga : Hid ((v9.setCell ⟨bw, c, none⟩ (.int .i64 (x - m))).heap[gw]? = v6.heap[gw]? ∧ (v9.setCell ⟨bw, c, none⟩ (.int .i64 (x - m))).heap[qq]? = v6.heap[qq]?) := ⟨(Below.heap_setCell _ _ _ _ GW.out.1).trans ((A79.out.block _ (lt_of_get H6.out)).trans EG.out), (Below.heap_setCell _ _ _ _ NQ.out.1).trans ((A79.out.block _ HQ2.out).trans EQ.out)⟩
            have Aa : Hid (Ab w (v9.setCell ⟨bw, c, none⟩ (.int .i64 (x - m)))) := (AR.out.trans A79.out).setk NE.out.2.1 _
            generalize World.setCell v9 _ _ = va at *
            have q2 := RWa.out.cell (i := dq) (Nat.lt_of_lt_of_le DN.out CP.out.1)
            rw [if_neg DC.out, if_pos DN.out, HXD.out.1] at q2
            have f2 := RWa.out.frozen dq
            clear q1 f1
            go_upto_region 15 with fail
            have RWb := hid (RWa.out.set dq (.int .i64 (xd + m)))
            have RTb := hid (RTa.out.setOther (a := ⟨bw, dq, none⟩) (by have := NE.out.1; intro e; have e2 : bt = bw := e; omega) (.int .i64 (xd + m)))
            have Gb : Hid ((va.setCell ⟨bw, dq, none⟩ (.int .i64 (xd + m))).heap[gw]? = v6.heap[gw]? ∧ (va.setCell ⟨bw, dq, none⟩ (.int .i64 (xd + m))).heap[qq]? = v6.heap[qq]?) := ⟨(Below.heap_setCell _ _ _ _ GW.out.1).trans Ga.out.1, (Below.heap_setCell _ _ _ _ NQ.out.1).trans Ga.out.2⟩
            have Ab_ : Hid (Ab w (va.setCell ⟨bw, dq, none⟩ (.int .i64 (xd + m)))) := Aa.out.setk NE.out.2.1 _
            generalize World.setCell va _ _ = vb at *
            have q3 := RTb.out.cell (i := c) (Nat.lt_of_lt_of_le CN.out CP.out.2.2.1)
            rw [if_pos CN.out, HT.out] at q3
            have f3 := RTb.out.frozen c
            clear q2 f2
            go_upto_region 16 with fail
            have RWc := hid (RWb.out.setOther (a := ⟨bt, c, none⟩) (by have := NE.out.1; intro e; have e2 : bw = bt := e; omega) (.int .i64 (tt - p)))
            have RTc := hid (RTb.out.set c (.int .i64 (tt - p)))
            have Gc : Hid ((vb.setCell ⟨bt, c, none⟩ (.int .i64 (tt - p))).heap[gw]? = v6.heap[gw]? ∧ (vb.setCell ⟨bt, c, none⟩ (.int .i64 (tt - p))).heap[qq]? = v6.heap[qq]?) := ⟨(Below.heap_setCell _ _ _ _ GW.out.2).trans Gb.out.1, (Below.heap_setCell _ _ _ _ NQ.out.2).trans Gb.out.2⟩
            have Ac : Hid (Ab w (vb.setCell ⟨bt, c, none⟩ (.int .i64 (tt - p)))) := Ab_.out.setk NE.out.2.2 _
            generalize World.setCell vb _ _ = vc at *
            have q4 := RTc.out.cell (i := dq) (Nat.lt_of_lt_of_le DN.out CP.out.2.2.1)
            rw [if_neg DC.out, if_pos DN.out, HXD.out.2] at q4
            have f4 := RTc.out.frozen dq
            clear q3 f3
            go_wp2
            refine ⟨⟨k + 1, by have := HK.out; omega, by simp, Ac.out.setk NE.out.2.2 _, (Below.heap_setCell _ _ _ _ GW.out.2).trans Gc.out.1, (Below.heap_setCell _ _ _ _ NQ.out.2).trans Gc.out.2, (RWc.out.setOther (a := ⟨bt, dq, none⟩) (by have := NE.out.1; intro e; have e2 : bw = bt := e; omega) _).congr (fun i _ => ?_), (RTc.out.set dq _).congr (fun i _ => ?_)⟩, by have := HK.out; simp [intOf]; omega⟩
            · by_cases e1 : i = dq
              · rw [if_pos e1, if_pos (by rw [e1]; exact DN.out), NXX.out.1 i, if_pos e1]
              · rw [if_neg e1]
                by_cases e2 : i = c
                · rw [if_pos e2, if_pos (by rw [e2]; exact CN.out), NXX.out.1 i, if_neg e1, if_pos e2]
                · rw [if_neg e2, NXX.out.1 i, if_neg e1, if_neg e2]
            · by_cases e1 : i = dq
              · rw [if_pos e1, if_pos (by rw [e1]; exact DN.out), NXX.out.2 i, if_pos e1]
              · rw [if_neg e1]
                by_cases e2 : i = c
                · rw [if_pos e2, if_pos (by rw [e2]; exact CN.out), NXX.out.2 i, if_neg e1, if_pos e2]
                · rw [if_neg e2, NXX.out.2 i, if_neg e1, if_neg e2]
      · have e6 : N = k := by omega
        subst e6
        have TL : Hid (L.take N = L) := List.take_of_length_le (by have := LL.out; omega)
        rw [TL.out] at RW RT
        go_wp2
        go_ret3
        exact ⟨_, _, rfl, AR.out, Sh.row_ownA RW.out NE.out.2.1 CP.out.1 CP.out.2.1 (fun i hi => if_pos hi), Sh.row_ownA RT.out NE.out.2.2 CP.out.2.2.1 CP.out.2.2.2 (fun i hi => if_pos hi), fun q h1 h2 => NE.out.1 (by
          have h1 : some bw = some q := h1
          have h2 : some bt = some q := h2
          rw [Option.some.inj h1, Option.some.inj h2])⟩
/-- WHAT Run ANSWERS -/
theorem runC_of (PC : Sh.PartC) : RunC := fun n gb pb lb cb B pw lw cw W pt lt ct T ps ls cs Sp sky st w hn g ib iw it _ => by
  have nb : 6 * n * n ≤ 6144 := by
    have h1 : n * n ≤ 32 * 32 := Nat.mul_le_mul hn.2 hn.2
    rw [Nat.mul_assoc]
    omega
  have n0 : 0 < 6 * n * n := by
    have p1 : 0 < n * n := Nat.mul_pos (by omega) (by omega)
    rw [Nat.mul_assoc]
    omega
  have FT := fun (q : Bool) (hq : q = true ↔ (lb = 6 * n * n ∧ lw = 6 * n * n ∧ lt = 6 * n * n ∧ ls = 12 * n * n)) (v : World) (a : Ab w v) => fits19_at gb pb pw pt ps lb cb lw cw lt ct ls cs sky st q v (g.to a) hq
  by_cases hf : lb = 6 * n * n ∧ lw = 6 * n * n ∧ lt = 6 * n * n ∧ ls = 12 * n * n
  · have ft := FT true ⟨fun _ => hf, fun _ => rfl⟩
    obtain ⟨rfl, rfl, rfl, h4⟩ := hf
    by_cases h1 : okV (6 * n * n) W
    · by_cases h2 : okV (6 * n * n) T
      · have gd : good19 n (6 * n * n) (6 * n * n) (6 * n * n) ls W T := ⟨⟨rfl, rfl, rfl, h4⟩, h1, h2⟩
        refine ⟨fun _ => ?_, fun q => absurd gd q⟩
        exact run_go gb (6 * n * n) pb cb pw cw pt ct ps ls cs sky st W T (dnR n B) (shR n) (arC n) (ordL (kB B) (6 * n * n)) w nb n0 ft (fun v a => canbe_yes pw _ cw W v nb (iw.below a) h1) (fun v a => canbe_yes pt _ ct T v nb (it.below a) h2)
          (fun v a => clone19 pw _ cw W v n0 (by omega) (iw.below a)) (fun v a => clone19 pt _ ct T v n0 (by omega) (it.below a))
          (fun v a => (orderC pb _ cb B v (by omega) (ib.below a)).mono fun e w' h => by
            obtain ⟨u, rfl, b, o⟩ := h
            exact ⟨u, rfl, b, OT.ofN o⟩)
          (fun v c a hc => (downC n gb pb _ cb B c v hn (g.to a) (ib.below a) (by unfold Sh.W64; omega)).mono fun e w' h => ⟨by rw [h.1, if_pos ⟨rfl, by omega, by omega⟩, Int.toNat_natCast], h.2⟩)
          (fun v c a hc => gArea_ok hn hc (g.to a))
          (fun v c x a hc h0 hx => runs19_at x (arC n c) v (by omega) (arC_in n c).2)
          PC
          (fun c hc => by
            by_cases q : dnR n B c < 0
            · have := (dnI_no q).1
              unfold dnR
              omega
            · omega)
          (okD_R hn.1) (fun c hc => ordL_mem.1 hc) (ordL_len _ _) ⟨h1, h2⟩
      · refine ⟨fun q => absurd q.2.2 h2, fun _ => ?_⟩
        exact run_no2 gb pb _ cb pw _ cw pt _ ct ps ls cs sky st w ft (fun v a => canbe_yes pw _ cw W v nb (iw.below a) h1) (fun v a => canbe_no pt _ ct T v nb (it.below a) h2)
    · refine ⟨fun q => absurd q.2.1 h1, fun _ => ?_⟩
      exact run_no1 gb pb _ cb pw _ cw pt _ ct ps ls cs sky st w ft (fun v a => canbe_no pw _ cw W v nb (iw.below a) h1)
  · refine ⟨fun q => absurd q.1 hf, fun _ => ?_⟩
    exact run_no0 gb pb lb cb pw lw cw pt lt ct ps ls cs sky st w (FT false ⟨fun q => absurd q (by decide), fun q => absurd q hf⟩)
end Rv
end Go.Proofs.YtkckcohemalhiaaGreatDoor

namespace Go.Proofs.YtkckcohemalhiaaGreatDoor
namespace Rv
/-- WHAT Run ANSWERS -/
theorem runC : RunC := runC_of Sh.partC
end Rv
end Go.Proofs.YtkckcohemalhiaaGreatDoor
