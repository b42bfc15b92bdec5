/-
  Some of the texts of this proof, one behind the other.
-/
import Derived.Deep.RegionWith
import Derived.ProofKit
import Derived.OpenShut
import Derived.WalkLawsBesides
import Derived.Stop.Joined
import Derived.Carry
import Derived.Lib.SmallJoins
import Derived.Deep.SlicePairs
import Derived.Deep.Slices
import Derived.Lib.SliceRun
import Derived.Test.YtcmpiohiganliaaGreatDoorSb12
namespace Go.Proofs.YtcmpiohiganliaaGreatDoor
open Go.RowKit Tf Cu Go.Deep
attribute [local go_sem] run_bits run_from raw_feq raw_fne raw_flt raw_fgt run_neg run_store_float
namespace Ss
/-- a sea in a box -/
def SeaP (g : Nat) (p1 : Option Addr) (c1 : Nat) (p2 : Option Addr) (c2 : Nat) (p3 : Option Addr) (c3 : Nat) (p4 : Option Addr) (c4 : Nat) (n1 n2 n3 n4 : Nat) (A : Nat → Nat) (B C : Nat → Int) (D : Nat → Nat) (sk st : Int) (v : World) : Prop := v.heap[g]? = some (.cells #[.slice p1 n1 c1, .slice p2 n2 c2, .slice p3 n3 c3, .slice p4 n4 c4, .int .i64 sk, .int .i64 st] 25) ∧ IsFl v p1 n1 A ∧ Sh.IsI v p2 n2 B ∧ Sh.IsI v p3 n3 C ∧ IsFl v p4 n4 D
theorem sea_put {U z : World} {g : Nat} {vv : Value} {n1 n2 n3 n4 : Nat} {A : Nat → Nat} {B C : Nat → Int} {D : Nat → Nat} {sk st : Int} (q : U.heap[g]? = some (.cells #[.slice none 0 0, .slice none 0 0, .slice none 0 0, .slice none 0 0, .int .i64 0, .int .i64 0] 25)) (b : Ab U z) (os : OwnS U.heap.size vv n1 n2 n3 n4 A B C D sk st z) (hb : Bnd n1 n2 n3 n4 A B C D) :
    ∃ p1 c1 p2 c2 p3 c3 p4 c4, vv = .agg #[.slice p1 n1 c1, .slice p2 n2 c2, .slice p3 n3 c3, .slice p4 n4 c4, .int .i64 sk, .int .i64 st] ∧ z.heap[g]? = some (.cells #[.slice none 0 0, .slice none 0 0, .slice none 0 0, .slice none 0 0, .int .i64 0, .int .i64 0] 25) ∧ SeaP g p1 c1 p2 c2 p3 c3 p4 c4 n1 n2 n3 n4 A B C D sk st ((((((z.setCell ⟨g, 0, none⟩ (.slice p1 n1 c1)).setCell ⟨g, 1, none⟩ (.slice p2 n2 c2)).setCell ⟨g, 2, none⟩ (.slice p3 n3 c3)).setCell ⟨g, 3, none⟩ (.slice p4 n4 c4)).setCell ⟨g, 4, none⟩ (.int .i64 sk)).setCell ⟨g, 5, none⟩ (.int .i64 st)) := by
  obtain ⟨p1, c1, p2, c2, p3, c3, p4, c4, e, ⟨i1, i2, i3, i4⟩, ⟨o1, o2, o3, o4⟩, dj⟩ := own_k20 os hb.1 hb.2.1 hb.2.2.1 hb.2.2.2
  have lt := Rv.lt_of_get q
  have ne : ∀ (t : TypeId) (p : Option Addr) (n c : Nat) (l : List Value), OV t U.heap.size (.slice p n c) l z → ∀ b o, p = some ⟨b, o, none⟩ → b ≠ g := fun t p n c l h b o e => by
    subst e
    have := (h.blk (k := b) rfl).1
    omega
  have fl : ∀ (p : Option Addr) (n c : Nat) (f : Nat → Nat) (l : List Value), OV 44 U.heap.size (.slice p n c) l z → IsFl z p n f → IsFl ((((((z.setCell ⟨g, 0, none⟩ (.slice p1 n1 c1)).setCell ⟨g, 1, none⟩ (.slice p2 n2 c2)).setCell ⟨g, 2, none⟩ (.slice p3 n3 c3)).setCell ⟨g, 3, none⟩ (.slice p4 n4 c4)).setCell ⟨g, 4, none⟩ (.int .i64 sk)).setCell ⟨g, 5, none⟩ (.int .i64 st)) p n f := fun p n c f l o i => isFl_ne _ (isFl_ne _ (isFl_ne _ (isFl_ne _ (isFl_ne _ (isFl_ne _ i (ne _ _ _ _ _ o)) (ne _ _ _ _ _ o)) (ne _ _ _ _ _ o)) (ne _ _ _ _ _ o)) (ne _ _ _ _ _ o)) (ne _ _ _ _ _ o)
  have ii : ∀ (p : Option Addr) (n c : Nat) (f : Nat → Int) (l : List Value), OV 2 U.heap.size (.slice p n c) l z → Sh.IsI z p n f → Sh.IsI ((((((z.setCell ⟨g, 0, none⟩ (.slice p1 n1 c1)).setCell ⟨g, 1, none⟩ (.slice p2 n2 c2)).setCell ⟨g, 2, none⟩ (.slice p3 n3 c3)).setCell ⟨g, 3, none⟩ (.slice p4 n4 c4)).setCell ⟨g, 4, none⟩ (.int .i64 sk)).setCell ⟨g, 5, none⟩ (.int .i64 st)) p n f := fun p n c f l o i => isI_ne _ (isI_ne _ (isI_ne _ (isI_ne _ (isI_ne _ (isI_ne _ i (ne _ _ _ _ _ o)) (ne _ _ _ _ _ o)) (ne _ _ _ _ _ o)) (ne _ _ _ _ _ o)) (ne _ _ _ _ _ o)) (ne _ _ _ _ _ o)
  exact ⟨p1, c1, p2, c2, p3, c3, p4, c4, e, b.heap q, row6 (b.heap q), fl _ _ _ _ _ o1 i1, ii _ _ _ _ _ o2 i2, ii _ _ _ _ _ o3 i3, fl _ _ _ _ _ o4 i4⟩
set_option maxRecDepth 100000 in
set_option maxHeartbeats 16000000 in
theorem sgroup_w (side : Int) (pb : Option Addr) (lb cb : Nat) (pw : Option Addr) (lw cw : Nat) (pt : Option Addr) (lt ct : Nat) (ps : Option Addr) (ls cs : Nat) (sky st : Int) (one two : Int) (w : World) (LV : Hid (∀ v, Ab w v → Calls Tryz.prog 5 #[] v fun e w' => e = .returned (.bool true) ∧ Below v.heap.size v w'))
    (WA : Hid (∀ v, Calls Tryz.prog 6 #[.agg #[.slice pb lb cb, .slice pw lw cw, .slice pt lt ct, .slice ps ls cs, .int .i64 sky, .int .i64 st]] v fun e w' => e = .returned (.bool true) ∧ Below v.heap.size v w')) :
    Calls Tryz.prog 3 #[.int .i64 side, .agg #[.slice pb lb cb, .slice pw lw cw, .slice pt lt ct, .slice ps ls cs, .int .i64 sky, .int .i64 st], .int .i64 one, .int .i64 two] w fun e w' => e = .returned (.bool true) ∧ Below w.heap.size w w' := by
  have A0 : Hid (Ab w (w.alloc (.cells #[.slice pb lb cb, .slice pw lw cw, .slice pt lt ct, .slice ps ls cs, .int .i64 sky, .int .i64 st] 25))) := bl1 _ _
  have R0 : Hid ((w.alloc (.cells #[.slice pb lb cb, .slice pw lw cw, .slice pt lt ct, .slice ps ls cs, .int .i64 sky, .int .i64 st] 25)).heap[w.heap.size]? = some (.cells #[.slice pb lb cb, .slice pw lw cw, .slice pt lt ct, .slice ps ls cs, .int .i64 sky, .int .i64 st] 25)) := heap_alloc_new _ _
  go_enter Tryz.func3, Tryz.ntmps3
  go_upto_region 1 with fail
  generalize hW : World.alloc w _ = V0 at *
  obtain ⟨g0, hga⟩ : ∃ g, w.heap.size = g := ⟨_, rfl⟩
  rw [hga] at R0 ⊢
  clear hga hW
  go_wp2_with fail
  refine (LV.out _ A0.out).mono ?_
  rintro e9 v1 ⟨rfl, b1⟩
  have A1 : Hid (Ab w v1) := A0.out.trans b1
  have R1 := hid (Ab.heap b1 R0.out)
  clear b1 A0 R0  
  have x0 := cell_of_row _ _ 0 _ _ _ R1.out
  have x1 := cell_of_row _ _ 1 _ _ _ R1.out
  have x2 := cell_of_row _ _ 2 _ _ _ R1.out
  have x3 := cell_of_row _ _ 3 _ _ _ R1.out
  have x4 := cell_of_row _ _ 4 _ _ _ R1.out
  have x5 := cell_of_row _ _ 5 _ _ _ R1.out
  go_wp2_with fail
  refine (WA.out _).mono ?_
  rintro e9 v2 ⟨rfl, b2⟩
  have A2 : Hid (Ab w v2) := A1.out.trans b2
  have R2 := hid (Ab.heap b2 R1.out)
  clear b2 A1 R1  x0 x1 x2 x3 x4 x5
  go_wp2
  go_ret
  exact ⟨rfl, A2.out⟩
set_option maxRecDepth 100000 in
set_option maxHeartbeats 16000000 in
theorem sgroup_bad (side : Int) (pb : Option Addr) (lb cb : Nat) (pw : Option Addr) (lw cw : Nat) (pt : Option Addr) (lt ct : Nat) (ps : Option Addr) (ls cs : Nat) (sky st : Int) (one two y1 y2 : Int) (t u : Nat) (at' ce : Int) (b0 : Bool) (w : World) (LV : Hid (∀ v, Ab w v → Calls Tryz.prog 5 #[] v fun e w' => e = .returned (.bool true) ∧ Below v.heap.size v w'))
    (WA : Hid (∀ v, Calls Tryz.prog 6 #[.agg #[.slice pb lb cb, .slice pw lw cw, .slice pt lt ct, .slice ps ls cs, .int .i64 sky, .int .i64 st]] v fun e w' => e = .returned (.bool false) ∧ Below v.heap.size v w'))
    (ew1 : IntKind.u64.wrap one = y1) (_y01 : 0 ≤ y1 ∧ y1 < 18446744073709551616) (et1 : y1.tmod 24 = t) (lti : (t : Int) < 24) (ew2 : IntKind.u64.wrap two = y2) (_y02 : 0 ≤ y2 ∧ y2 < 18446744073709551616) (et2 : y2.tmod 24 = u) (lui : (u : Int) < 24)
    (T1 : Hid (∀ v, Ab w v → Calls Tryz.prog 7 #[.int .i64 side, .agg #[.slice pb lb cb, .slice pw lw cw, .slice pt lt ct, .slice ps ls cs, .int .i64 sky, .int .i64 st], .int .i64 (t : Nat)] v fun e w' => e = .returned (.tuple #[.agg #[.slice none 0 0, .slice none 0 0, .slice none 0 0, .slice none 0 0, .int .i64 0, .int .i64 0], .int .i64 ce]) ∧ Below v.heap.size v w'))
    (C1 : Hid (∀ v, Ab w v → Calls Tryz.prog 8 #[.int .i64 side, .agg #[.slice pb lb cb, .slice pw lw cw, .slice pt lt ct, .slice ps ls cs, .int .i64 sky, .int .i64 st]] v fun e w' => e = .returned (.tuple #[.int .i64 at', .int .i64 ce]) ∧ Below v.heap.size v w'))
    (n1 : (ce != 0) = true) (_n2 : (ce == 0) = false) (n3 : (at' == 0) = b0) :
    Calls Tryz.prog 3 #[.int .i64 side, .agg #[.slice pb lb cb, .slice pw lw cw, .slice pt lt ct, .slice ps ls cs, .int .i64 sky, .int .i64 st], .int .i64 one, .int .i64 two] w fun e w' => e = .returned (.bool true) ∧ Below w.heap.size w w' := by
  have n4 : (ce == ce) = true := by simp
  cases b0
  all_goals
    have A0 : Hid (Ab w (w.alloc (.cells #[.slice pb lb cb, .slice pw lw cw, .slice pt lt ct, .slice ps ls cs, .int .i64 sky, .int .i64 st] 25))) := bl1 _ _
    have R0 : Hid ((w.alloc (.cells #[.slice pb lb cb, .slice pw lw cw, .slice pt lt ct, .slice ps ls cs, .int .i64 sky, .int .i64 st] 25)).heap[w.heap.size]? = some (.cells #[.slice pb lb cb, .slice pw lw cw, .slice pt lt ct, .slice ps ls cs, .int .i64 sky, .int .i64 st] 25)) := heap_alloc_new _ _
    go_enter Tryz.func3, Tryz.ntmps3
    go_upto_region 1 with fail
    generalize hW : World.alloc w _ = V0 at *
    obtain ⟨g0, hga⟩ : ∃ g, w.heap.size = g := ⟨_, rfl⟩
    rw [hga] at R0 ⊢
    clear hga hW
    go_wp2_with fail
    refine (LV.out _ A0.out).mono ?_
    rintro e9 v1 ⟨rfl, b1⟩
    have A1 : Hid (Ab w v1) := A0.out.trans b1
    have R1 := hid (Ab.heap b1 R0.out)
    clear b1 A0 R0  
    have x0 := cell_of_row _ _ 0 _ _ _ R1.out
    have x1 := cell_of_row _ _ 1 _ _ _ R1.out
    have x2 := cell_of_row _ _ 2 _ _ _ R1.out
    have x3 := cell_of_row _ _ 3 _ _ _ R1.out
    have x4 := cell_of_row _ _ 4 _ _ _ R1.out
    have x5 := cell_of_row _ _ 5 _ _ _ R1.out
    go_wp2_with fail
    refine (WA.out _).mono ?_
    rintro e9 v2 ⟨rfl, b2⟩
    have A2 : Hid (Ab w v2) := A1.out.trans b2
    have R2 := hid (Ab.heap b2 R1.out)
    clear b2 A1 R1  x0 x1 x2 x3 x4 x5
    have x0 := cell_of_row _ _ 0 _ _ _ R2.out
    have x1 := cell_of_row _ _ 1 _ _ _ R2.out
    have x2 := cell_of_row _ _ 2 _ _ _ R2.out
    have x3 := cell_of_row _ _ 3 _ _ _ R2.out
    have x4 := cell_of_row _ _ 4 _ _ _ R2.out
    have x5 := cell_of_row _ _ 5 _ _ _ R2.out
    go_wp2_with fail
    refine (T1.out _ A2.out).mono ?_
    rintro e9 v3 ⟨rfl, b3⟩
    have A3 : Hid (Ab w v3) := A2.out.trans b3
    have R3 := hid (Ab.heap b3 R2.out)
    have BB : Hid (Ab v3 (v3.alloc (.cells #[.slice none 0 0, .slice none 0 0, .slice none 0 0, .slice none 0 0, .int .i64 0, .int .i64 0] 25))) := bl1 _ _
    clear b3 A2 R2 x0 x1 x2 x3 x4 x5
    go_upto_region 7 with fail
    generalize hW : World.alloc v3 _ = V3 at *
    clear hW
    have A3' : Hid (Ab w V3) := A3.out.trans BB.out
    have R3' := hid (Ab.heap BB.out R3.out)
    clear A3 R3 BB
    have x0 := cell_of_row _ _ 0 _ _ _ R3'.out
    have x1 := cell_of_row _ _ 1 _ _ _ R3'.out
    have x2 := cell_of_row _ _ 2 _ _ _ R3'.out
    have x3 := cell_of_row _ _ 3 _ _ _ R3'.out
    have x4 := cell_of_row _ _ 4 _ _ _ R3'.out
    have x5 := cell_of_row _ _ 5 _ _ _ R3'.out
    go_wp2_with fail
    refine (C1.out _ (A3'.out)).mono ?_
    rintro e9 v4 ⟨rfl, b4⟩
    have A4 : Hid (Ab w v4) := A3'.out.trans b4
    have R4 := hid (Ab.heap b4 R3'.out)
    clear b4 A3' R3'  
    go_wp2
    go_ret
    exact ⟨rfl, A4.out⟩
set_option maxRecDepth 100000 in
set_option maxHeartbeats 128000000 in
theorem sgroup_go (side : Int) (pb : Option Addr) (lb cb : Nat) (_B : Nat → Nat) (pw : Option Addr) (lw cw : Nat) (_W : Nat → Int) (pt : Option Addr) (lt ct : Nat) (_T : Nat → Int) (ps : Option Addr) (ls cs : Nat) (_S : Nat → Nat) (sky st : Int) (one two y1 y2 : Int) (t u : Nat) (k : Nat) (F1 : Nat → Nat) (F2 F3 : Nat → Int) (F4 : Nat → Nat) (G1 : Nat → Nat) (G2 G3 : Nat → Int) (G4 : Nat → Nat) (H1 : Nat → Nat) (H2 H3 : Nat → Int) (H4 : Nat → Nat) (w : World) (LV : Hid (∀ v, Ab w v → Calls Tryz.prog 5 #[] v fun e w' => e = .returned (.bool true) ∧ Below v.heap.size v w'))
    (WA : Hid (∀ v, Calls Tryz.prog 6 #[.agg #[.slice pb lb cb, .slice pw lw cw, .slice pt lt ct, .slice ps ls cs, .int .i64 sky, .int .i64 st]] v fun e w' => e = .returned (.bool false) ∧ Below v.heap.size v w'))
    (ew1 : IntKind.u64.wrap one = y1) (_y01 : 0 ≤ y1 ∧ y1 < 18446744073709551616) (et1 : y1.tmod 24 = t) (lti : (t : Int) < 24) (ew2 : IntKind.u64.wrap two = y2) (_y02 : 0 ≤ y2 ∧ y2 < 18446744073709551616) (et2 : y2.tmod 24 = u) (lui : (u : Int) < 24)
    (T1 : Hid (∀ v, Ab w v → Calls Tryz.prog 7 #[.int .i64 side, .agg #[.slice pb lb cb, .slice pw lw cw, .slice pt lt ct, .slice ps ls cs, .int .i64 sky, .int .i64 st], .int .i64 (t : Nat)] v fun e w' => ∃ vv, e = .returned (.tuple #[vv, .int .i64 0]) ∧ Below v.heap.size v w' ∧ OwnS v.heap.size vv lb lw lt ls F1 F2 F3 F4 sky st w'))
    (T2 : Hid (∀ v p1 c1 p2 c2 p3 c3 p4 c4, Ab w v → IsFl v p1 lb F1 → Sh.IsI v p2 lw F2 → Sh.IsI v p3 lt F3 → IsFl v p4 ls F4 → Calls Tryz.prog 7 #[.int .i64 side, .agg #[.slice p1 lb c1, .slice p2 lw c2, .slice p3 lt c3, .slice p4 ls c4, .int .i64 sky, .int .i64 st], .int .i64 (u : Nat)] v fun e w' => ∃ vv, e = .returned (.tuple #[vv, .int .i64 0]) ∧ Below v.heap.size v w' ∧ OwnS v.heap.size vv lb lw lt ls G1 G2 G3 G4 sky st w'))
    (T3 : Hid (∀ v, Ab w v → Calls Tryz.prog 7 #[.int .i64 side, .agg #[.slice pb lb cb, .slice pw lw cw, .slice pt lt ct, .slice ps ls cs, .int .i64 sky, .int .i64 st], .int .i64 (k : Nat)] v fun e w' => ∃ vv, e = .returned (.tuple #[vv, .int .i64 0]) ∧ Below v.heap.size v w' ∧ OwnS v.heap.size vv lb lw lt ls H1 H2 H3 H4 sky st w'))
    (AF : Hid (∀ v, Ab w v → Calls Tryz.prog 9 #[.int .i64 (u : Nat), .int .i64 (t : Nat)] v fun e w' => e = .returned (.int .i64 (k : Nat)) ∧ Below v.heap.size v w'))
    (SC : Hid SameC) (EQ : Hid (eqS lb lw lt ls G1 G2 G3 G4 sky st lb lw lt ls H1 H2 H3 H4 sky st = true)) (HL : Hid (lb ≤ 131072 ∧ lw ≤ 131072 ∧ lt ≤ 131072 ∧ ls ≤ 131072)) (B1 : Hid (Bnd lb lw lt ls F1 F2 F3 F4)) (B2 : Hid (Bnd lb lw lt ls G1 G2 G3 G4)) (B3 : Hid (Bnd lb lw lt ls H1 H2 H3 H4)) :
    Calls Tryz.prog 3 #[.int .i64 side, .agg #[.slice pb lb cb, .slice pw lw cw, .slice pt lt ct, .slice ps ls cs, .int .i64 sky, .int .i64 st], .int .i64 one, .int .i64 two] w fun e w' => e = .returned (.bool true) ∧ Below w.heap.size w w' := by
  have A0 : Hid (Ab w (w.alloc (.cells #[.slice pb lb cb, .slice pw lw cw, .slice pt lt ct, .slice ps ls cs, .int .i64 sky, .int .i64 st] 25))) := bl1 _ _
  have R0 : Hid ((w.alloc (.cells #[.slice pb lb cb, .slice pw lw cw, .slice pt lt ct, .slice ps ls cs, .int .i64 sky, .int .i64 st] 25)).heap[w.heap.size]? = some (.cells #[.slice pb lb cb, .slice pw lw cw, .slice pt lt ct, .slice ps ls cs, .int .i64 sky, .int .i64 st] 25)) := heap_alloc_new _ _
  go_enter Tryz.func3, Tryz.ntmps3
  go_upto_region 1 with fail
  generalize hW : World.alloc w _ = V0 at *
  obtain ⟨g0, hga⟩ : ∃ g, w.heap.size = g := ⟨_, rfl⟩
  rw [hga] at R0 ⊢
  clear hga hW
  go_wp2_with fail
  refine (LV.out _ A0.out).mono ?_
  rintro e9 v1 ⟨rfl, b1⟩
  have A1 : Hid (Ab w v1) := A0.out.trans b1
  have R1 := hid (Ab.heap b1 R0.out)
  clear b1 A0 R0  
  have x0 := cell_of_row _ _ 0 _ _ _ R1.out
  have x1 := cell_of_row _ _ 1 _ _ _ R1.out
  have x2 := cell_of_row _ _ 2 _ _ _ R1.out
  have x3 := cell_of_row _ _ 3 _ _ _ R1.out
  have x4 := cell_of_row _ _ 4 _ _ _ R1.out
  have x5 := cell_of_row _ _ 5 _ _ _ R1.out
  go_wp2_with fail
  refine (WA.out _).mono ?_
  rintro e9 v2 ⟨rfl, b2⟩
  have A2 : Hid (Ab w v2) := A1.out.trans b2
  have R2 := hid (Ab.heap b2 R1.out)
  clear b2 A1 R1  x0 x1 x2 x3 x4 x5
  have x0 := cell_of_row _ _ 0 _ _ _ R2.out
  have x1 := cell_of_row _ _ 1 _ _ _ R2.out
  have x2 := cell_of_row _ _ 2 _ _ _ R2.out
  have x3 := cell_of_row _ _ 3 _ _ _ R2.out
  have x4 := cell_of_row _ _ 4 _ _ _ R2.out
  have x5 := cell_of_row _ _ 5 _ _ _ R2.out
  go_wp2_with fail
  refine (T1.out v2 A2.out).mono ?_
  rintro e9 u3 ⟨vv, rfl, b3, os⟩
  obtain ⟨ap1, ac1, ap2, ac2, ap3, ac3, ap4, ac4, rfl, sn⟩ := sea_new os B1.out
  have La : Hid (v2.heap.size ≤ u3.heap.size) := Ab.size (show Ab v2 u3 from b3)
  have BB : Hid (Ab v2 (u3.alloc (.cells #[.slice ap1 lb ac1, .slice ap2 lw ac2, .slice ap3 lt ac3, .slice ap4 ls ac4, .int .i64 sky, .int .i64 st] 25))) := (show Ab v2 u3 from b3).trans (bl1 _ _)
  have Sa3 := hid sn
  have Y3 : Hid (u3.heap.size + 1 ≤ (u3.alloc (.cells #[.slice ap1 lb ac1, .slice ap2 lw ac2, .slice ap3 lt ac3, .slice ap4 ls ac4, .int .i64 sky, .int .i64 st] 25)).heap.size) := by show _ ≤ (u3.heap.push _).size; simp
  clear os sn b3 x0 x1 x2 x3 x4 x5
  go_upto_region 7 with fail
  generalize hW : World.alloc u3 _ = v3 at *
  obtain ⟨ga, hg⟩ : ∃ g, u3.heap.size = g := ⟨_, rfl⟩
  rw [hg] at Sa3 La Y3 ⊢
  clear hg hW
  have A3 : Hid (Ab w v3) := A2.out.trans BB.out
  have R3 := hid (Ab.heap BB.out R2.out)
  have Wa : Hid (w.heap.size ≤ v2.heap.size) := Ab.size A2.out
  obtain ⟨Ma, hM⟩ : ∃ m, v2.heap.size = m := ⟨_, rfl⟩
  rw [hM] at Sa3 La Wa
  clear hM
  clear BB A2 R2 
  have x0 := cell_of_row _ _ 0 _ _ _ Sa3.out.1
  have x1 := cell_of_row _ _ 1 _ _ _ Sa3.out.1
  have x2 := cell_of_row _ _ 2 _ _ _ Sa3.out.1
  have x3 := cell_of_row _ _ 3 _ _ _ Sa3.out.1
  have x4 := cell_of_row _ _ 4 _ _ _ Sa3.out.1
  have x5 := cell_of_row _ _ 5 _ _ _ Sa3.out.1
  go_wp2_with fail
  refine (T2.out v3 ap1 ac1 ap2 ac2 ap3 ac3 ap4 ac4 A3.out Sa3.out.2.1.1 Sa3.out.2.1.2.1 Sa3.out.2.1.2.2.1 Sa3.out.2.1.2.2.2).mono ?_
  rintro e9 u4 ⟨vv, rfl, b4, os⟩
  obtain ⟨bp1, bc1, bp2, bc2, bp3, bc3, bp4, bc4, rfl, sn⟩ := sea_new os B2.out
  have Lb : Hid (v3.heap.size ≤ u4.heap.size) := Ab.size (show Ab v3 u4 from b4)
  have BB : Hid (Ab v3 (u4.alloc (.cells #[.slice bp1 lb bc1, .slice bp2 lw bc2, .slice bp3 lt bc3, .slice bp4 ls bc4, .int .i64 sky, .int .i64 st] 25))) := (show Ab v3 u4 from b4).trans (bl1 _ _)
  have Sb4 := hid sn
  have Y4 : Hid (u4.heap.size + 1 ≤ (u4.alloc (.cells #[.slice bp1 lb bc1, .slice bp2 lw bc2, .slice bp3 lt bc3, .slice bp4 ls bc4, .int .i64 sky, .int .i64 st] 25)).heap.size) := by show _ ≤ (u4.heap.push _).size; simp
  clear os sn b4 x0 x1 x2 x3 x4 x5
  go_upto_region 11 with fail
  generalize hW : World.alloc u4 _ = v4 at *
  obtain ⟨gb, hg⟩ : ∃ g, u4.heap.size = g := ⟨_, rfl⟩
  rw [hg] at Sb4 Lb Y4 ⊢
  clear hg hW
  have A4 : Hid (Ab w v4) := A3.out.trans BB.out
  have R4 := hid (Ab.heap BB.out R3.out)
  have Sa4 := hid (SeaIn.to Sa3.out BB.out La.out)
  have Ob : Hid (ga + 1 ≤ v3.heap.size) := Y3.out
  have Wb : Hid (w.heap.size ≤ v3.heap.size) := Ab.size A3.out
  obtain ⟨Mb, hM⟩ : ∃ m, v3.heap.size = m := ⟨_, rfl⟩
  rw [hM] at Sb4 Lb Wb Ob
  clear hM
  clear BB A3 R3 Sa3 Y3
  go_cut [17, 18] from 68 to 76 (fun s17 s18 wx => ∃ gz cp1 cc1 cp2 cc2 cp3 cc3 cp4 cc4, s17 = .pointer (some ⟨gz, 0, none⟩) ∧ s18 = .int .i64 0 ∧ Ab v4 wx ∧ SeaP gz cp1 cc1 cp2 cc2 cp3 cc3 cp4 cc4 lb lw lt ls H1 H2 H3 H4 sky st wx)
  case first =>
    have aw : Ab w v4 := A4.out
    have av : Ab v4 v4 := Ab.refl _
    have gl : g0 < v4.heap.size := Rv.lt_of_get R4.out
    have CE : Hid (∀ z, Ab v4 z → z.heap[g0]? = some (.cells #[.slice pb lb cb, .slice pw lw cw, .slice pt lt ct, .slice ps ls cs, .int .i64 sky, .int .i64 st] 25)) := fun z h => Ab.heap h R4.out
    have x0 := cell_of_row _ _ 0 _ _ _ R4.out
    have x1 := cell_of_row _ _ 1 _ _ _ R4.out
    have x2 := cell_of_row _ _ 2 _ _ _ R4.out
    have x3 := cell_of_row _ _ 3 _ _ _ R4.out
    have x4 := cell_of_row _ _ 4 _ _ _ R4.out
    have x5 := cell_of_row _ _ 5 _ _ _ R4.out
    go_region_with (first
      | (go_at_call 9; refine (AF.out _ (show Ab w _ by with_reducible (repeat (first | assumption | apply Ab.drew | apply Ab.alloc)))).mono ?_; rintro e9 z1 ⟨rfl, b1⟩; have az1 : Ab v4 z1 := (show Ab v4 _ by with_reducible (repeat (first | assumption | apply Ab.drew | apply Ab.alloc))).trans b1; have aw1 : Ab w z1 := Ab.trans aw az1; have gl1 : g0 < z1.heap.size := Nat.lt_of_lt_of_le gl az1.size; have x0' := cell_of_row _ _ 0 _ _ _ (CE.out _ az1); have x1' := cell_of_row _ _ 1 _ _ _ (CE.out _ az1); have x2' := cell_of_row _ _ 2 _ _ _ (CE.out _ az1); have x3' := cell_of_row _ _ 3 _ _ _ (CE.out _ az1); have x4' := cell_of_row _ _ 4 _ _ _ (CE.out _ az1); have x5' := cell_of_row _ _ 5 _ _ _ (CE.out _ az1); (try (have q1 := Ab.heap b1 (heap_alloc_new _ _))))
      | (go_at_call 7; refine (T3.out _ (show Ab w _ by with_reducible (repeat (first | assumption | apply Ab.drew | apply Ab.alloc)))).mono ?_; rintro e9 z2 ⟨vv, rfl, b2, os⟩; have az2 : Ab v4 z2 := (show Ab v4 _ by with_reducible (repeat (first | assumption | apply Ab.drew | apply Ab.alloc))).trans b2; first
          | (have q0 := q1; obtain ⟨cp1, cc1, cp2, cc2, cp3, cc3, cp4, cc4, rfl, q2, FIN⟩ := sea_put q0 b2 os B3.out; have t0 := cell_of_row _ _ 0 _ _ _ q2; have f0 := free_row q2 0; have t1 := cell_of_row _ _ 1 _ _ _ q2; have f1 := free_row q2 1; have t2 := cell_of_row _ _ 2 _ _ _ q2; have f2 := free_row q2 2; have t3 := cell_of_row _ _ 3 _ _ _ q2; have f3 := free_row q2 3; have t4 := cell_of_row _ _ 4 _ _ _ q2; have f4 := free_row q2 4; have t5 := cell_of_row _ _ 5 _ _ _ q2; have f5 := free_row q2 5; skip)
          | (have q0 := Ab.heap b2 (heap_alloc_new _ _); obtain ⟨cp1, cc1, cp2, cc2, cp3, cc3, cp4, cc4, rfl, q2, FIN⟩ := sea_put (heap_alloc_new _ _) b2 os B3.out; have t0 := cell_of_row _ _ 0 _ _ _ q2; have f0 := free_row q2 0; have t1 := cell_of_row _ _ 1 _ _ _ q2; have f1 := free_row q2 1; have t2 := cell_of_row _ _ 2 _ _ _ q2; have f2 := free_row q2 2; have t3 := cell_of_row _ _ 3 _ _ _ q2; have f3 := free_row q2 3; have t4 := cell_of_row _ _ 4 _ _ _ q2; have f4 := free_row q2 4; have t5 := cell_of_row _ _ 5 _ _ _ q2; have f5 := free_row q2 5; skip)
          | (obtain ⟨cp1, cc1, cp2, cc2, cp3, cc3, cp4, cc4, rfl, FIN⟩ := sea_new os B3.out)))
    all_goals (try go_wp2_with fail)
    all_goals go_meet
    all_goals first
      | (have q9 := q1; exact ⟨_, _, _, _, _, _, _, _, _, rfl, rfl, (((((az2.setk (Nat.le_refl _) _).setk (Nat.le_refl _) _).setk (Nat.le_refl _) _).setk (Nat.le_refl _) _).setk (Nat.le_refl _) _).setk (Nat.le_refl _) _, FIN⟩)
      | (have q9 := q2; exact ⟨_, _, _, _, _, _, _, _, _, rfl, rfl, (((((az2.setk az1.size _).setk az1.size _).setk az1.size _).setk az1.size _).setk az1.size _).setk az1.size _, FIN⟩)
      | exact ⟨_, _, _, _, _, _, _, _, _, rfl, rfl, az2.alloc _, FIN.1, FIN.2.1⟩
  case rest =>
    obtain ⟨gz, cp1, cc1, cp2, cc2, cp3, cc3, cp4, cc4, rfl, rfl, ac, sp⟩ := hcut
    rename World => V9
    have A9 : Hid (Ab w V9) := A4.out.trans ac
    have Sb9 := hid (SeaIn.to Sb4.out ac Lb.out)
    have C9 := hid sp
    clear ac sp
    have x0 := cell_of_row _ _ 0 _ _ _ Sb9.out.1
    have x1 := cell_of_row _ _ 1 _ _ _ Sb9.out.1
    have x2 := cell_of_row _ _ 2 _ _ _ Sb9.out.1
    have x3 := cell_of_row _ _ 3 _ _ _ Sb9.out.1
    have x4 := cell_of_row _ _ 4 _ _ _ Sb9.out.1
    have x5 := cell_of_row _ _ 5 _ _ _ Sb9.out.1
    have y0 := cell_of_row _ _ 0 _ _ _ C9.out.1
    have y1 := cell_of_row _ _ 1 _ _ _ C9.out.1
    have y2 := cell_of_row _ _ 2 _ _ _ C9.out.1
    have y3 := cell_of_row _ _ 3 _ _ _ C9.out.1
    have y4 := cell_of_row _ _ 4 _ _ _ C9.out.1
    have y5 := cell_of_row _ _ 5 _ _ _ C9.out.1
    have E1 := hid (SC.out bp1 lb bc1 G1 bp2 lw bc2 G2 bp3 lt bc3 G3 bp4 ls bc4 G4 sky st cp1 lb cc1 H1 cp2 lw cc2 H2 cp3 lt cc3 H3 cp4 ls cc4 H4 sky st V9 HL.out HL.out Sb9.out.2.1.1 Sb9.out.2.1.2.1 Sb9.out.2.1.2.2.1 Sb9.out.2.1.2.2.2 C9.out.2.1 C9.out.2.2.1 C9.out.2.2.2.1 C9.out.2.2.2.2)
    rw [EQ.out] at E1
    go_wp2_with fail
    refine E1.out.mono ?_
    rintro e9 v10 ⟨rfl, b10⟩
    have A10 : Hid (Ab w v10) := A9.out.trans b10
    clear b10 E1
    go_wp2
    go_ret
    exact ⟨rfl, A10.out⟩
/-- ONE TURN AND THEN ANOTHER IS BOTH AT ONCE -/
theorem sgroup_at (PC : PlanC) (CC : CheckC) (SC : SameC) (YC : CopyC) (TC : TurnedC) (LC : LakeC) (side : Int) {pb : Option Addr} {lb cb : Nat} {B : Nat → Nat} {pw : Option Addr} {lw cw : Nat} {W : Nat → Int} {pt : Option Addr} {lt ct : Nat} {T : Nat → Int} {ps : Option Addr} {ls cs : Nat} {S : Nat → Nat} {sky st : Int} (one two : Int) (w : World) (hF : Fr w) (h1 : Sh.W64 side) (h2 : Sh.W64 sky) (h3 : Sh.W64 st) (hl : lb ≤ 281474976710656 ∧ lw ≤ 281474976710656 ∧ lt ≤ 281474976710656 ∧ ls ≤ 281474976710656) (i1 : IsFl w pb lb B) (i2 : Sh.IsI w pw lw W) (i3 : Sh.IsI w pt lt T) (i4 : IsFl w ps ls S) :
    Calls Tryz.prog 3 #[.int .i64 side, .agg #[.slice pb lb cb, .slice pw lw cw, .slice pt lt ct, .slice ps ls cs, .int .i64 sky, .int .i64 st], .int .i64 one, .int .i64 two] w fun e w' => e = .returned (.bool true) ∧ Below w.heap.size w w' := by
  have LV : Hid (∀ v, Ab w v → Calls Tryz.prog 5 #[] v fun e w' => e = .returned (.bool true) ∧ Below v.heap.size v w') := fun v a => awake20_at PC CC SC YC TC LC v (hF.to a)
  have WA := fun v => wide20_at pb lb cb pw lw cw pt lt ct ps ls cs sky st v hl
  by_cases h : 131072 < lb + lw + lt + ls
  · rw [decide_eq_true h] at WA
    exact sgroup_w side pb lb cb pw lw cw pt lt ct ps ls cs sky st one two w LV WA
  · rw [decide_eq_false h] at WA
    have le : (lb ≤ 131072 ∧ lw ≤ 131072 ∧ lt ≤ 131072 ∧ ls ≤ 131072) := by omega
    have bm : Bnd lb lw lt ls B W T S := ⟨fun i hi => (i1 i hi).1, fun i hi => (i2 i hi).1, fun i hi => (i3 i hi).1, fun i hi => (i4 i hi).1⟩
    obtain ⟨y1, hy1⟩ : ∃ y, one % 18446744073709551616 = y := ⟨_, rfl⟩
    have y01 : 0 ≤ y1 ∧ y1 < 18446744073709551616 := by omega
    obtain ⟨t, ht⟩ : ∃ c : Nat, y1 % 24 = c := ⟨(y1 % 24).toNat, by omega⟩
    have lt24 : t < 24 := by omega
    have ew1 : IntKind.u64.wrap one = y1 := by rw [IntKind.wrap_u64, hy1]
    have et1 : y1.tmod 24 = t := by rw [Int.tmod_eq_emod_of_nonneg y01.1, ht]
    obtain ⟨y2, hy2⟩ : ∃ y, two % 18446744073709551616 = y := ⟨_, rfl⟩
    have y02 : 0 ≤ y2 ∧ y2 < 18446744073709551616 := by omega
    obtain ⟨u, hu⟩ : ∃ c : Nat, y2 % 24 = c := ⟨(y2 % 24).toNat, by omega⟩
    have lu24 : u < 24 := by omega
    have ew2 : IntKind.u64.wrap two = y2 := by rw [IntKind.wrap_u64, hy2]
    have et2 : y2.tmod 24 = u := by rw [Int.tmod_eq_emod_of_nonneg y02.1, hu]
    have w64 : ∀ k : Nat, k < 24 → Sh.W64 ((k : Nat) : Int) := fun k hk => by unfold Sh.W64; omega
    by_cases q : (chk side lb lw lt ls B W T S sky st).2 = 0
    · have lk := (aft_tab u lu24 t lt24).1
      have q1 := tuE_zero (side := side) (lb := lb) (lw := lw) (lt := lt) (ls := ls) (B := B) (W := W) (T := T) (S := S) (sky := sky) (st := st) lt24 q
      have q3 := tuE_zero (side := side) (lb := lb) (lw := lw) (lt := lt) (ls := ls) (B := B) (W := W) (T := T) (S := S) (sky := sky) (st := st) lk q
      obtain ⟨s1, s2, s3⟩ := tuE_ok q1
      have n1 := (side_sq s1).1
      have e2 : 2 * (6 * side.toNat * side.toNat) = 12 * side.toNat * side.toNat := by rw [Nat.mul_assoc, Nat.mul_assoc]; omega
      have cn : ∀ e, e < 12 * side.toNat * side.toNat → cnF (S e) := fun e he => bS_cn (bm.2.2.2 e (by omega)) (s3.2.2.2.2.1 e (by omega))
      have ok1 := okN_turn n1 lt24 (fun e he => (cn e he).1) s3
      have q2 : tuE side lb lw lt ls (tuC side.toNat ((t : Nat) : Int).toNat B) (tuC side.toNat ((t : Nat) : Int).toNat W) (tuC side.toNat ((t : Nat) : Int).toNat T) (tuS side.toNat ((t : Nat) : Int).toNat S) sky st (u : Nat) = 0 := by
        rw [Int.toNat_natCast]
        exact tuE_zero lu24 (by rw [chk_zero s1 s2 ok1])
      have b1 := bnd_turn lt24 q1 bm
      have b2 := bnd_turn lu24 q2 b1
      have b3 := bnd_turn lk q3 bm
      refine sgroup_go side pb lb cb B pw lw cw W pt lt ct T ps ls cs S sky st one two y1 y2 t u (aft u t) _ _ _ _ _ _ _ _ _ _ _ _ w LV WA ew1 y01 et1 (by omega) ew2 y02 et2 (by omega) (fun v a => (TC side pb lb cb B pw lw cw W pt lt ct T ps ls cs S sky st (t : Nat) v (hF.to a) h1 h2 h3 (w64 t lt24) le (i1.below a) (i2.below a) (i3.below a) (i4.below a)).1 q1) (fun v p1 c1 p2 c2 p3 c3 p4 c4 a k1 k2 k3 k4 => (TC side p1 lb c1 _ p2 lw c2 _ p3 lt c3 _ p4 ls c4 _ sky st (u : Nat) v (hF.to a) h1 h2 h3 (w64 u lu24) le k1 k2 k3 k4).1 q2) (fun v a => (TC side pb lb cb B pw lw cw W pt lt ct T ps ls cs S sky st (aft u t : Nat) v (hF.to a) h1 h2 h3 (w64 _ lk) le (i1.below a) (i2.below a) (i3.below a) (i4.below a)).1 q3) (fun v a => after_ok u t v lu24 lt24 (hF.to a)) SC ?_ le b1 b2 b3
      show eqS _ _ _ _ _ _ _ _ _ _ _ _ _ _ _ _ _ _ _ _ = true
      obtain ⟨rfl, rfl, rfl, rfl⟩ := s2
      unfold eqS
      simp only [Int.toNat_natCast]
      rw [eqL_yes (fun i hi => tuC_aft n1 lt24 lu24 lk B hi), eqL_yes (fun i hi => tuC_aft n1 lt24 lu24 lk W hi), eqL_yes (fun i hi => tuC_aft n1 lt24 lu24 lk T hi), eqL_yes (fun i hi => tuS_aft n1 lt24 lu24 lk cn (by omega))]
      simp
    · have q1 : tuE side lb lw lt ls B W T S sky st (t : Nat) = (chk side lb lw lt ls B W T S sky st).2 := by unfold tuE; rw [if_pos q]
      refine sgroup_bad side pb lb cb pw lw cw pt lt ct ps ls cs sky st one two y1 y2 t u (chk side lb lw lt ls B W T S sky st).1 (chk side lb lw lt ls B W T S sky st).2 _ w LV WA ew1 y01 et1 (by omega) ew2 y02 et2 (by omega) (fun v a => ?_) (fun v a => CC side pb lb cb B pw lw cw W pt lt ct T ps ls cs S sky st v h1 h2 h3 le (i1.below a) (i2.below a) (i3.below a) (i4.below a)) (by simpa using q) (by simpa using q) rfl
      have z := (TC side pb lb cb B pw lw cw W pt lt ct T ps ls cs S sky st (t : Nat) v (hF.to a) h1 h2 h3 (w64 t lt24) le (i1.below a) (i2.below a) (i3.below a) (i4.below a)).2 (by rw [q1]; exact q)
      rw [q1] at z
      exact z
end Ss
end Go.Proofs.YtcmpiohiganliaaGreatDoor

namespace Go.Proofs.YtcmpiohiganliaaGreatDoor
open Go.ChangeShapes Go.WideShapes Go.ChangeAt Go.WideMaps Go.WideElems Go.RowKit Go.Deep
namespace Sh
theorem trod_int {H : Type} {enc : TypeId × Value → H} {P : Program} {w : World} {base : Nat} {spare : Nat → Bool} {held : Bool} {t : TypeId} {fuel : Nat} {v : Value} {x : DataW H × List MemPlace} (ht : P.underlying t = some (.int .i64)) (h : DataW.trod enc P w base spare held fuel t [v] = some x) :
    ∃ b, v = .int .i64 b ∧ (-9223372036854775808 ≤ b ∧ b ≤ 9223372036854775807) := by
  obtain ⟨k, e, _, wf⟩ := DataW.trod_int ht h
  simp at e
  simp only [Lit.wf, Bool.and_eq_true, decide_eq_true_eq] at wf
  have q1 : IntKind.i64.min = -9223372036854775808 := by decide
  have q2 : IntKind.i64.max = 9223372036854775807 := by decide
  rw [q1, q2] at wf
  exact ⟨k, e, wf⟩
theorem cell_block {w : World} {a : Addr} {v : Value} (h : w.cell? a = some v) : a.block < w.heap.size := by
  by_cases c : a.block < w.heap.size
  · exact c
  · exfalso
    have : w.heap[a.block]? = none := by simp; omega
    simp [World.cell?, this] at h
theorem pick_fn {α : Type} {n : Nat} {R : Nat → α → Prop} (d : α) (h : ∀ i, i < n → ∃ x, R i x) : ∃ f : Nat → α, ∀ i, i < n → R i (f i) := by
  have : ∀ i, ∃ x, i < n → R i x := fun i => by
    by_cases c : i < n
    · obtain ⟨x, h1⟩ := h i c
      exact ⟨x, fun _ => h1⟩
    · exact ⟨d, fun h => absurd h c⟩
  exact ⟨fun i => (this i).choose, fun i hi => (this i).choose_spec hi⟩
theorem list_open {H : Type} {enc : TypeId × Value → H} {W : World} {cs : List Value} {fuel : Nat} {x : DataW H × List MemPlace}
    (hf : DataW.trod enc Tryz.prog W 0 (fun _ => true) true fuel 23 cs = some x) : ∃ a0 len cap xs, cs = [.slice a0 len cap] ∧ IsI W a0 len xs ∧ len ≤ cap ∧ cap ≤ maxLen := by
  rcases open_slice1 Tryz.underlying23 (by kernel_rfl) hf with ⟨hcs, _⟩ | ⟨a, l, c, m, n, V, D, Pl, hcs, _, hl, hm, hmm, _, hx⟩
  · exact ⟨none, 0, 0, fun _ => 0, hcs, fun k hk => by omega, Nat.le_refl _, Nat.zero_le _⟩
  · simp only [if_true] at hmm
    have each : ∀ i, i < l → ∃ x : Int, W.cell? (a.add i) = some (.int .i64 x) ∧ (-9223372036854775808 ≤ x ∧ x ≤ 9223372036854775807) := by
      intro i hi
      obtain ⟨h1, h2⟩ := hx i (by omega)
      obtain ⟨x, e, wx⟩ := trod_int Tryz.underlying2 h2
      rw [e] at h1
      exact ⟨x, h1, wx⟩
    obtain ⟨f, hf⟩ := pick_fn 0 each
    refine ⟨some a, l, c, f, hcs, fun k hk => ⟨(hf k hk).2, ?_⟩, hl, hm⟩
    have h0 := (hf k hk).1
    have z := (hf 0 (by omega)).1
    obtain ⟨b, off, spot⟩ := a
    have hspot : spot = none := by simpa [Addr.add] using World.cell?_spot z
    subst hspot
    rw [add_off] at h0
    exact ⟨b, off, rfl, cell_block h0, h0⟩
end Sh
end Go.Proofs.YtcmpiohiganliaaGreatDoor

namespace Go.Proofs.YtcmpiohiganliaaGreatDoor
open Go.RowKit Go.Deep
namespace Sh
theorem lit_w {x : Int} (h : (Lit.int .i64 x).wf = true) : -9223372036854775808 ≤ x ∧ x ≤ 9223372036854775807 := by
  simp only [Lit.wf, Bool.and_eq_true, decide_eq_true_eq] at h
  have q1 : IntKind.i64.min = -9223372036854775808 := by decide
  have q2 : IntKind.i64.max = 9223372036854775807 := by decide
  omega
end Sh
end Go.Proofs.YtcmpiohiganliaaGreatDoor

namespace Go.Proofs.YtcmpiohiganliaaGreatDoor
open Go.RowKit Tf Cu Go.Deep
attribute [local go_sem] run_bits run_from raw_feq raw_fne raw_flt raw_fgt run_neg run_store_float
namespace Ss
set_option maxRecDepth 100000 in
set_option maxHeartbeats 16000000 in
theorem sameF_at (a b : Nat) (r : Bool) (w : World) (hr : decide (a = b) = r) :
    Calls Tryz.prog 33 #[.float .f64 a, .float .f64 b] w fun e w' => e = .returned (.bool r) ∧ w' = w := by
  by_cases h : a = b
  · have d1 : ((a : Int) == (b : Int)) = true := by simp [h]
    have R : Hid (r = true) := hr.symm.trans (decide_eq_true h)
    clear hr h
    go_enter Tryz.func33, Tryz.ntmps33
    go_wp2
    go_ret
    exact ⟨by rw [R.out]; rfl, rfl⟩
  · have d1 : ((a : Int) == (b : Int)) = false := by simp; omega
    have R : Hid (r = false) := hr.symm.trans (decide_eq_false h)
    clear hr h
    go_enter Tryz.func33, Tryz.ntmps33
    go_wp2
    go_ret
    exact ⟨by rw [R.out]; rfl, rfl⟩
set_option maxRecDepth 100000 in
set_option maxHeartbeats 16000000 in
theorem sameQ_at (a b : Int) (r : Bool) (w : World) (hr : decide (a = b) = r) :
    Calls Tryz.prog 35 #[.int .i64 a, .int .i64 b] w fun e w' => e = .returned (.bool r) ∧ w' = w := by
  by_cases h : a = b
  · have d1 : (a == b) = true := by simp [h]
    have R : Hid (r = true) := hr.symm.trans (decide_eq_true h)
    clear hr h
    go_enter Tryz.func35, Tryz.ntmps35
    go_wp2
    go_ret
    exact ⟨by rw [R.out]; rfl, rfl⟩
  · have d1 : (a == b) = false := by simp; omega
    have R : Hid (r = false) := hr.symm.trans (decide_eq_false h)
    clear hr h
    go_enter Tryz.func35, Tryz.ntmps35
    go_wp2
    go_ret
    exact ⟨by rw [R.out]; rfl, rfl⟩
set_option maxRecDepth 100000 in
set_option maxHeartbeats 16000000 in
theorem within_at (x lo hi : Nat) (r : Bool) (w : World) (hr : ((fgt x lo || feq x lo) && (flt x hi || feq x hi)) = r) :
    Calls Tryz.prog 52 #[.float .f64 x, .float .f64 lo, .float .f64 hi] w fun e w' => e = .returned (.bool r) ∧ w' = w := by
  cases h1 : (fgt x lo || feq x lo) with
  | false =>
    have R : Hid (r = false) := hr.symm.trans (by rw [h1]; rfl)
    clear hr
    go_enter Tryz.func52, Tryz.ntmps52
    go_wp2
    go_ret
    exact ⟨by rw [R.out]; rfl, rfl⟩
  | true =>
    cases h2 : (flt x hi || feq x hi) with
    | false =>
      have R : Hid (r = false) := hr.symm.trans (by rw [h1, h2]; rfl)
      clear hr
      go_enter Tryz.func52, Tryz.ntmps52
      go_wp2
      go_ret
      exact ⟨by rw [R.out]; rfl, rfl⟩
    | true =>
      have R : Hid (r = true) := hr.symm.trans (by rw [h1, h2]; rfl)
      clear hr
      go_enter Tryz.func52, Tryz.ntmps52
      go_wp2
      go_ret
      exact ⟨by rw [R.out]; rfl, rfl⟩
/-- a float above another isn't a NaN; Canon leaves it but for -0 -/
theorem canon_in {x lo : Nat} (hx : x < 18446744073709551616) (hl : lo < 18446744073709551616) (h : (fgt x lo || feq x lo) = true) : decide (x = canonB x) = decide (x ≠ 9223372036854775808) := by
  have n : isN x = false := by
    rw [fgt_rk x lo hx hl, feq_rk x lo hx hl] at h
    cases q : isN x with
    | false => rfl
    | true => rw [q] at h; simp at h
  unfold canonB
  rw [if_neg (by rw [n]; decide)]
  unfold mg
  by_cases z : x % 9223372036854775808 = 0
  · rw [if_pos z]
    by_cases e : x = 9223372036854775808
    · rw [decide_eq_false (by omega), decide_eq_false (fun q => q e)]
    · rw [decide_eq_true (by omega), decide_eq_true e]
  · rw [if_neg z, decide_eq_true rfl, decide_eq_true (by omega)]
set_option maxRecDepth 100000 in
set_option maxHeartbeats 16000000 in
theorem kept_at (x lo hi : Nat) (r : Bool) (w : World) (hx : x < 18446744073709551616) (hl : lo < 18446744073709551616) (hr : btw x lo hi = r) :
    Calls Tryz.prog 63 #[.float .f64 x, .float .f64 lo, .float .f64 hi] w fun e w' => e = .returned (.bool r) ∧ w' = w := by
  unfold btw at hr
  cases h1 : ((fgt x lo || feq x lo) && (flt x hi || feq x hi)) with
  | false =>
    have R : Hid (r = false) := hr.symm.trans (by rw [h1]; rfl)
    have CW := hid (within_at x lo hi false w h1)
    clear hr hx hl h1
    go_enter Tryz.func63, Tryz.ntmps63
    go_wp2_with fail
    refine CW.out.mono ?_
    rintro e9 v9 ⟨rfl, hv9⟩
    have hv8 := hv9.symm
    subst hv8
    go_wp2
    go_ret
    exact ⟨by rw [R.out]; rfl, rfl⟩
  | true =>
    have R : Hid (decide (x ≠ 9223372036854775808) = r) := by
      show _ = _
      rw [← hr, h1]
      rfl
    have CW := hid (within_at x lo hi true w h1)
    have h3 := canon_in hx hl ((Bool.and_eq_true _ _).mp h1).1
    have CC := hid (canon_at x _ w hx rfl)
    have CS := hid (sameF_at x (canonB x) r w (by rw [h3]; exact R.out))
    generalize canonB x = y at *
    clear hr hx hl h1 h3 R
    go_enter Tryz.func63, Tryz.ntmps63
    go_wp2_with fail
    refine CW.out.mono ?_
    rintro e9 v9 ⟨rfl, hv9⟩
    have hv8 := hv9.symm
    subst hv8
    go_wp2_with fail
    refine CC.out.mono ?_
    rintro e9 v9 ⟨rfl, hv9⟩
    have hv8 := hv9.symm
    subst hv8
    go_wp2_with fail
    refine CS.out.mono ?_
    rintro e9 v9 ⟨rfl, hv9⟩
    have hv8 := hv9.symm
    subst hv8
    go_wp2
    go_ret
    exact ⟨rfl, rfl⟩
set_option maxRecDepth 100000 in
set_option maxHeartbeats 16000000 in
theorem beyond_at (p : Option Addr) (N c : Nat) (f : Nat → Nat) (m nm : Nat) (q : Nat → Bool) (w : World) (hm : Op.negFloat .f64 m = nm) (hn : nm < 18446744073709551616) (hN : N ≤ 281474976710656) (hf : IsFl w p N f) (hq : ∀ i, i < N → q i = !btw (f i) nm m) :
    Calls Tryz.prog 25 #[.slice p N c, .float .f64 m] w fun e w' => e = .returned (.int .i64 (fp q N)) ∧ w' = w := by
  have HF := hid hf
  have HN := hid hN
  have HQ := hid hq
  have HNM := hid hn
  clear hf hN hq hn
  go_enter Tryz.func25, Tryz.ntmps25
  go_wp2
  go_loopw [9] (fun iv wr => ∃ k : Nat, k ≤ N ∧ iv = .int .i64 (k : Nat) ∧ (∀ i, i < k → q i = false) ∧ wr = w) (fun iv _ => N - (intOf iv).toNat)
  case atStart => exact ⟨0, by omega, rfl, fun i hi => absurd hi (Nat.not_lt_zero i), rfl⟩
  case round =>
    obtain ⟨k, hk, rfl, g1, hwr⟩ := hrel
    have hwr2 := hwr.symm
    subst hwr2
    have G1 := hid g1
    clear g1
    by_cases hkn : k < N
    · have HK := hid hkn
      have kI : (k : Int) < N := by omega
      have kB : (k : Int) ≤ 281474976710656 := by have := HN.out; omega
      obtain ⟨b0, o0, rfl⟩ := HF.out.some0 (show 0 < N by omega)
      obtain ⟨x, hx⟩ : ∃ x, f k = x := ⟨_, rfl⟩
      have xa := HF.out.at0 hkn
      have xc := xa.2.2
      have xl := (HF.out k hkn).1
      rw [hx] at xc xl
      have qk := HQ.out k hkn
      rw [hx] at qk
      clear hx hkn hk xa
      cases hb : btw x nm m with
      | false =>
        have CB := hid (kept_at x nm m false w xl HNM.out hb)
        have QK : Hid (q k = true) := qk.trans (by rw [hb]; rfl)
        have E : Hid (fp q N = (k : Nat)) := fp_hit G1.out QK.out HK.out
        clear qk hb xl
        go_wp2_with fail
        refine CB.out.mono ?_
        rintro e9 v9 ⟨rfl, hv9⟩
        have hv8 := hv9.symm
        subst hv8
        go_wp2
        go_ret
        exact ⟨by rw [E.out]; rfl, by first | trivial | rfl⟩
      | true =>
        have CB := hid (kept_at x nm m true w xl HNM.out hb)
        have QK : Hid (q k = false) := qk.trans (by rw [hb]; rfl)
        clear qk hb xl
        go_wp2_with fail
        refine CB.out.mono ?_
        rintro e9 v9 ⟨rfl, hv9⟩
        have hv8 := hv9.symm
        subst hv8
        go_wp2
        refine ⟨⟨k + 1, by have := HK.out; omega, by simp, fun i hi => ?_, by first | trivial | rfl⟩, by have := HK.out; simp [intOf]; omega⟩
        by_cases l : i < k
        · exact G1.out i l
        · obtain rfl : i = k := by omega
          exact QK.out
    · have e6 : N = k := by omega
      subst e6
      have E : Hid (fp q N = -1) := fp_none G1.out
      go_wp2
      go_ret
      exact ⟨by rw [E.out]; rfl, by first | trivial | rfl⟩
set_option maxRecDepth 100000 in
set_option maxHeartbeats 16000000 in
theorem much_at (p : Option Addr) (N c : Nat) (f : Nat → Int) (th rm : Int) (w : World) (hN : N ≤ 281474976710656) (hf : Sh.IsI w p N f) (ht : 0 ≤ th ∧ th ≤ 4503599627370496) (hrm : rm = 4503599627370496 - th) :
    Calls Tryz.prog 26 #[.slice p N c, .int .i64 rm] w fun e w' => e = .returned (.int .i64 (fp (bQ f th) N)) ∧ w' = w := by
  have HF := hid hf
  have HN := hid hN
  have HT := hid ht
  have HR := hid hrm
  clear hf hN ht hrm
  go_enter Tryz.func26, Tryz.ntmps26
  go_wp2
  go_loopw [1, 9] (fun sv iv wr => ∃ k : Nat, k ≤ N ∧ iv = .int .i64 (k : Nat) ∧ sv = .int .i64 (4503599627370496 - (th + Sh.sumN f k)) ∧ (0 ≤ th + Sh.sumN f k ∧ th + Sh.sumN f k ≤ 4503599627370496) ∧ (∀ i, i < k → bQ f th i = false) ∧ wr = w) (fun _ iv _ => N - (intOf iv).toNat)
  case atStart => exact ⟨0, by omega, rfl, by show _ = Value.int .i64 (4503599627370496 - (th + 0)); rw [Int.add_zero, HR.out], by show 0 ≤ th + 0 ∧ th + 0 ≤ _; have := HT.out; omega, fun i hi => absurd hi (Nat.not_lt_zero i), rfl⟩
  case round =>
    obtain ⟨k, hk, rfl, rfl, hb, g1, hwr⟩ := hrel
    have hwr2 := hwr.symm
    subst hwr2
    have G1 := hid g1
    clear g1
    obtain ⟨s, hs⟩ : ∃ s, 4503599627370496 - (th + Sh.sumN f k) = s := ⟨_, rfl⟩
    have s1 : 0 ≤ s := by omega
    have s2 : s ≤ 4503599627370496 := by omega
    rw [hs]
    clear hb
    by_cases hkn : k < N
    · have HK := hid hkn
      have kI : (k : Int) < N := by omega
      have kB : (k : Int) ≤ 281474976710656 := by have := HN.out; omega
      obtain ⟨b0, o0, rfl⟩ := HF.out.some0 (show 0 < N by omega)
      obtain ⟨x, hx⟩ : ∃ x, f k = x := ⟨_, rfl⟩
      have xc := (HF.out.at0 hkn).2.2
      rw [hx] at xc
      have QE : Hid (bQ f th k = (decide (x < 0) || decide (s < x))) := by show bQ f th k = _; unfold bQ; rw [hs, hx]
      have M3 : Hid (th + Sh.sumN f (k + 1) = 4503599627370496 - s + x) := by show th + (Sh.sumN f k + f k) = _; rw [hx]; omega
      clear hx hs hkn hk
      by_cases q1 : x < 0
      · have d1 : decide (x < 0) = true := decide_eq_true q1
        have E : Hid (fp (bQ f th) N = (k : Nat)) := fp_hit G1.out (QE.out.trans (by rw [d1]; rfl)) HK.out
        go_wp2
        go_ret
        exact ⟨by rw [E.out]; rfl, by first | trivial | rfl⟩
      · have d1 : decide (x < 0) = false := decide_eq_false q1
        by_cases q2 : s < x
        · have d2 : decide (s < x) = true := decide_eq_true q2
          have E : Hid (fp (bQ f th) N = (k : Nat)) := fp_hit G1.out (QE.out.trans (by rw [d1, d2]; rfl)) HK.out
          go_wp2
          go_ret
          exact ⟨by rw [E.out]; rfl, by first | trivial | rfl⟩
        · have d2 : decide (s < x) = false := decide_eq_false q2
          have QF : Hid (bQ f th k = false) := QE.out.trans (by rw [d1, d2]; rfl)
          have n1 : 0 ≤ s - x := by omega
          have n2 : s - x ≤ 4503599627370496 := by omega
          have N3 : Hid (4503599627370496 - (4503599627370496 - s + x) = s - x) := by show _ = _; omega
          have N4 : Hid (0 ≤ 4503599627370496 - s + x ∧ 4503599627370496 - s + x ≤ 4503599627370496) := by show _ ∧ _; omega
          clear q1 q2
          go_wp2
          refine ⟨⟨k + 1, by have := HK.out; omega, by simp, by rw [M3.out, N3.out], by rw [M3.out]; exact N4.out, fun i hi => ?_, by first | trivial | rfl⟩, by have := HK.out; simp [intOf]; omega⟩
          by_cases l : i < k
          · exact G1.out i l
          · obtain rfl : i = k := by omega
            exact QF.out
    · have e6 : N = k := by omega
      subst e6
      have E : Hid (fp (bQ f th) N = -1) := fp_none G1.out
      go_wp2
      go_ret
      exact ⟨by rw [E.out]; rfl, by first | trivial | rfl⟩
end Ss
end Go.Proofs.YtcmpiohiganliaaGreatDoor

namespace Go.Proofs.YtcmpiohiganliaaGreatDoor
open Go.RowKit Go.Deep
namespace Rn
open Sh
set_option maxRecDepth 100000 in
set_option maxHeartbeats 16000000 in
theorem valid18 (n r1 r2 r3 r4 : Int) (w : World) :
    Calls Tryz.prog 79 #[.int .i64 n, .agg #[.int .i64 r1, .int .i64 r2, .int .i64 r3, .int .i64 r4]] w fun e w' => e = .returned (.bool (vB n (r1, r2, r3, r4))) ∧ Below w.heap.size w w' := by
  have A0 : Hid (Ab w (w.alloc (.cells #[.int .i64 r1, .int .i64 r2, .int .i64 r3, .int .i64 r4] 122))) := bl1 _ _
  have R0 : Hid ((w.alloc (.cells #[.int .i64 r1, .int .i64 r2, .int .i64 r3, .int .i64 r4] 122)).heap[w.heap.size]? = some (.cells #[.int .i64 r1, .int .i64 r2, .int .i64 r3, .int .i64 r4] 122)) := heap_alloc_new _ _
  have VE : Hid (vB n (r1, r2, r3, r4) = (decide (0 ≤ r1) && decide (r1 < n) && decide (-4503599627370496 ≤ r2) && decide (r2 ≤ 4503599627370496) && decide (0 ≤ r3) && decide (r3 ≤ r4))) := rfl
  cases h0 : decide (0 ≤ r1) with
  | false =>
    have KO : Hid (vB n (r1, r2, r3, r4) = false) := VE.out.trans (by rw [h0] <;> rfl)
    clear VE
    go_enter Tryz.func79, Tryz.ntmps79
    go_upto_region 1 with fail
    generalize hW : World.alloc w _ = W0 at *
    obtain ⟨gw, hgw⟩ : ∃ g, w.heap.size = g := ⟨_, rfl⟩
    rw [hgw] at R0 ⊢
    clear hgw hW
    have x0 := cell_of_row _ _ 0 _ _ _ R0.out
    have x1 := cell_of_row _ _ 1 _ _ _ R0.out
    have x2 := cell_of_row _ _ 2 _ _ _ R0.out
    have x3 := cell_of_row _ _ 3 _ _ _ R0.out
    go_wp2
    go_ret
    exact ⟨by rw [KO.out]; rfl, A0.out⟩
  | true =>
    cases h1 : decide (r1 < n) with
    | false =>
      have KO : Hid (vB n (r1, r2, r3, r4) = false) := VE.out.trans (by rw [h0, h1] <;> rfl)
      clear VE
      go_enter Tryz.func79, Tryz.ntmps79
      go_upto_region 1 with fail
      generalize hW : World.alloc w _ = W0 at *
      obtain ⟨gw, hgw⟩ : ∃ g, w.heap.size = g := ⟨_, rfl⟩
      rw [hgw] at R0 ⊢
      clear hgw hW
      have x0 := cell_of_row _ _ 0 _ _ _ R0.out
      have x1 := cell_of_row _ _ 1 _ _ _ R0.out
      have x2 := cell_of_row _ _ 2 _ _ _ R0.out
      have x3 := cell_of_row _ _ 3 _ _ _ R0.out
      go_wp2
      go_ret
      exact ⟨by rw [KO.out]; rfl, A0.out⟩
    | true =>
      cases h2 : decide (-4503599627370496 ≤ r2) with
      | false =>
        have KO : Hid (vB n (r1, r2, r3, r4) = false) := VE.out.trans (by rw [h0, h1, h2] <;> rfl)
        clear VE
        go_enter Tryz.func79, Tryz.ntmps79
        go_upto_region 1 with fail
        generalize hW : World.alloc w _ = W0 at *
        obtain ⟨gw, hgw⟩ : ∃ g, w.heap.size = g := ⟨_, rfl⟩
        rw [hgw] at R0 ⊢
        clear hgw hW
        have x0 := cell_of_row _ _ 0 _ _ _ R0.out
        have x1 := cell_of_row _ _ 1 _ _ _ R0.out
        have x2 := cell_of_row _ _ 2 _ _ _ R0.out
        have x3 := cell_of_row _ _ 3 _ _ _ R0.out
        go_wp2
        go_ret
        exact ⟨by rw [KO.out]; rfl, A0.out⟩
      | true =>
        cases h3 : decide (r2 ≤ 4503599627370496) with
        | false =>
          have KO : Hid (vB n (r1, r2, r3, r4) = false) := VE.out.trans (by rw [h0, h1, h2, h3] <;> rfl)
          clear VE
          go_enter Tryz.func79, Tryz.ntmps79
          go_upto_region 1 with fail
          generalize hW : World.alloc w _ = W0 at *
          obtain ⟨gw, hgw⟩ : ∃ g, w.heap.size = g := ⟨_, rfl⟩
          rw [hgw] at R0 ⊢
          clear hgw hW
          have x0 := cell_of_row _ _ 0 _ _ _ R0.out
          have x1 := cell_of_row _ _ 1 _ _ _ R0.out
          have x2 := cell_of_row _ _ 2 _ _ _ R0.out
          have x3 := cell_of_row _ _ 3 _ _ _ R0.out
          go_wp2
          go_ret
          exact ⟨by rw [KO.out]; rfl, A0.out⟩
        | true =>
          cases h4 : decide (0 ≤ r3) with
          | false =>
            have KO : Hid (vB n (r1, r2, r3, r4) = false) := VE.out.trans (by rw [h0, h1, h2, h3, h4] <;> rfl)
            clear VE
            go_enter Tryz.func79, Tryz.ntmps79
            go_upto_region 1 with fail
            generalize hW : World.alloc w _ = W0 at *
            obtain ⟨gw, hgw⟩ : ∃ g, w.heap.size = g := ⟨_, rfl⟩
            rw [hgw] at R0 ⊢
            clear hgw hW
            have x0 := cell_of_row _ _ 0 _ _ _ R0.out
            have x1 := cell_of_row _ _ 1 _ _ _ R0.out
            have x2 := cell_of_row _ _ 2 _ _ _ R0.out
            have x3 := cell_of_row _ _ 3 _ _ _ R0.out
            go_wp2
            go_ret
            exact ⟨by rw [KO.out]; rfl, A0.out⟩
          | true =>
            cases h5 : decide (r3 ≤ r4) with
            | false =>
              have KO : Hid (vB n (r1, r2, r3, r4) = false) := VE.out.trans (by rw [h0, h1, h2, h3, h4, h5] <;> rfl)
              clear VE
              go_enter Tryz.func79, Tryz.ntmps79
              go_upto_region 1 with fail
              generalize hW : World.alloc w _ = W0 at *
              obtain ⟨gw, hgw⟩ : ∃ g, w.heap.size = g := ⟨_, rfl⟩
              rw [hgw] at R0 ⊢
              clear hgw hW
              have x0 := cell_of_row _ _ 0 _ _ _ R0.out
              have x1 := cell_of_row _ _ 1 _ _ _ R0.out
              have x2 := cell_of_row _ _ 2 _ _ _ R0.out
              have x3 := cell_of_row _ _ 3 _ _ _ R0.out
              go_wp2
              go_ret
              exact ⟨by rw [KO.out]; rfl, A0.out⟩
            | true =>
              have KO : Hid (vB n (r1, r2, r3, r4) = true) := VE.out.trans (by rw [h0, h1, h2, h3, h4, h5] <;> rfl)
              clear VE
              go_enter Tryz.func79, Tryz.ntmps79
              go_upto_region 1 with fail
              generalize hW : World.alloc w _ = W0 at *
              obtain ⟨gw, hgw⟩ : ∃ g, w.heap.size = g := ⟨_, rfl⟩
              rw [hgw] at R0 ⊢
              clear hgw hW
              have x0 := cell_of_row _ _ 0 _ _ _ R0.out
              have x1 := cell_of_row _ _ 1 _ _ _ R0.out
              have x2 := cell_of_row _ _ 2 _ _ _ R0.out
              have x3 := cell_of_row _ _ 3 _ _ _ R0.out
              go_wp2
              go_ret
              exact ⟨by rw [KO.out]; rfl, A0.out⟩
end Rn
end Go.Proofs.YtcmpiohiganliaaGreatDoor
