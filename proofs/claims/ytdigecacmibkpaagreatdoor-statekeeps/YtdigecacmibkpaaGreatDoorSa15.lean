/-
  Some of the texts of this proof, one behind the other.
-/
import Derived.ProofKit
import Derived.OpenShut
import Derived.WalkLawsBesides
import Derived.Stop.Joined
import Derived.Carry
import Derived.Lib.SmallJoins
import Derived.Deep.SlicePairs
import Derived.Deep.Slices
import Derived.Test.YtdigecacmibkpaaGreatDoorSa14
namespace Go.Proofs.YtdigecacmibkpaaGreatDoor
open Go.RowKit Tf Cu Go.Deep
attribute [local go_sem] run_bits run_from raw_feq raw_fne raw_flt raw_fgt run_neg run_store_float
namespace Ss
/-- a sea in a box: its lists are blocks from M on, ahead of its box -/
def SeaIn (M g : Nat) (p1 : Option Addr) (c1 : Nat) (p2 : Option Addr) (c2 : Nat) (p3 : Option Addr) (c3 : Nat) (p4 : Option Addr) (c4 : Nat) (n1 n2 n3 n4 : Nat) (A : Nat → Nat) (B C : Nat → Int) (D : Nat → Nat) (sk st : Int) (v : World) : Prop :=
  v.heap[g]? = some (.cells #[.slice p1 n1 c1, .slice p2 n2 c2, .slice p3 n3 c3, .slice p4 n4 c4, .int .i64 sk, .int .i64 st] 33) ∧ (IsFl v p1 n1 A ∧ Sh.IsI v p2 n2 B ∧ Sh.IsI v p3 n3 C ∧ IsFl v p4 n4 D) ∧ (OV 22 M (.slice p1 n1 c1) (((List.range n1).map A).map (Value.float .f64)) v ∧ OV 2 M (.slice p2 n2 c2) (((List.range n2).map B).map (Value.int .i64)) v ∧ OV 2 M (.slice p3 n3 c3) (((List.range n3).map C).map (Value.int .i64)) v ∧ OV 22 M (.slice p4 n4 c4) (((List.range n4).map D).map (Value.float .f64)) v) ∧ (∀ k, ((Value.slice p1 n1 c1).ownBlock = some k ∨ (Value.slice p2 n2 c2).ownBlock = some k ∨ (Value.slice p3 n3 c3).ownBlock = some k ∨ (Value.slice p4 n4 c4).ownBlock = some k) → k < g) ∧ (Dj (.slice p1 n1 c1) (.slice p2 n2 c2) ∧ Dj (.slice p1 n1 c1) (.slice p3 n3 c3) ∧ Dj (.slice p1 n1 c1) (.slice p4 n4 c4) ∧ Dj (.slice p2 n2 c2) (.slice p3 n3 c3) ∧ Dj (.slice p2 n2 c2) (.slice p4 n4 c4) ∧ Dj (.slice p3 n3 c3) (.slice p4 n4 c4))
theorem SeaIn.q {M g : Nat} {p1 : Option Addr} {c1 : Nat} {p2 : Option Addr} {c2 : Nat} {p3 : Option Addr} {c3 : Nat} {p4 : Option Addr} {c4 : Nat} {n1 n2 n3 n4 : Nat} {A : Nat → Nat} {B C : Nat → Int} {D : Nat → Nat} {sk st : Int} {v v' : World} {P : Nat → Prop} (h : SeaIn M g p1 c1 p2 c2 p3 c3 p4 c4 n1 n2 n3 n4 A B C D sk st v) (a : Rv.AbQ v P v') (hP : ∀ k, P k → k < M ∨ g < k) (hM : M ≤ g) : SeaIn M g p1 c1 p2 c2 p3 c3 p4 c4 n1 n2 n3 n4 A B C D sk st v' := by
  obtain ⟨h1, ⟨i1, i2, i3, i4⟩, ⟨o1, o2, o3, o4⟩, hk, dj⟩ := h
  have nt : ∀ k, M ≤ k → k < g → ¬ P k := fun k x y q => by have := hP k q; omega
  have ob : ∀ (p : Option Addr) (n c b o : Nat), p = some ⟨b, o, none⟩ → (Value.slice p n c).ownBlock = some b := fun p n c b o e => by subst e; rfl
  refine ⟨Rv.AbQ.heap a h1 (fun q => by have := hP _ q; omega), ⟨Rv.AbQ.isFl a i1 (fun b o e => nt b (o1.blk (ob _ _ _ _ _ e)).1 (hk b (.inl (ob _ _ _ _ _ e)))), Rv.AbQ.isI a i2 (fun b o e => nt b (o2.blk (ob _ _ _ _ _ e)).1 (hk b (.inr (.inl (ob _ _ _ _ _ e))))), Rv.AbQ.isI a i3 (fun b o e => nt b (o3.blk (ob _ _ _ _ _ e)).1 (hk b (.inr (.inr (.inl (ob _ _ _ _ _ e)))))), Rv.AbQ.isFl a i4 (fun b o e => nt b (o4.blk (ob _ _ _ _ _ e)).1 (hk b (.inr (.inr (.inr (ob _ _ _ _ _ e))))))⟩, ⟨o1.blkeq (fun k e => a.2.2.2.2 k (o1.blk e).2 (nt k (o1.blk e).1 (hk k (.inl e)))), o2.blkeq (fun k e => a.2.2.2.2 k (o2.blk e).2 (nt k (o2.blk e).1 (hk k (.inr (.inl e))))), o3.blkeq (fun k e => a.2.2.2.2 k (o3.blk e).2 (nt k (o3.blk e).1 (hk k (.inr (.inr (.inl e)))))), o4.blkeq (fun k e => a.2.2.2.2 k (o4.blk e).2 (nt k (o4.blk e).1 (hk k (.inr (.inr (.inr e))))))⟩, hk, dj⟩
theorem SeaIn.to {M g : Nat} {p1 : Option Addr} {c1 : Nat} {p2 : Option Addr} {c2 : Nat} {p3 : Option Addr} {c3 : Nat} {p4 : Option Addr} {c4 : Nat} {n1 n2 n3 n4 : Nat} {A : Nat → Nat} {B C : Nat → Int} {D : Nat → Nat} {sk st : Int} {v v' : World} (h : SeaIn M g p1 c1 p2 c2 p3 c3 p4 c4 n1 n2 n3 n4 A B C D sk st v) (a : Ab v v') (hM : M ≤ g) : SeaIn M g p1 c1 p2 c2 p3 c3 p4 c4 n1 n2 n3 n4 A B C D sk st v' := h.q (Rv.AbQ.to (Rv.AbQ.refl v (fun _ => False)) a) (fun _ q => q.elim) hM
theorem SeaIn.k {M g : Nat} {p1 : Option Addr} {c1 : Nat} {p2 : Option Addr} {c2 : Nat} {p3 : Option Addr} {c3 : Nat} {p4 : Option Addr} {c4 : Nat} {n1 n2 n3 n4 : Nat} {A : Nat → Nat} {B C : Nat → Int} {D : Nat → Nat} {sk st : Int} {v : World} (h : SeaIn M g p1 c1 p2 c2 p3 c3 p4 c4 n1 n2 n3 n4 A B C D sk st v) : K20 v M (fun k => M ≤ k ∧ k < g) (((List.range n1).map A).map (Value.float .f64)) (((List.range n2).map B).map (Value.int .i64)) (((List.range n3).map C).map (Value.int .i64)) (((List.range n4).map D).map (Value.float .f64)) (.slice p1 n1 c1) (.slice p2 n2 c2) (.slice p3 n3 c3) (.slice p4 n4 c4) v := by
  obtain ⟨h1, _, ⟨o1, o2, o3, o4⟩, hk, dj⟩ := h
  exact ⟨Rv.AbQ.refl _ _, o1, o2, o3, o4, dj, fun k e => .inl ⟨(o1.blk e).1, hk k (.inl e)⟩, fun k e => .inl ⟨(o2.blk e).1, hk k (.inr (.inl e))⟩, fun k e => .inl ⟨(o3.blk e).1, hk k (.inr (.inr (.inl e)))⟩, fun k e => .inl ⟨(o4.blk e).1, hk k (.inr (.inr (.inr e)))⟩⟩
/-- what becomes of a sea that is spoilt -/
theorem SeaIn.spoil {M g : Nat} {p1 : Option Addr} {c1 : Nat} {p2 : Option Addr} {c2 : Nat} {p3 : Option Addr} {c3 : Nat} {p4 : Option Addr} {c4 : Nat} {n1 n2 n3 n4 : Nat} {A : Nat → Nat} {B C : Nat → Int} {D : Nat → Nat} {sk st : Int} {v : World} (h : SeaIn M g p1 c1 p2 c2 p3 c3 p4 c4 n1 n2 n3 n4 A B C D sk st v) (hl : n1 ≤ 131072 ∧ n2 ≤ 131072 ∧ n3 ≤ 131072 ∧ n4 ≤ 131072) (hM : M ≤ g) :
    Calls Tryz.prog 18 #[.agg #[.slice p1 n1 c1, .slice p2 n2 c2, .slice p3 n3 c3, .slice p4 n4 c4, .int .i64 sk, .int .i64 st]] v fun e w' => e = .returned (.tuple #[]) ∧ Rv.AbQ v (fun k => M ≤ k ∧ k < g) w' := by
  have lt := Rv.lt_of_get h.1
  exact spoil_at p1 n1 c1 p2 n2 c2 p3 n3 c3 p4 n4 c4 sk st (((List.range n1).map A).map (Value.float .f64)) (((List.range n2).map B).map (Value.int .i64)) (((List.range n3).map C).map (Value.int .i64)) (((List.range n4).map D).map (Value.float .f64)) M (fun k => M ≤ k ∧ k < g) v hl (by omega) (show _ ∧ _ from by simp) ⟨allF_map, allI_map, allI_map, allF_map⟩ h.k (fun k hk => by omega)
def Bnd (n1 n2 n3 n4 : Nat) (A : Nat → Nat) (B C : Nat → Int) (D : Nat → Nat) : Prop := (∀ i, i < n1 → A i < 18446744073709551616) ∧ (∀ i, i < n2 → Sh.W64 (B i)) ∧ (∀ i, i < n3 → Sh.W64 (C i)) ∧ (∀ i, i < n4 → D i < 18446744073709551616)
theorem sea_new {M : Nat} {vv : Value} {n1 n2 n3 n4 : Nat} {A : Nat → Nat} {B C : Nat → Int} {D : Nat → Nat} {sk st : Int} {u : World} (h : OwnS M vv n1 n2 n3 n4 A B C D sk st u) (hb : Bnd n1 n2 n3 n4 A B C D) :
    ∃ p1 c1 p2 c2 p3 c3 p4 c4, vv = .agg #[.slice p1 n1 c1, .slice p2 n2 c2, .slice p3 n3 c3, .slice p4 n4 c4, .int .i64 sk, .int .i64 st] ∧ SeaIn M u.heap.size p1 c1 p2 c2 p3 c3 p4 c4 n1 n2 n3 n4 A B C D sk st (u.alloc (.cells #[.slice p1 n1 c1, .slice p2 n2 c2, .slice p3 n3 c3, .slice p4 n4 c4, .int .i64 sk, .int .i64 st] 33)) := by
  obtain ⟨p1, c1, p2, c2, p3, c3, p4, c4, e, ⟨i1, i2, i3, i4⟩, ⟨o1, o2, o3, o4⟩, dj⟩ := own_k20 h hb.1 hb.2.1 hb.2.2.1 hb.2.2.2
  have a : ∀ o, Ab u (u.alloc o) := fun o => bl1 _ _
  exact ⟨p1, c1, p2, c2, p3, c3, p4, c4, e, heap_alloc_new _ _, ⟨i1.below (a _), i2.below (a _), i3.below (a _), i4.below (a _)⟩, ⟨o1.to (a _), o2.to (a _), o3.to (a _), o4.to (a _)⟩, fun k q => by
    rcases q with q | q | q | q
    · exact (o1.blk q).2
    · exact (o2.blk q).2
    · exact (o3.blk q).2
    · exact (o4.blk q).2, dj⟩
theorem own_zero (M : Nat) (w : World) : OwnS M (.agg #[.slice none 0 0, .slice none 0 0, .slice none 0 0, .slice none 0 0, .int .i64 0, .int .i64 0]) 0 0 0 0 (fun _ => 0) (fun _ => 0) (fun _ => 0) (fun _ => 0) 0 0 w :=
  ⟨_, _, _, _, rfl, ⟨by simp, .inl ⟨rfl, rfl⟩⟩, ⟨by simp, .inl ⟨rfl, rfl⟩⟩, ⟨by simp, .inl ⟨rfl, rfl⟩⟩, ⟨by simp, .inl ⟨rfl, rfl⟩⟩, fun _ e => (by cases e), fun _ e => (by cases e)⟩
set_option maxRecDepth 100000 in
set_option maxHeartbeats 16000000 in
theorem skeeps_w (side : Int) (pb : Option Addr) (lb cb : Nat) (pw : Option Addr) (lw cw : Nat) (pt : Option Addr) (lt ct : Nat) (ps : Option Addr) (ls cs : Nat) (sky st : Int) (turn : Int) (w : World) (LV : Hid (∀ v, Ab w v → Calls Tryz.prog 9 #[] v fun e w' => e = .returned (.bool true) ∧ Below v.heap.size v w'))
    (WA : Hid (∀ v, Calls Tryz.prog 12 #[.agg #[.slice pb lb cb, .slice pw lw cw, .slice pt lt ct, .slice ps ls cs, .int .i64 sky, .int .i64 st]] v fun e w' => e = .returned (.bool true) ∧ Below v.heap.size v w')) :
    Calls Tryz.prog 8 #[.int .i64 side, .agg #[.slice pb lb cb, .slice pw lw cw, .slice pt lt ct, .slice ps ls cs, .int .i64 sky, .int .i64 st], .int .i64 turn] w fun e w' => e = .returned (.bool true) ∧ Below w.heap.size w w' := by
  have A0 : Hid (Ab w (w.alloc (.cells #[.slice pb lb cb, .slice pw lw cw, .slice pt lt ct, .slice ps ls cs, .int .i64 sky, .int .i64 st] 33))) := bl1 _ _
  have R0 : Hid ((w.alloc (.cells #[.slice pb lb cb, .slice pw lw cw, .slice pt lt ct, .slice ps ls cs, .int .i64 sky, .int .i64 st] 33)).heap[w.heap.size]? = some (.cells #[.slice pb lb cb, .slice pw lw cw, .slice pt lt ct, .slice ps ls cs, .int .i64 sky, .int .i64 st] 33)) := heap_alloc_new _ _
  go_enter Tryz.func8, Tryz.ntmps8
  go_upto_region 1 with fail
  generalize hW : World.alloc w _ = V0 at *
  obtain ⟨g0, hga⟩ : ∃ g, w.heap.size = g := ⟨_, rfl⟩
  rw [hga] at R0 ⊢
  clear hga hW
  go_wp2_with fail
  refine (LV.out _ A0.out).mono ?_
  rintro e9 v1 ⟨rfl, b1⟩
  have A1 : Hid (Ab w v1) := A0.out.trans b1
  have R1 := hid (Ab.heap b1 R0.out)
  clear b1 A0 R0  
  have x0 := cell_of_row _ _ 0 _ _ _ R1.out
  have x1 := cell_of_row _ _ 1 _ _ _ R1.out
  have x2 := cell_of_row _ _ 2 _ _ _ R1.out
  have x3 := cell_of_row _ _ 3 _ _ _ R1.out
  have x4 := cell_of_row _ _ 4 _ _ _ R1.out
  have x5 := cell_of_row _ _ 5 _ _ _ R1.out
  go_wp2_with fail
  refine (WA.out _).mono ?_
  rintro e9 v2 ⟨rfl, b2⟩
  have A2 : Hid (Ab w v2) := A1.out.trans b2
  have R2 := hid (Ab.heap b2 R1.out)
  clear b2 A1 R1  x0 x1 x2 x3 x4 x5
  go_wp2
  go_ret
  exact ⟨rfl, A2.out⟩
set_option maxRecDepth 100000 in
set_option maxHeartbeats 128000000 in
theorem skeeps_go (side : Int) (pb : Option Addr) (lb cb : Nat) (B : Nat → Nat) (pw : Option Addr) (lw cw : Nat) (W : Nat → Int) (pt : Option Addr) (lt ct : Nat) (T : Nat → Int) (ps : Option Addr) (ls cs : Nat) (S : Nat → Nat) (sky st : Int) (turn y1 : Int) (t : Nat) (te le : Int) (n1 n2 n3 n4 : Nat) (F1 : Nat → Nat) (F2 F3 : Nat → Int) (F4 : Nat → Nat) (sk1 st1 : Int) (m1 m2 m3 m4 : Nat) (G1 : Nat → Nat) (G2 G3 : Nat → Int) (G4 : Nat → Nat) (sk2 st2 : Int) (w : World) (LV : Hid (∀ v, Ab w v → Calls Tryz.prog 9 #[] v fun e w' => e = .returned (.bool true) ∧ Below v.heap.size v w'))
    (WA : Hid (∀ v, Calls Tryz.prog 12 #[.agg #[.slice pb lb cb, .slice pw lw cw, .slice pt lt ct, .slice ps ls cs, .int .i64 sky, .int .i64 st]] v fun e w' => e = .returned (.bool false) ∧ Below v.heap.size v w'))
    (ew : IntKind.u64.wrap turn = y1) (_y0 : 0 ≤ y1 ∧ y1 < 18446744073709551616) (et : y1.tmod 24 = t) (lti : (t : Int) < 24)
    (TT : Hid (∀ v p1 c1 p2 c2 p3 c3 p4 c4, Ab w v → IsFl v p1 lb B → Sh.IsI v p2 lw W → Sh.IsI v p3 lt T → IsFl v p4 ls S → Calls Tryz.prog 19 #[.int .i64 side, .agg #[.slice p1 lb c1, .slice p2 lw c2, .slice p3 lt c3, .slice p4 ls c4, .int .i64 sky, .int .i64 st], .int .i64 (t : Nat)] v fun e w' => ∃ vv, e = .returned (.tuple #[vv, .int .i64 te]) ∧ Below v.heap.size v w' ∧ OwnS v.heap.size vv n1 n2 n3 n4 F1 F2 F3 F4 sk1 st1 w'))
    (LK : Hid (∀ v p1 c1, Ab w v → IsFl v p1 lb B → Calls Tryz.prog 21 #[.int .i64 side, .slice p1 lb c1, .float .f64 4602678819172646912] v fun e w' => ∃ vv, e = .returned (.tuple #[vv, .int .i64 le]) ∧ Below v.heap.size v w' ∧ OwnS v.heap.size vv m1 m2 m3 m4 G1 G2 G3 G4 sk2 st2 w'))
    (HL : Hid (lb ≤ 131072 ∧ lw ≤ 131072 ∧ lt ≤ 131072 ∧ ls ≤ 131072)) (HT : Hid (n1 ≤ 131072 ∧ n2 ≤ 131072 ∧ n3 ≤ 131072 ∧ n4 ≤ 131072)) (HK : Hid (m1 ≤ 131072 ∧ m2 ≤ 131072 ∧ m3 ≤ 131072 ∧ m4 ≤ 131072))
    (BM : Hid (Bnd lb lw lt ls B W T S)) (BT : Hid (Bnd n1 n2 n3 n4 F1 F2 F3 F4)) (BL : Hid (Bnd m1 m2 m3 m4 G1 G2 G3 G4))
    (I1 : Hid (IsFl w pb lb B)) (I2 : Hid (Sh.IsI w pw lw W)) (I3 : Hid (Sh.IsI w pt lt T)) (I4 : Hid (IsFl w ps ls S)) :
    Calls Tryz.prog 8 #[.int .i64 side, .agg #[.slice pb lb cb, .slice pw lw cw, .slice pt lt ct, .slice ps ls cs, .int .i64 sky, .int .i64 st], .int .i64 turn] w fun e w' => e = .returned (.bool true) ∧ Below w.heap.size w w' := by
  have n1' : (te != te) = false := by simp
  have n2' : (te == te) = true := by simp
  have n3' : (le != le) = false := by simp
  have n4' : (le == le) = true := by simp
  have A0 : Hid (Ab w (w.alloc (.cells #[.slice pb lb cb, .slice pw lw cw, .slice pt lt ct, .slice ps ls cs, .int .i64 sky, .int .i64 st] 33))) := bl1 _ _
  have R0 : Hid ((w.alloc (.cells #[.slice pb lb cb, .slice pw lw cw, .slice pt lt ct, .slice ps ls cs, .int .i64 sky, .int .i64 st] 33)).heap[w.heap.size]? = some (.cells #[.slice pb lb cb, .slice pw lw cw, .slice pt lt ct, .slice ps ls cs, .int .i64 sky, .int .i64 st] 33)) := heap_alloc_new _ _
  go_enter Tryz.func8, Tryz.ntmps8
  go_upto_region 1 with fail
  generalize hW : World.alloc w _ = V0 at *
  obtain ⟨g0, hga⟩ : ∃ g, w.heap.size = g := ⟨_, rfl⟩
  rw [hga] at R0 ⊢
  clear hga hW
  go_wp2_with fail
  refine (LV.out _ A0.out).mono ?_
  rintro e9 v1 ⟨rfl, b1⟩
  have A1 : Hid (Ab w v1) := A0.out.trans b1
  have R1 := hid (Ab.heap b1 R0.out)
  clear b1 A0 R0  
  have x0 := cell_of_row _ _ 0 _ _ _ R1.out
  have x1 := cell_of_row _ _ 1 _ _ _ R1.out
  have x2 := cell_of_row _ _ 2 _ _ _ R1.out
  have x3 := cell_of_row _ _ 3 _ _ _ R1.out
  have x4 := cell_of_row _ _ 4 _ _ _ R1.out
  have x5 := cell_of_row _ _ 5 _ _ _ R1.out
  go_wp2_with fail
  refine (WA.out _).mono ?_
  rintro e9 v2 ⟨rfl, b2⟩
  have A2 : Hid (Ab w v2) := A1.out.trans b2
  have R2 := hid (Ab.heap b2 R1.out)
  clear b2 A1 R1  x0 x1 x2 x3 x4 x5
  have x0 := cell_of_row _ _ 0 _ _ _ R2.out
  have x1 := cell_of_row _ _ 1 _ _ _ R2.out
  have x2 := cell_of_row _ _ 2 _ _ _ R2.out
  have x3 := cell_of_row _ _ 3 _ _ _ R2.out
  have x4 := cell_of_row _ _ 4 _ _ _ R2.out
  have x5 := cell_of_row _ _ 5 _ _ _ R2.out
  go_wp2_with fail
  refine (rcopy20 pb lb cb B pw lw cw W pt lt ct T ps ls cs S sky st v2 HL (I1.out.below A2.out) (I2.out.below A2.out) (I3.out.below A2.out) (I4.out.below A2.out)).mono ?_
  rintro e9 u3 ⟨vv, rfl, b3, os⟩
  obtain ⟨mp1, mc1, mp2, mc2, mp3, mc3, mp4, mc4, rfl, sn⟩ := sea_new os BM.out
  have Lm : Hid (v2.heap.size ≤ u3.heap.size) := Ab.size (show Ab v2 u3 from b3)
  have BB : Hid (Ab v2 (u3.alloc (.cells #[.slice mp1 lb mc1, .slice mp2 lw mc2, .slice mp3 lt mc3, .slice mp4 ls mc4, .int .i64 sky, .int .i64 st] 33))) := (show Ab v2 u3 from b3).trans (bl1 _ _)
  have Sm3 := hid sn
  have Y3 : Hid (u3.heap.size + 1 ≤ (u3.alloc (.cells #[.slice mp1 lb mc1, .slice mp2 lw mc2, .slice mp3 lt mc3, .slice mp4 ls mc4, .int .i64 sky, .int .i64 st] 33)).heap.size) := by show _ ≤ (u3.heap.push _).size; simp
  clear os sn b3 x0 x1 x2 x3 x4 x5
  go_upto_region 5 with fail
  generalize hW : World.alloc u3 _ = v3 at *
  obtain ⟨gm, hg⟩ : ∃ g, u3.heap.size = g := ⟨_, rfl⟩
  rw [hg] at Sm3 Lm Y3 ⊢
  clear hg hW
  have A3 : Hid (Ab w v3) := A2.out.trans BB.out
  have R3 := hid (Ab.heap BB.out R2.out)
  have Wm : Hid (w.heap.size ≤ v2.heap.size) := Ab.size A2.out
  obtain ⟨Mm, hM⟩ : ∃ m, v2.heap.size = m := ⟨_, rfl⟩
  rw [hM] at Sm3 Lm Wm
  clear hM
  clear BB A2 R2 
  have x0 := cell_of_row _ _ 0 _ _ _ Sm3.out.1
  have x1 := cell_of_row _ _ 1 _ _ _ Sm3.out.1
  have x2 := cell_of_row _ _ 2 _ _ _ Sm3.out.1
  have x3 := cell_of_row _ _ 3 _ _ _ Sm3.out.1
  have x4 := cell_of_row _ _ 4 _ _ _ Sm3.out.1
  have x5 := cell_of_row _ _ 5 _ _ _ Sm3.out.1
  go_wp2_with fail
  refine (TT.out v3 mp1 mc1 mp2 mc2 mp3 mc3 mp4 mc4 A3.out Sm3.out.2.1.1 Sm3.out.2.1.2.1 Sm3.out.2.1.2.2.1 Sm3.out.2.1.2.2.2).mono ?_
  rintro e9 u4 ⟨vv, rfl, b4, os⟩
  obtain ⟨ap1, ac1, ap2, ac2, ap3, ac3, ap4, ac4, rfl, sn⟩ := sea_new os BT.out
  have La : Hid (v3.heap.size ≤ u4.heap.size) := Ab.size (show Ab v3 u4 from b4)
  have BB : Hid (Ab v3 (u4.alloc (.cells #[.slice ap1 n1 ac1, .slice ap2 n2 ac2, .slice ap3 n3 ac3, .slice ap4 n4 ac4, .int .i64 sk1, .int .i64 st1] 33))) := (show Ab v3 u4 from b4).trans (bl1 _ _)
  have Sa4 := hid sn
  have Y4 : Hid (u4.heap.size + 1 ≤ (u4.alloc (.cells #[.slice ap1 n1 ac1, .slice ap2 n2 ac2, .slice ap3 n3 ac3, .slice ap4 n4 ac4, .int .i64 sk1, .int .i64 st1] 33)).heap.size) := by show _ ≤ (u4.heap.push _).size; simp
  clear os sn b4 x0 x1 x2 x3 x4 x5
  go_upto_region 7 with fail
  generalize hW : World.alloc u4 _ = v4 at *
  obtain ⟨ga, hg⟩ : ∃ g, u4.heap.size = g := ⟨_, rfl⟩
  rw [hg] at Sa4 La Y4 ⊢
  clear hg hW
  have A4 : Hid (Ab w v4) := A3.out.trans BB.out
  have R4 := hid (Ab.heap BB.out R3.out)
  have Sm4 := hid (SeaIn.to Sm3.out BB.out Lm.out)
  have Oa : Hid (gm + 1 ≤ v3.heap.size) := Y3.out
  have Wa : Hid (w.heap.size ≤ v3.heap.size) := Ab.size A3.out
  obtain ⟨Ma, hM⟩ : ∃ m, v3.heap.size = m := ⟨_, rfl⟩
  rw [hM] at Sa4 La Wa Oa
  clear hM
  clear BB A3 R3 Sm3 Y3
  have x0 := cell_of_row _ _ 0 _ _ _ Sm4.out.1
  have x1 := cell_of_row _ _ 1 _ _ _ Sm4.out.1
  have x2 := cell_of_row _ _ 2 _ _ _ Sm4.out.1
  have x3 := cell_of_row _ _ 3 _ _ _ Sm4.out.1
  have x4 := cell_of_row _ _ 4 _ _ _ Sm4.out.1
  have x5 := cell_of_row _ _ 5 _ _ _ Sm4.out.1
  go_wp2_with fail
  refine (TT.out v4 mp1 mc1 mp2 mc2 mp3 mc3 mp4 mc4 A4.out Sm4.out.2.1.1 Sm4.out.2.1.2.1 Sm4.out.2.1.2.2.1 Sm4.out.2.1.2.2.2).mono ?_
  rintro e9 u5 ⟨vv, rfl, b5, os⟩
  obtain ⟨bp1, bc1, bp2, bc2, bp3, bc3, bp4, bc4, rfl, sn⟩ := sea_new os BT.out
  have Lb : Hid (v4.heap.size ≤ u5.heap.size) := Ab.size (show Ab v4 u5 from b5)
  have BB : Hid (Ab v4 (u5.alloc (.cells #[.slice bp1 n1 bc1, .slice bp2 n2 bc2, .slice bp3 n3 bc3, .slice bp4 n4 bc4, .int .i64 sk1, .int .i64 st1] 33))) := (show Ab v4 u5 from b5).trans (bl1 _ _)
  have Sb5 := hid sn
  have Y5 : Hid (u5.heap.size + 1 ≤ (u5.alloc (.cells #[.slice bp1 n1 bc1, .slice bp2 n2 bc2, .slice bp3 n3 bc3, .slice bp4 n4 bc4, .int .i64 sk1, .int .i64 st1] 33)).heap.size) := by show _ ≤ (u5.heap.push _).size; simp
  clear os sn b5 x0 x1 x2 x3 x4 x5
  go_upto_region 8 with fail
  generalize hW : World.alloc u5 _ = v5 at *
  obtain ⟨gb, hg⟩ : ∃ g, u5.heap.size = g := ⟨_, rfl⟩
  rw [hg] at Sb5 Lb Y5 ⊢
  clear hg hW
  have A5 : Hid (Ab w v5) := A4.out.trans BB.out
  have R5 := hid (Ab.heap BB.out R4.out)
  have Sm5 := hid (SeaIn.to Sm4.out BB.out Lm.out)
  have Sa5 := hid (SeaIn.to Sa4.out BB.out La.out)
  have Ob : Hid (ga + 1 ≤ v4.heap.size) := Y4.out
  have Wb : Hid (w.heap.size ≤ v4.heap.size) := Ab.size A4.out
  obtain ⟨Mb, hM⟩ : ∃ m, v4.heap.size = m := ⟨_, rfl⟩
  rw [hM] at Sb5 Lb Wb Ob
  clear hM
  clear BB A4 R4 Sm4 Sa4 Y4
  have x0 := cell_of_row _ _ 0 _ _ _ Sm5.out.1
  have x1 := cell_of_row _ _ 1 _ _ _ Sm5.out.1
  have x2 := cell_of_row _ _ 2 _ _ _ Sm5.out.1
  have x3 := cell_of_row _ _ 3 _ _ _ Sm5.out.1
  have x4 := cell_of_row _ _ 4 _ _ _ Sm5.out.1
  have x5 := cell_of_row _ _ 5 _ _ _ Sm5.out.1
  go_wp2_with fail
  refine (LK.out v5 mp1 mc1 A5.out Sm5.out.2.1.1).mono ?_
  rintro e9 u6 ⟨vv, rfl, b6, os⟩
  obtain ⟨cp1, cc1, cp2, cc2, cp3, cc3, cp4, cc4, rfl, sn⟩ := sea_new os BL.out
  have Lc : Hid (v5.heap.size ≤ u6.heap.size) := Ab.size (show Ab v5 u6 from b6)
  have BB : Hid (Ab v5 (u6.alloc (.cells #[.slice cp1 m1 cc1, .slice cp2 m2 cc2, .slice cp3 m3 cc3, .slice cp4 m4 cc4, .int .i64 sk2, .int .i64 st2] 33))) := (show Ab v5 u6 from b6).trans (bl1 _ _)
  have Sc6 := hid sn
  have Y6 : Hid (u6.heap.size + 1 ≤ (u6.alloc (.cells #[.slice cp1 m1 cc1, .slice cp2 m2 cc2, .slice cp3 m3 cc3, .slice cp4 m4 cc4, .int .i64 sk2, .int .i64 st2] 33)).heap.size) := by show _ ≤ (u6.heap.push _).size; simp
  clear os sn b6 x0 x1 x2 x3 x4 x5
  go_upto_region 9 with fail
  generalize hW : World.alloc u6 _ = v6 at *
  obtain ⟨gc, hg⟩ : ∃ g, u6.heap.size = g := ⟨_, rfl⟩
  rw [hg] at Sc6 Lc Y6 ⊢
  clear hg hW
  have A6 : Hid (Ab w v6) := A5.out.trans BB.out
  have R6 := hid (Ab.heap BB.out R5.out)
  have Sm6 := hid (SeaIn.to Sm5.out BB.out Lm.out)
  have Sa6 := hid (SeaIn.to Sa5.out BB.out La.out)
  have Sb6 := hid (SeaIn.to Sb5.out BB.out Lb.out)
  have Oc : Hid (gb + 1 ≤ v5.heap.size) := Y5.out
  have Wc : Hid (w.heap.size ≤ v5.heap.size) := Ab.size A5.out
  obtain ⟨Mc, hM⟩ : ∃ m, v5.heap.size = m := ⟨_, rfl⟩
  rw [hM] at Sc6 Lc Wc Oc
  clear hM
  clear BB A5 R5 Sm5 Sa5 Sb5 Y5
  have x0 := cell_of_row _ _ 0 _ _ _ Sm6.out.1
  have x1 := cell_of_row _ _ 1 _ _ _ Sm6.out.1
  have x2 := cell_of_row _ _ 2 _ _ _ Sm6.out.1
  have x3 := cell_of_row _ _ 3 _ _ _ Sm6.out.1
  have x4 := cell_of_row _ _ 4 _ _ _ Sm6.out.1
  have x5 := cell_of_row _ _ 5 _ _ _ Sm6.out.1
  go_wp2_with fail
  refine (LK.out v6 mp1 mc1 A6.out Sm6.out.2.1.1).mono ?_
  rintro e9 u7 ⟨vv, rfl, b7, os⟩
  obtain ⟨dp1, dc1, dp2, dc2, dp3, dc3, dp4, dc4, rfl, sn⟩ := sea_new os BL.out
  have Ld : Hid (v6.heap.size ≤ u7.heap.size) := Ab.size (show Ab v6 u7 from b7)
  have BB : Hid (Ab v6 (u7.alloc (.cells #[.slice dp1 m1 dc1, .slice dp2 m2 dc2, .slice dp3 m3 dc3, .slice dp4 m4 dc4, .int .i64 sk2, .int .i64 st2] 33))) := (show Ab v6 u7 from b7).trans (bl1 _ _)
  have Sd7 := hid sn
  have Y7 : Hid (u7.heap.size + 1 ≤ (u7.alloc (.cells #[.slice dp1 m1 dc1, .slice dp2 m2 dc2, .slice dp3 m3 dc3, .slice dp4 m4 dc4, .int .i64 sk2, .int .i64 st2] 33)).heap.size) := by show _ ≤ (u7.heap.push _).size; simp
  clear os sn b7 x0 x1 x2 x3 x4 x5
  go_upto_region 10 with fail
  generalize hW : World.alloc u7 _ = v7 at *
  obtain ⟨gd, hg⟩ : ∃ g, u7.heap.size = g := ⟨_, rfl⟩
  rw [hg] at Sd7 Ld Y7 ⊢
  clear hg hW
  have A7 : Hid (Ab w v7) := A6.out.trans BB.out
  have R7 := hid (Ab.heap BB.out R6.out)
  have Sm7 := hid (SeaIn.to Sm6.out BB.out Lm.out)
  have Sa7 := hid (SeaIn.to Sa6.out BB.out La.out)
  have Sb7 := hid (SeaIn.to Sb6.out BB.out Lb.out)
  have Sc7 := hid (SeaIn.to Sc6.out BB.out Lc.out)
  have Od : Hid (gc + 1 ≤ v6.heap.size) := Y6.out
  have Wd : Hid (w.heap.size ≤ v6.heap.size) := Ab.size A6.out
  obtain ⟨Md, hM⟩ : ∃ m, v6.heap.size = m := ⟨_, rfl⟩
  rw [hM] at Sd7 Ld Wd Od
  clear hM
  clear BB A6 R6 Sm6 Sa6 Sb6 Sc6 Y6
  have x0 := cell_of_row _ _ 0 _ _ _ Sa7.out.1
  have x1 := cell_of_row _ _ 1 _ _ _ Sa7.out.1
  have x2 := cell_of_row _ _ 2 _ _ _ Sa7.out.1
  have x3 := cell_of_row _ _ 3 _ _ _ Sa7.out.1
  have x4 := cell_of_row _ _ 4 _ _ _ Sa7.out.1
  have x5 := cell_of_row _ _ 5 _ _ _ Sa7.out.1
  have y0 := cell_of_row _ _ 0 _ _ _ Sb7.out.1
  have y1 := cell_of_row _ _ 1 _ _ _ Sb7.out.1
  have y2 := cell_of_row _ _ 2 _ _ _ Sb7.out.1
  have y3 := cell_of_row _ _ 3 _ _ _ Sb7.out.1
  have y4 := cell_of_row _ _ 4 _ _ _ Sb7.out.1
  have y5 := cell_of_row _ _ 5 _ _ _ Sb7.out.1
  have E1 := hid (rsame_at ap1 n1 ac1 F1 ap2 n2 ac2 F2 ap3 n3 ac3 F3 ap4 n4 ac4 F4 sk1 st1 bp1 n1 bc1 F1 bp2 n2 bc2 F2 bp3 n3 bc3 F3 bp4 n4 bc4 F4 sk1 st1 v7 HT.out HT.out Sa7.out.2.1.1 Sa7.out.2.1.2.1 Sa7.out.2.1.2.2.1 Sa7.out.2.1.2.2.2 Sb7.out.2.1.1 Sb7.out.2.1.2.1 Sb7.out.2.1.2.2.1 Sb7.out.2.1.2.2.2)
  rw [eqS_self] at E1
  go_wp2_with fail
  refine (E1.out).mono ?_
  rintro e9 v8 ⟨rfl, b8⟩
  have A8 : Hid (Ab w v8) := A7.out.trans b8
  have R8 := hid (Ab.heap b8 R7.out)
  have Sm8 := hid (SeaIn.to Sm7.out b8 Lm.out)
  have Sa8 := hid (SeaIn.to Sa7.out b8 La.out)
  have Sb8 := hid (SeaIn.to Sb7.out b8 Lb.out)
  have Sc8 := hid (SeaIn.to Sc7.out b8 Lc.out)
  have Sd8 := hid (SeaIn.to Sd7.out b8 Ld.out)
  have Y8 : Hid (gd + 1 ≤ v8.heap.size) := Nat.le_trans Y7.out (Ab.size (show Ab v7 v8 from b8))
  clear b8 A7 R7 Sm7 Sa7 Sb7 Sc7 Sd7 Y7 x0 x1 x2 x3 x4 x5 y0 y1 y2 y3 y4 y5 E1
  have x0 := cell_of_row _ _ 0 _ _ _ Sc8.out.1
  have x1 := cell_of_row _ _ 1 _ _ _ Sc8.out.1
  have x2 := cell_of_row _ _ 2 _ _ _ Sc8.out.1
  have x3 := cell_of_row _ _ 3 _ _ _ Sc8.out.1
  have x4 := cell_of_row _ _ 4 _ _ _ Sc8.out.1
  have x5 := cell_of_row _ _ 5 _ _ _ Sc8.out.1
  have y0 := cell_of_row _ _ 0 _ _ _ Sd8.out.1
  have y1 := cell_of_row _ _ 1 _ _ _ Sd8.out.1
  have y2 := cell_of_row _ _ 2 _ _ _ Sd8.out.1
  have y3 := cell_of_row _ _ 3 _ _ _ Sd8.out.1
  have y4 := cell_of_row _ _ 4 _ _ _ Sd8.out.1
  have y5 := cell_of_row _ _ 5 _ _ _ Sd8.out.1
  have E1 := hid (rsame_at cp1 m1 cc1 G1 cp2 m2 cc2 G2 cp3 m3 cc3 G3 cp4 m4 cc4 G4 sk2 st2 dp1 m1 dc1 G1 dp2 m2 dc2 G2 dp3 m3 dc3 G3 dp4 m4 dc4 G4 sk2 st2 v8 HK.out HK.out Sc8.out.2.1.1 Sc8.out.2.1.2.1 Sc8.out.2.1.2.2.1 Sc8.out.2.1.2.2.2 Sd8.out.2.1.1 Sd8.out.2.1.2.1 Sd8.out.2.1.2.2.1 Sd8.out.2.1.2.2.2)
  rw [eqS_self] at E1
  go_wp2_with fail
  refine (E1.out).mono ?_
  rintro e9 v9 ⟨rfl, b9⟩
  have A9 : Hid (Ab w v9) := A8.out.trans b9
  have R9 := hid (Ab.heap b9 R8.out)
  have Sm9 := hid (SeaIn.to Sm8.out b9 Lm.out)
  have Sa9 := hid (SeaIn.to Sa8.out b9 La.out)
  have Sb9 := hid (SeaIn.to Sb8.out b9 Lb.out)
  have Sc9 := hid (SeaIn.to Sc8.out b9 Lc.out)
  have Sd9 := hid (SeaIn.to Sd8.out b9 Ld.out)
  have Y9 : Hid (gd + 1 ≤ v9.heap.size) := Nat.le_trans Y8.out (Ab.size (show Ab v8 v9 from b9))
  clear b9 A8 R8 Sm8 Sa8 Sb8 Sc8 Sd8 Y8 x0 x1 x2 x3 x4 x5 y0 y1 y2 y3 y4 y5 E1
  have x0 := cell_of_row _ _ 0 _ _ _ Sm9.out.1
  have x1 := cell_of_row _ _ 1 _ _ _ Sm9.out.1
  have x2 := cell_of_row _ _ 2 _ _ _ Sm9.out.1
  have x3 := cell_of_row _ _ 3 _ _ _ Sm9.out.1
  have x4 := cell_of_row _ _ 4 _ _ _ Sm9.out.1
  have x5 := cell_of_row _ _ 5 _ _ _ Sm9.out.1
  have y0 := cell_of_row _ _ 0 _ _ _ R9.out
  have y1 := cell_of_row _ _ 1 _ _ _ R9.out
  have y2 := cell_of_row _ _ 2 _ _ _ R9.out
  have y3 := cell_of_row _ _ 3 _ _ _ R9.out
  have y4 := cell_of_row _ _ 4 _ _ _ R9.out
  have y5 := cell_of_row _ _ 5 _ _ _ R9.out
  have E1 := hid (rsame_at mp1 lb mc1 B mp2 lw mc2 W mp3 lt mc3 T mp4 ls mc4 S sky st pb lb cb B pw lw cw W pt lt ct T ps ls cs S sky st v9 HL.out HL.out Sm9.out.2.1.1 Sm9.out.2.1.2.1 Sm9.out.2.1.2.2.1 Sm9.out.2.1.2.2.2 (I1.out.below A9.out) (I2.out.below A9.out) (I3.out.below A9.out) (I4.out.below A9.out))
  rw [eqS_self] at E1
  go_wp2_with fail
  refine (E1.out).mono ?_
  rintro e9 v10 ⟨rfl, b10⟩
  have A10 : Hid (Ab w v10) := A9.out.trans b10
  have R10 := hid (Ab.heap b10 R9.out)
  have Sm10 := hid (SeaIn.to Sm9.out b10 Lm.out)
  have Sa10 := hid (SeaIn.to Sa9.out b10 La.out)
  have Sb10 := hid (SeaIn.to Sb9.out b10 Lb.out)
  have Sc10 := hid (SeaIn.to Sc9.out b10 Lc.out)
  have Sd10 := hid (SeaIn.to Sd9.out b10 Ld.out)
  have Y10 : Hid (gd + 1 ≤ v10.heap.size) := Nat.le_trans Y9.out (Ab.size (show Ab v9 v10 from b10))
  clear b10 A9 R9 Sm9 Sa9 Sb9 Sc9 Sd9 Y9 x0 x1 x2 x3 x4 x5 y0 y1 y2 y3 y4 y5 E1
  have x0 := cell_of_row _ _ 0 _ _ _ Sb10.out.1
  have x1 := cell_of_row _ _ 1 _ _ _ Sb10.out.1
  have x2 := cell_of_row _ _ 2 _ _ _ Sb10.out.1
  have x3 := cell_of_row _ _ 3 _ _ _ Sb10.out.1
  have x4 := cell_of_row _ _ 4 _ _ _ Sb10.out.1
  have x5 := cell_of_row _ _ 5 _ _ _ Sb10.out.1
  go_wp2_with fail
  refine (rcopy20 bp1 n1 bc1 F1 bp2 n2 bc2 F2 bp3 n3 bc3 F3 bp4 n4 bc4 F4 sk1 st1 v10 HT Sb10.out.2.1.1 Sb10.out.2.1.2.1 Sb10.out.2.1.2.2.1 Sb10.out.2.1.2.2.2).mono ?_
  rintro e9 u11 ⟨vv, rfl, b11, os⟩
  obtain ⟨kp1, kc1, kp2, kc2, kp3, kc3, kp4, kc4, rfl, sn⟩ := sea_new os BT.out
  have Lk : Hid (v10.heap.size ≤ u11.heap.size) := Ab.size (show Ab v10 u11 from b11)
  have BB : Hid (Ab v10 (u11.alloc (.cells #[.slice kp1 n1 kc1, .slice kp2 n2 kc2, .slice kp3 n3 kc3, .slice kp4 n4 kc4, .int .i64 sk1, .int .i64 st1] 33))) := (show Ab v10 u11 from b11).trans (bl1 _ _)
  have Sk11 := hid sn
  have Y11 : Hid (u11.heap.size + 1 ≤ (u11.alloc (.cells #[.slice kp1 n1 kc1, .slice kp2 n2 kc2, .slice kp3 n3 kc3, .slice kp4 n4 kc4, .int .i64 sk1, .int .i64 st1] 33)).heap.size) := by show _ ≤ (u11.heap.push _).size; simp
  clear os sn b11 x0 x1 x2 x3 x4 x5
  go_upto_region 13 with fail
  generalize hW : World.alloc u11 _ = v11 at *
  obtain ⟨gk, hg⟩ : ∃ g, u11.heap.size = g := ⟨_, rfl⟩
  rw [hg] at Sk11 Lk Y11 ⊢
  clear hg hW
  have A11 : Hid (Ab w v11) := A10.out.trans BB.out
  have R11 := hid (Ab.heap BB.out R10.out)
  have Sm11 := hid (SeaIn.to Sm10.out BB.out Lm.out)
  have Sa11 := hid (SeaIn.to Sa10.out BB.out La.out)
  have Sb11 := hid (SeaIn.to Sb10.out BB.out Lb.out)
  have Sc11 := hid (SeaIn.to Sc10.out BB.out Lc.out)
  have Sd11 := hid (SeaIn.to Sd10.out BB.out Ld.out)
  have Ok : Hid (gd + 1 ≤ v10.heap.size) := Y10.out
  have Wk : Hid (w.heap.size ≤ v10.heap.size) := Ab.size A10.out
  obtain ⟨Mk, hM⟩ : ∃ m, v10.heap.size = m := ⟨_, rfl⟩
  rw [hM] at Sk11 Lk Wk Ok
  clear hM
  clear BB A10 R10 Sm10 Sa10 Sb10 Sc10 Sd10 Y10
  have x0 := cell_of_row _ _ 0 _ _ _ Sd11.out.1
  have x1 := cell_of_row _ _ 1 _ _ _ Sd11.out.1
  have x2 := cell_of_row _ _ 2 _ _ _ Sd11.out.1
  have x3 := cell_of_row _ _ 3 _ _ _ Sd11.out.1
  have x4 := cell_of_row _ _ 4 _ _ _ Sd11.out.1
  have x5 := cell_of_row _ _ 5 _ _ _ Sd11.out.1
  go_wp2_with fail
  refine (rcopy20 dp1 m1 dc1 G1 dp2 m2 dc2 G2 dp3 m3 dc3 G3 dp4 m4 dc4 G4 sk2 st2 v11 HK Sd11.out.2.1.1 Sd11.out.2.1.2.1 Sd11.out.2.1.2.2.1 Sd11.out.2.1.2.2.2).mono ?_
  rintro e9 u12 ⟨vv, rfl, b12, os⟩
  obtain ⟨lp1, lc1, lp2, lc2, lp3, lc3, lp4, lc4, rfl, sn⟩ := sea_new os BL.out
  have Ll : Hid (v11.heap.size ≤ u12.heap.size) := Ab.size (show Ab v11 u12 from b12)
  have BB : Hid (Ab v11 (u12.alloc (.cells #[.slice lp1 m1 lc1, .slice lp2 m2 lc2, .slice lp3 m3 lc3, .slice lp4 m4 lc4, .int .i64 sk2, .int .i64 st2] 33))) := (show Ab v11 u12 from b12).trans (bl1 _ _)
  have Sl12 := hid sn
  have Y12 : Hid (u12.heap.size + 1 ≤ (u12.alloc (.cells #[.slice lp1 m1 lc1, .slice lp2 m2 lc2, .slice lp3 m3 lc3, .slice lp4 m4 lc4, .int .i64 sk2, .int .i64 st2] 33)).heap.size) := by show _ ≤ (u12.heap.push _).size; simp
  clear os sn b12 x0 x1 x2 x3 x4 x5
  go_upto_region 14 with fail
  generalize hW : World.alloc u12 _ = v12 at *
  obtain ⟨gl, hg⟩ : ∃ g, u12.heap.size = g := ⟨_, rfl⟩
  rw [hg] at Sl12 Ll Y12 ⊢
  clear hg hW
  have A12 : Hid (Ab w v12) := A11.out.trans BB.out
  have R12 := hid (Ab.heap BB.out R11.out)
  have Sm12 := hid (SeaIn.to Sm11.out BB.out Lm.out)
  have Sa12 := hid (SeaIn.to Sa11.out BB.out La.out)
  have Sb12 := hid (SeaIn.to Sb11.out BB.out Lb.out)
  have Sc12 := hid (SeaIn.to Sc11.out BB.out Lc.out)
  have Sd12 := hid (SeaIn.to Sd11.out BB.out Ld.out)
  have Sk12 := hid (SeaIn.to Sk11.out BB.out Lk.out)
  have Ol : Hid (gk + 1 ≤ v11.heap.size) := Y11.out
  have Wl : Hid (w.heap.size ≤ v11.heap.size) := Ab.size A11.out
  obtain ⟨Ml, hM⟩ : ∃ m, v11.heap.size = m := ⟨_, rfl⟩
  rw [hM] at Sl12 Ll Wl Ol
  clear hM
  clear BB A11 R11 Sm11 Sa11 Sb11 Sc11 Sd11 Sk11 Y11
  clear R12 Y12
  have z0 := cell_of_row _ _ 0 _ _ _ Sa12.out.1
  have z1 := cell_of_row _ _ 1 _ _ _ Sa12.out.1
  have z2 := cell_of_row _ _ 2 _ _ _ Sa12.out.1
  have z3 := cell_of_row _ _ 3 _ _ _ Sa12.out.1
  have z4 := cell_of_row _ _ 4 _ _ _ Sa12.out.1
  have z5 := cell_of_row _ _ 5 _ _ _ Sa12.out.1
  go_wp2_with fail
  refine (Sa12.out.spoil HT.out La.out).mono ?_
  rintro e9 v13 ⟨rfl, aq⟩
  have A13 : Hid (Ab w v13) := Rv.AbQ.ab aq A12.out (fun k hk q => by have h := Wa.out; omega)
  have Sm13 := hid (Sm12.out.q aq (fun k q => by have oa := Oa.out; have ob := Ob.out; have oc := Oc.out; have od := Od.out; have ok := Ok.out; have ol := Ol.out; have lm := Lm.out; have la := La.out; have lb := Lb.out; have lc := Lc.out; have ld := Ld.out; have lk := Lk.out; have ll := Ll.out; omega) Lm.out)
  have Sb13 := hid (Sb12.out.q aq (fun k q => by have oa := Oa.out; have ob := Ob.out; have oc := Oc.out; have od := Od.out; have ok := Ok.out; have ol := Ol.out; have lm := Lm.out; have la := La.out; have lb := Lb.out; have lc := Lc.out; have ld := Ld.out; have lk := Lk.out; have ll := Ll.out; omega) Lb.out)
  have Sc13 := hid (Sc12.out.q aq (fun k q => by have oa := Oa.out; have ob := Ob.out; have oc := Oc.out; have od := Od.out; have ok := Ok.out; have ol := Ol.out; have lm := Lm.out; have la := La.out; have lb := Lb.out; have lc := Lc.out; have ld := Ld.out; have lk := Lk.out; have ll := Ll.out; omega) Lc.out)
  have Sd13 := hid (Sd12.out.q aq (fun k q => by have oa := Oa.out; have ob := Ob.out; have oc := Oc.out; have od := Od.out; have ok := Ok.out; have ol := Ol.out; have lm := Lm.out; have la := La.out; have lb := Lb.out; have lc := Lc.out; have ld := Ld.out; have lk := Lk.out; have ll := Ll.out; omega) Ld.out)
  have Sk13 := hid (Sk12.out.q aq (fun k q => by have oa := Oa.out; have ob := Ob.out; have oc := Oc.out; have od := Od.out; have ok := Ok.out; have ol := Ol.out; have lm := Lm.out; have la := La.out; have lb := Lb.out; have lc := Lc.out; have ld := Ld.out; have lk := Lk.out; have ll := Ll.out; omega) Lk.out)
  have Sl13 := hid (Sl12.out.q aq (fun k q => by have oa := Oa.out; have ob := Ob.out; have oc := Oc.out; have od := Od.out; have ok := Ok.out; have ol := Ol.out; have lm := Lm.out; have la := La.out; have lb := Lb.out; have lc := Lc.out; have ld := Ld.out; have lk := Lk.out; have ll := Ll.out; omega) Ll.out)
  clear aq Sa12 A12 Sm12 Sb12 Sc12 Sd12 Sk12 Sl12 z0 z1 z2 z3 z4 z5
  have z0 := cell_of_row _ _ 0 _ _ _ Sc13.out.1
  have z1 := cell_of_row _ _ 1 _ _ _ Sc13.out.1
  have z2 := cell_of_row _ _ 2 _ _ _ Sc13.out.1
  have z3 := cell_of_row _ _ 3 _ _ _ Sc13.out.1
  have z4 := cell_of_row _ _ 4 _ _ _ Sc13.out.1
  have z5 := cell_of_row _ _ 5 _ _ _ Sc13.out.1
  go_wp2_with fail
  refine (Sc13.out.spoil HK.out Lc.out).mono ?_
  rintro e9 v14 ⟨rfl, aq⟩
  have A14 : Hid (Ab w v14) := Rv.AbQ.ab aq A13.out (fun k hk q => by have h := Wc.out; omega)
  have Sm14 := hid (Sm13.out.q aq (fun k q => by have oa := Oa.out; have ob := Ob.out; have oc := Oc.out; have od := Od.out; have ok := Ok.out; have ol := Ol.out; have lm := Lm.out; have la := La.out; have lb := Lb.out; have lc := Lc.out; have ld := Ld.out; have lk := Lk.out; have ll := Ll.out; omega) Lm.out)
  have Sb14 := hid (Sb13.out.q aq (fun k q => by have oa := Oa.out; have ob := Ob.out; have oc := Oc.out; have od := Od.out; have ok := Ok.out; have ol := Ol.out; have lm := Lm.out; have la := La.out; have lb := Lb.out; have lc := Lc.out; have ld := Ld.out; have lk := Lk.out; have ll := Ll.out; omega) Lb.out)
  have Sd14 := hid (Sd13.out.q aq (fun k q => by have oa := Oa.out; have ob := Ob.out; have oc := Oc.out; have od := Od.out; have ok := Ok.out; have ol := Ol.out; have lm := Lm.out; have la := La.out; have lb := Lb.out; have lc := Lc.out; have ld := Ld.out; have lk := Lk.out; have ll := Ll.out; omega) Ld.out)
  have Sk14 := hid (Sk13.out.q aq (fun k q => by have oa := Oa.out; have ob := Ob.out; have oc := Oc.out; have od := Od.out; have ok := Ok.out; have ol := Ol.out; have lm := Lm.out; have la := La.out; have lb := Lb.out; have lc := Lc.out; have ld := Ld.out; have lk := Lk.out; have ll := Ll.out; omega) Lk.out)
  have Sl14 := hid (Sl13.out.q aq (fun k q => by have oa := Oa.out; have ob := Ob.out; have oc := Oc.out; have od := Od.out; have ok := Ok.out; have ol := Ol.out; have lm := Lm.out; have la := La.out; have lb := Lb.out; have lc := Lc.out; have ld := Ld.out; have lk := Lk.out; have ll := Ll.out; omega) Ll.out)
  clear aq Sc13 A13 Sm13 Sb13 Sd13 Sk13 Sl13 z0 z1 z2 z3 z4 z5
  have z0 := cell_of_row _ _ 0 _ _ _ Sm14.out.1
  have z1 := cell_of_row _ _ 1 _ _ _ Sm14.out.1
  have z2 := cell_of_row _ _ 2 _ _ _ Sm14.out.1
  have z3 := cell_of_row _ _ 3 _ _ _ Sm14.out.1
  have z4 := cell_of_row _ _ 4 _ _ _ Sm14.out.1
  have z5 := cell_of_row _ _ 5 _ _ _ Sm14.out.1
  go_wp2_with fail
  refine (Sm14.out.spoil HL.out Lm.out).mono ?_
  rintro e9 v15 ⟨rfl, aq⟩
  have A15 : Hid (Ab w v15) := Rv.AbQ.ab aq A14.out (fun k hk q => by have h := Wm.out; omega)
  have Sb15 := hid (Sb14.out.q aq (fun k q => by have oa := Oa.out; have ob := Ob.out; have oc := Oc.out; have od := Od.out; have ok := Ok.out; have ol := Ol.out; have lm := Lm.out; have la := La.out; have lb := Lb.out; have lc := Lc.out; have ld := Ld.out; have lk := Lk.out; have ll := Ll.out; omega) Lb.out)
  have Sd15 := hid (Sd14.out.q aq (fun k q => by have oa := Oa.out; have ob := Ob.out; have oc := Oc.out; have od := Od.out; have ok := Ok.out; have ol := Ol.out; have lm := Lm.out; have la := La.out; have lb := Lb.out; have lc := Lc.out; have ld := Ld.out; have lk := Lk.out; have ll := Ll.out; omega) Ld.out)
  have Sk15 := hid (Sk14.out.q aq (fun k q => by have oa := Oa.out; have ob := Ob.out; have oc := Oc.out; have od := Od.out; have ok := Ok.out; have ol := Ol.out; have lm := Lm.out; have la := La.out; have lb := Lb.out; have lc := Lc.out; have ld := Ld.out; have lk := Lk.out; have ll := Ll.out; omega) Lk.out)
  have Sl15 := hid (Sl14.out.q aq (fun k q => by have oa := Oa.out; have ob := Ob.out; have oc := Oc.out; have od := Od.out; have ok := Ok.out; have ol := Ol.out; have lm := Lm.out; have la := La.out; have lb := Lb.out; have lc := Lc.out; have ld := Ld.out; have lk := Lk.out; have ll := Ll.out; omega) Ll.out)
  clear aq Sm14 A14 Sb14 Sd14 Sk14 Sl14 z0 z1 z2 z3 z4 z5
  have x0 := cell_of_row _ _ 0 _ _ _ Sb15.out.1
  have x1 := cell_of_row _ _ 1 _ _ _ Sb15.out.1
  have x2 := cell_of_row _ _ 2 _ _ _ Sb15.out.1
  have x3 := cell_of_row _ _ 3 _ _ _ Sb15.out.1
  have x4 := cell_of_row _ _ 4 _ _ _ Sb15.out.1
  have x5 := cell_of_row _ _ 5 _ _ _ Sb15.out.1
  have y0 := cell_of_row _ _ 0 _ _ _ Sk15.out.1
  have y1 := cell_of_row _ _ 1 _ _ _ Sk15.out.1
  have y2 := cell_of_row _ _ 2 _ _ _ Sk15.out.1
  have y3 := cell_of_row _ _ 3 _ _ _ Sk15.out.1
  have y4 := cell_of_row _ _ 4 _ _ _ Sk15.out.1
  have y5 := cell_of_row _ _ 5 _ _ _ Sk15.out.1
  have E1 := hid (rsame_at bp1 n1 bc1 F1 bp2 n2 bc2 F2 bp3 n3 bc3 F3 bp4 n4 bc4 F4 sk1 st1 kp1 n1 kc1 F1 kp2 n2 kc2 F2 kp3 n3 kc3 F3 kp4 n4 kc4 F4 sk1 st1 v15 HT.out HT.out Sb15.out.2.1.1 Sb15.out.2.1.2.1 Sb15.out.2.1.2.2.1 Sb15.out.2.1.2.2.2 Sk15.out.2.1.1 Sk15.out.2.1.2.1 Sk15.out.2.1.2.2.1 Sk15.out.2.1.2.2.2)
  rw [eqS_self] at E1
  go_wp2_with fail
  refine E1.out.mono ?_
  rintro e9 v16 ⟨rfl, b16⟩
  have A16 : Hid (Ab w v16) := A15.out.trans b16
  have Sb16 := hid (SeaIn.to Sb15.out b16 Lb.out)
  have Sd16 := hid (SeaIn.to Sd15.out b16 Ld.out)
  have Sk16 := hid (SeaIn.to Sk15.out b16 Lk.out)
  have Sl16 := hid (SeaIn.to Sl15.out b16 Ll.out)
  clear b16 A15 E1 x0 x1 x2 x3 x4 x5 y0 y1 y2 y3 y4 y5 Sb15 Sd15 Sk15 Sl15
  have x0 := cell_of_row _ _ 0 _ _ _ Sd16.out.1
  have x1 := cell_of_row _ _ 1 _ _ _ Sd16.out.1
  have x2 := cell_of_row _ _ 2 _ _ _ Sd16.out.1
  have x3 := cell_of_row _ _ 3 _ _ _ Sd16.out.1
  have x4 := cell_of_row _ _ 4 _ _ _ Sd16.out.1
  have x5 := cell_of_row _ _ 5 _ _ _ Sd16.out.1
  have y0 := cell_of_row _ _ 0 _ _ _ Sl16.out.1
  have y1 := cell_of_row _ _ 1 _ _ _ Sl16.out.1
  have y2 := cell_of_row _ _ 2 _ _ _ Sl16.out.1
  have y3 := cell_of_row _ _ 3 _ _ _ Sl16.out.1
  have y4 := cell_of_row _ _ 4 _ _ _ Sl16.out.1
  have y5 := cell_of_row _ _ 5 _ _ _ Sl16.out.1
  have E1 := hid (rsame_at dp1 m1 dc1 G1 dp2 m2 dc2 G2 dp3 m3 dc3 G3 dp4 m4 dc4 G4 sk2 st2 lp1 m1 lc1 G1 lp2 m2 lc2 G2 lp3 m3 lc3 G3 lp4 m4 lc4 G4 sk2 st2 v16 HK.out HK.out Sd16.out.2.1.1 Sd16.out.2.1.2.1 Sd16.out.2.1.2.2.1 Sd16.out.2.1.2.2.2 Sl16.out.2.1.1 Sl16.out.2.1.2.1 Sl16.out.2.1.2.2.1 Sl16.out.2.1.2.2.2)
  rw [eqS_self] at E1
  go_wp2_with fail
  refine E1.out.mono ?_
  rintro e9 v17 ⟨rfl, b17⟩
  have A17 : Hid (Ab w v17) := A16.out.trans b17
  have Sb17 := hid (SeaIn.to Sb16.out b17 Lb.out)
  have Sd17 := hid (SeaIn.to Sd16.out b17 Ld.out)
  have Sk17 := hid (SeaIn.to Sk16.out b17 Lk.out)
  have Sl17 := hid (SeaIn.to Sl16.out b17 Ll.out)
  clear b17 A16 E1 x0 x1 x2 x3 x4 x5 y0 y1 y2 y3 y4 y5 Sb16 Sd16 Sk16 Sl16
  go_wp2
  go_ret
  exact ⟨rfl, A17.out⟩
theorem bnd_zero : Bnd 0 0 0 0 (fun _ => 0) (fun _ => 0) (fun _ => 0) (fun _ => 0) := ⟨fun _ h => by omega, fun _ h => by omega, fun _ h => by omega, fun _ h => by omega⟩
theorem sumN_ge {W : Nat → Int} {n i : Nat} (h : ∀ j, j < n → 0 ≤ W j) (hi : i < n) : 0 ≤ Sh.sumN W n ∧ W i ≤ Sh.sumN W n := by
  have nn : ∀ m, m ≤ n → 0 ≤ Sh.sumN W m := fun m hm => by
    induction m with
    | zero => exact Int.le_refl _
    | succ m ih =>
      have := ih (by omega)
      have := h m (by omega)
      show 0 ≤ Sh.sumN W m + W m
      omega
  have ge : ∀ m, m ≤ n → i < m → W i ≤ Sh.sumN W m := fun m hm => by
    induction m with
    | zero => omega
    | succ m ih =>
      intro q
      show W i ≤ Sh.sumN W m + W m
      by_cases e : i = m
      · subst e
        have := nn i (by omega)
        omega
      · have := ih (by omega) (by omega)
        have := h m (by omega)
        omega
  exact ⟨nn n (Nat.le_refl _), ge n (Nat.le_refl _) hi⟩
theorem side_sq {side : Int} (h : 1 ≤ side ∧ side ≤ 32) : 1 ≤ side.toNat ∧ 6 * side.toNat * side.toNat ≤ 6144 := by
  have a : side.toNat ≤ 32 := by omega
  have b := Nat.mul_le_mul (Nat.mul_le_mul (Nat.le_refl 6) a) a
  exact ⟨by omega, by omega⟩
theorem bnd_lake {side : Int} {lb : Nat} {B : Nat → Nat} {l : Nat} (h : lkE side lb B l = 0) (hB : ∀ i, i < lb → B i < 18446744073709551616) : Bnd lb lb lb (2 * lb) B (lkW side.toNat B l) (fun _ => 0) (fun _ => 0) ∧ (lb ≤ 131072 ∧ lb ≤ 131072 ∧ lb ≤ 131072 ∧ 2 * lb ≤ 131072) := by
  obtain ⟨h1, h2, h3⟩ := lake_ok h
  have q := side_sq h1
  obtain ⟨-, -, ⟨w1, w2⟩, -⟩ := h3
  refine ⟨⟨hB, fun i hi => ?_, fun i _ => ?_, fun i _ => ?_⟩, by omega⟩
  · rw [h2] at hi
    have g := sumN_ge w1 hi
    have g0 := w1 i hi
    unfold Sh.W64
    omega
  · unfold Sh.W64; (try dsimp only); omega
  · (try dsimp only); omega
theorem tuE_ok {side : Int} {lb lw lt ls : Nat} {B : Nat → Nat} {W T : Nat → Int} {S : Nat → Nat} {sky st turn : Int} (h : tuE side lb lw lt ls B W T S sky st turn = 0) : (1 ≤ side ∧ side ≤ 32) ∧ (lb = 6 * side.toNat * side.toNat ∧ lw = 6 * side.toNat * side.toNat ∧ lt = 6 * side.toNat * side.toNat ∧ ls = 2 * (6 * side.toNat * side.toNat)) ∧ okN (6 * side.toNat * side.toNat) B W T S sky st := by
  have c : (chk side lb lw lt ls B W T S sky st).2 = 0 := by
    unfold tuE at h
    by_cases q : (chk side lb lw lt ls B W T S sky st).2 = 0
    · exact q
    · rw [if_pos q] at h
      exact absurd h q
  unfold chk at c
  by_cases q : 1 ≤ side ∧ side ≤ 32
  · rw [if_pos q] at c
    obtain ⟨a, b⟩ := chN_ok.1 c
    exact ⟨q, a, b⟩
  · rw [if_neg q] at c
    exact absurd c (by decide)
theorem bnd_turn {side : Int} {lb lw lt ls t : Nat} {B : Nat → Nat} {W T : Nat → Int} {S : Nat → Nat} {sky st : Int} (ht : t < 24) (h : tuE side lb lw lt ls B W T S sky st (t : Nat) = 0) (hb : Bnd lb lw lt ls B W T S) : Bnd lb lw lt ls (tuC side.toNat ((t : Nat) : Int).toNat B) (tuC side.toNat ((t : Nat) : Int).toNat W) (tuC side.toNat ((t : Nat) : Int).toNat T) (tuS side.toNat ((t : Nat) : Int).toNat S) := by
  obtain ⟨h1, ⟨rfl, rfl, rfl, rfl⟩, h3⟩ := tuE_ok h
  have q := (side_sq h1).1
  rw [Int.toNat_natCast]
  have i := (inv_tab t ht).1
  have e2 : 2 * (6 * side.toNat * side.toNat) = 12 * side.toNat * side.toNat := by rw [Nat.mul_assoc, Nat.mul_assoc]; omega
  refine ⟨fun c hc => hb.1 _ (tn_in q i hc), fun c hc => hb.2.1 _ (tn_in q i hc), fun c hc => hb.2.2.1 _ (tn_in q i hc), fun e he => ?_⟩
  have cn : ∀ e, e < 12 * side.toNat * side.toNat → cnF (S e) := fun e he => bS_cn (hb.2.2.2 e (by omega)) (h3.2.2.2.2.1 e (by omega))
  exact (tuS_cn q ht cn (e := e) (by omega)).1
/-- SEAS AND BEDS STAY, WHAT IS ANSWERED IS NEW -/
theorem skeeps_at (PC : PlanC) (CC : CheckC) (SC : SameC) (YC : CopyC) (TC : TurnedC) (LC : LakeC) (side : Int) {pb : Option Addr} {lb cb : Nat} {B : Nat → Nat} {pw : Option Addr} {lw cw : Nat} {W : Nat → Int} {pt : Option Addr} {lt ct : Nat} {T : Nat → Int} {ps : Option Addr} {ls cs : Nat} {S : Nat → Nat} {sky st : Int} (turn : Int) (w : World) (hF : Fr w) (h1 : Sh.W64 side) (h2 : Sh.W64 sky) (h3 : Sh.W64 st) (hl : lb ≤ 281474976710656 ∧ lw ≤ 281474976710656 ∧ lt ≤ 281474976710656 ∧ ls ≤ 281474976710656) (i1 : IsFl w pb lb B) (i2 : Sh.IsI w pw lw W) (i3 : Sh.IsI w pt lt T) (i4 : IsFl w ps ls S) :
    Calls Tryz.prog 8 #[.int .i64 side, .agg #[.slice pb lb cb, .slice pw lw cw, .slice pt lt ct, .slice ps ls cs, .int .i64 sky, .int .i64 st], .int .i64 turn] w fun e w' => e = .returned (.bool true) ∧ Below w.heap.size w w' := by
  have LV : Hid (∀ v, Ab w v → Calls Tryz.prog 9 #[] v fun e w' => e = .returned (.bool true) ∧ Below v.heap.size v w') := fun v a => awake20_at PC CC SC YC TC LC v (hF.to a)
  have WA := fun v => wide20_at pb lb cb pw lw cw pt lt ct ps ls cs sky st v hl
  by_cases h : 131072 < lb + lw + lt + ls
  · rw [decide_eq_true h] at WA
    exact skeeps_w side pb lb cb pw lw cw pt lt ct ps ls cs sky st turn w LV WA
  · rw [decide_eq_false h] at WA
    have le : (lb ≤ 131072 ∧ lw ≤ 131072 ∧ lt ≤ 131072 ∧ ls ≤ 131072) := by omega
    have bm : Bnd lb lw lt ls B W T S := ⟨fun i hi => (i1 i hi).1, fun i hi => (i2 i hi).1, fun i hi => (i3 i hi).1, fun i hi => (i4 i hi).1⟩
    obtain ⟨y1, hy1⟩ : ∃ y, turn % 18446744073709551616 = y := ⟨_, rfl⟩
    have y0 : 0 ≤ y1 ∧ y1 < 18446744073709551616 := by omega
    obtain ⟨t, ht⟩ : ∃ c : Nat, y1 % 24 = c := ⟨(y1 % 24).toNat, by omega⟩
    have lt24 : t < 24 := by omega
    have ew : IntKind.u64.wrap turn = y1 := by rw [IntKind.wrap_u64, hy1]
    have et : y1.tmod 24 = t := by rw [Int.tmod_eq_emod_of_nonneg y0.1, ht]
    have w3 : Sh.W64 ((t : Nat) : Int) := by unfold Sh.W64; omega
    have HT : ∃ (te : Int) (n1 n2 n3 n4 : Nat) (F1 : Nat → Nat) (F2 F3 : Nat → Int) (F4 : Nat → Nat) (sk1 st1 : Int), Bnd n1 n2 n3 n4 F1 F2 F3 F4 ∧ (n1 ≤ 131072 ∧ n2 ≤ 131072 ∧ n3 ≤ 131072 ∧ n4 ≤ 131072) ∧ (∀ v p1 c1 p2 c2 p3 c3 p4 c4, Ab w v → IsFl v p1 lb B → Sh.IsI v p2 lw W → Sh.IsI v p3 lt T → IsFl v p4 ls S → Calls Tryz.prog 19 #[.int .i64 side, .agg #[.slice p1 lb c1, .slice p2 lw c2, .slice p3 lt c3, .slice p4 ls c4, .int .i64 sky, .int .i64 st], .int .i64 (t : Nat)] v fun e w' => ∃ vv, e = .returned (.tuple #[vv, .int .i64 te]) ∧ Below v.heap.size v w' ∧ OwnS v.heap.size vv n1 n2 n3 n4 F1 F2 F3 F4 sk1 st1 w') := by
      by_cases q : tuE side lb lw lt ls B W T S sky st (t : Nat) = 0
      · exact ⟨0, lb, lw, lt, ls, _, _, _, _, sky, st, bnd_turn lt24 q bm, le, fun v p1 c1 p2 c2 p3 c3 p4 c4 a k1 k2 k3 k4 => (TC side p1 lb c1 B p2 lw c2 W p3 lt c3 T p4 ls c4 S sky st (t : Nat) v (hF.to a) h1 h2 h3 w3 le k1 k2 k3 k4).1 q⟩
      · exact ⟨tuE side lb lw lt ls B W T S sky st (t : Nat), 0, 0, 0, 0, fun _ => 0, fun _ => 0, fun _ => 0, fun _ => 0, 0, 0, bnd_zero, by omega, fun v p1 c1 p2 c2 p3 c3 p4 c4 a k1 k2 k3 k4 => ((TC side p1 lb c1 B p2 lw c2 W p3 lt c3 T p4 ls c4 S sky st (t : Nat) v (hF.to a) h1 h2 h3 w3 le k1 k2 k3 k4).2 q).mono fun e w' k => ⟨_, k.1, k.2, own_zero _ _⟩⟩
    have HK : ∃ (te : Int) (n1 n2 n3 n4 : Nat) (F1 : Nat → Nat) (F2 F3 : Nat → Int) (F4 : Nat → Nat) (sk1 st1 : Int), Bnd n1 n2 n3 n4 F1 F2 F3 F4 ∧ (n1 ≤ 131072 ∧ n2 ≤ 131072 ∧ n3 ≤ 131072 ∧ n4 ≤ 131072) ∧ (∀ v p1 c1, Ab w v → IsFl v p1 lb B → Calls Tryz.prog 21 #[.int .i64 side, .slice p1 lb c1, .float .f64 4602678819172646912] v fun e w' => ∃ vv, e = .returned (.tuple #[vv, .int .i64 te]) ∧ Below v.heap.size v w' ∧ OwnS v.heap.size vv n1 n2 n3 n4 F1 F2 F3 F4 sk1 st1 w') := by
      by_cases q : lkE side lb B 4602678819172646912 = 0
      · have z := bnd_lake q bm.1
        exact ⟨0, lb, lb, lb, 2 * lb, _, _, _, _, 0, 0, z.1, z.2, fun v p1 c1 a k1 => (LC side p1 lb c1 B 4602678819172646912 v (hF.to a) h1 le.1 (by omega) k1).1 q⟩
      · exact ⟨lkE side lb B 4602678819172646912, 0, 0, 0, 0, fun _ => 0, fun _ => 0, fun _ => 0, fun _ => 0, 0, 0, bnd_zero, by omega, fun v p1 c1 a k1 => ((LC side p1 lb c1 B 4602678819172646912 v (hF.to a) h1 le.1 (by omega) k1).2 q).mono fun e w' k => ⟨_, k.1, k.2, own_zero _ _⟩⟩
    obtain ⟨te, n1, n2, n3, n4, F1, F2, F3, F4, sk1, st1, bt, ltt, TT⟩ := HT
    obtain ⟨ke, m1, m2, m3, m4, G1, G2, G3, G4, sk2, st2, bl, llt, LK⟩ := HK
    exact skeeps_go side pb lb cb B pw lw cw W pt lt ct T ps ls cs S sky st turn y1 t te ke n1 n2 n3 n4 F1 F2 F3 F4 sk1 st1 m1 m2 m3 m4 G1 G2 G3 G4 sk2 st2 w LV WA ew y0 et (by omega) TT LK le ltt llt bm bt bl i1 i2 i3 i4
end Ss
end Go.Proofs.YtdigecacmibkpaaGreatDoor

namespace Go.Proofs.YtdigecacmibkpaaGreatDoor
open Go.ChangeShapes Go.WideShapes Go.ChangeAt Go.WideMaps Go.WideElems Go.RowKit Go.Deep
namespace Sh
theorem trod_int {H : Type} {enc : TypeId × Value → H} {P : Program} {w : World} {base : Nat} {spare : Nat → Bool} {held : Bool} {t : TypeId} {fuel : Nat} {v : Value} {x : DataW H × List MemPlace} (ht : P.underlying t = some (.int .i64)) (h : DataW.trod enc P w base spare held fuel t [v] = some x) :
    ∃ b, v = .int .i64 b ∧ (-9223372036854775808 ≤ b ∧ b ≤ 9223372036854775807) := by
  obtain ⟨k, e, _, wf⟩ := DataW.trod_int ht h
  simp at e
  simp only [Lit.wf, Bool.and_eq_true, decide_eq_true_eq] at wf
  have q1 : IntKind.i64.min = -9223372036854775808 := by decide
  have q2 : IntKind.i64.max = 9223372036854775807 := by decide
  rw [q1, q2] at wf
  exact ⟨k, e, wf⟩
theorem cell_block {w : World} {a : Addr} {v : Value} (h : w.cell? a = some v) : a.block < w.heap.size := by
  by_cases c : a.block < w.heap.size
  · exact c
  · exfalso
    have : w.heap[a.block]? = none := by simp; omega
    simp [World.cell?, this] at h
theorem pick_fn {α : Type} {n : Nat} {R : Nat → α → Prop} (d : α) (h : ∀ i, i < n → ∃ x, R i x) : ∃ f : Nat → α, ∀ i, i < n → R i (f i) := by
  have : ∀ i, ∃ x, i < n → R i x := fun i => by
    by_cases c : i < n
    · obtain ⟨x, h1⟩ := h i c
      exact ⟨x, fun _ => h1⟩
    · exact ⟨d, fun h => absurd h c⟩
  exact ⟨fun i => (this i).choose, fun i hi => (this i).choose_spec hi⟩
theorem list_open {H : Type} {enc : TypeId × Value → H} {W : World} {cs : List Value} {fuel : Nat} {x : DataW H × List MemPlace}
    (hf : DataW.trod enc Tryz.prog W 0 (fun _ => true) true fuel 31 cs = some x) : ∃ a0 len cap xs, cs = [.slice a0 len cap] ∧ IsI W a0 len xs ∧ len ≤ cap ∧ cap ≤ maxLen := by
  rcases open_slice1 Tryz.underlying31 (by kernel_rfl) hf with ⟨hcs, _⟩ | ⟨a, l, c, m, n, V, D, Pl, hcs, _, hl, hm, hmm, _, hx⟩
  · exact ⟨none, 0, 0, fun _ => 0, hcs, fun k hk => by omega, Nat.le_refl _, Nat.zero_le _⟩
  · simp only [if_true] at hmm
    have each : ∀ i, i < l → ∃ x : Int, W.cell? (a.add i) = some (.int .i64 x) ∧ (-9223372036854775808 ≤ x ∧ x ≤ 9223372036854775807) := by
      intro i hi
      obtain ⟨h1, h2⟩ := hx i (by omega)
      obtain ⟨x, e, wx⟩ := trod_int Tryz.underlying2 h2
      rw [e] at h1
      exact ⟨x, h1, wx⟩
    obtain ⟨f, hf⟩ := pick_fn 0 each
    refine ⟨some a, l, c, f, hcs, fun k hk => ⟨(hf k hk).2, ?_⟩, hl, hm⟩
    have h0 := (hf k hk).1
    have z := (hf 0 (by omega)).1
    obtain ⟨b, off, spot⟩ := a
    have hspot : spot = none := by simpa [Addr.add] using World.cell?_spot z
    subst hspot
    rw [add_off] at h0
    exact ⟨b, off, rfl, cell_block h0, h0⟩
end Sh
end Go.Proofs.YtdigecacmibkpaaGreatDoor

namespace Go.Proofs.YtdigecacmibkpaaGreatDoor
open Go.RowKit Go.Deep
namespace Sh
theorem lit_w {x : Int} (h : (Lit.int .i64 x).wf = true) : -9223372036854775808 ≤ x ∧ x ≤ 9223372036854775807 := by
  simp only [Lit.wf, Bool.and_eq_true, decide_eq_true_eq] at h
  have q1 : IntKind.i64.min = -9223372036854775808 := by decide
  have q2 : IntKind.i64.max = 9223372036854775807 := by decide
  omega
end Sh
end Go.Proofs.YtdigecacmibkpaaGreatDoor
