/-
  Some of the texts of this proof, one behind the other.
-/
import Derived.Deep.QuietTactic
import Derived.Test.YtdigecacmibkpaaGreatDoorSq16
set_option maxRecDepth 100000
set_option maxHeartbeats 400000000
namespace Go.Proofs.YtdigecacmibkpaaGreatDoor
open Go.RowKit Tf Cu Go.Deep
attribute [local go_sem] run_bits run_from raw_feq raw_fne raw_flt raw_fgt run_neg run_store_float
namespace Ss
theorem rsame_0 (pb : Option Addr) (lb cb : Nat) (B : Nat -> Nat) (pw : Option Addr) (lw cw : Nat) (_W : Nat -> Int) (pt : Option Addr) (lt ct : Nat) (_T : Nat -> Int) (ps : Option Addr) (ls cs : Nat) (_S : Nat -> Nat) (sky st : Int) (pb' : Option Addr) (lb' cb' : Nat) (B' : Nat -> Nat) (pw' : Option Addr) (lw' cw' : Nat) (_W' : Nat -> Int) (pt' : Option Addr) (lt' ct' : Nat) (_T' : Nat -> Int) (ps' : Option Addr) (ls' cs' : Nat) (_S' : Nat -> Nat) (sky' st' : Int) (w : World) (HL : Hid ((lb <= 131072 /\ lw <= 131072 /\ lt <= 131072 /\ ls <= 131072) /\ (lb' <= 131072 /\ lw' <= 131072 /\ lt' <= 131072 /\ ls' <= 131072))) (I1 : Hid (IsFl w pb lb B)) (J1 : Hid (IsFl w pb' lb' B')) (h0 : eqL lb lb' B B' = false) :
    Calls Tryz.prog 16 #[.agg #[.slice pb lb cb, .slice pw lw cw, .slice pt lt ct, .slice ps ls cs, .int .i64 sky, .int .i64 st], .agg #[.slice pb' lb' cb', .slice pw' lw' cw', .slice pt' lt' ct', .slice ps' ls' cs', .int .i64 sky', .int .i64 st']] w fun e w' => e = .returned (.bool false) /\ Below w.heap.size w w' := by
  have H0 := hid h0
  clear h0
  have A0 : Hid (Ab w ((w.alloc (.cells #[.slice pb lb cb, .slice pw lw cw, .slice pt lt ct, .slice ps ls cs, .int .i64 sky, .int .i64 st] 33)).alloc (.cells #[.slice pb' lb' cb', .slice pw' lw' cw', .slice pt' lt' ct', .slice ps' ls' cs', .int .i64 sky', .int .i64 st'] 33))) := bl2 _ _ _
  have R0 : Hid (((w.alloc (.cells #[.slice pb lb cb, .slice pw lw cw, .slice pt lt ct, .slice ps ls cs, .int .i64 sky, .int .i64 st] 33)).alloc (.cells #[.slice pb' lb' cb', .slice pw' lw' cw', .slice pt' lt' ct', .slice ps' ls' cs', .int .i64 sky', .int .i64 st'] 33)).heap[w.heap.size]? = some (.cells #[.slice pb lb cb, .slice pw lw cw, .slice pt lt ct, .slice ps ls cs, .int .i64 sky, .int .i64 st] 33)) := heap_alloc2_old _ _ _
  have Q0 : Hid (((w.alloc (.cells #[.slice pb lb cb, .slice pw lw cw, .slice pt lt ct, .slice ps ls cs, .int .i64 sky, .int .i64 st] 33)).alloc (.cells #[.slice pb' lb' cb', .slice pw' lw' cw', .slice pt' lt' ct', .slice ps' ls' cs', .int .i64 sky', .int .i64 st'] 33)).heap[w.heap.size + 1]? = some (.cells #[.slice pb' lb' cb', .slice pw' lw' cw', .slice pt' lt' ct', .slice ps' ls' cs', .int .i64 sky', .int .i64 st'] 33)) := heap_alloc2_new _ _ _
  go_enter Tryz.func16, Tryz.ntmps16
  go_upto_region 1 with fail
  generalize hW : World.alloc (World.alloc w _) _ = v0 at *
  obtain ⟨ga, hga⟩ : ∃ g, w.heap.size = g := ⟨_, rfl⟩
  obtain ⟨gq, hgq⟩ : ∃ g, w.heap.size + 1 = g := ⟨_, rfl⟩
  rw [hgq] at Q0 ⊢
  rw [hga] at R0 ⊢
  clear hga hgq hW
  have x0 := cell_of_row _ _ 0 _ _ _ R0.out
  have x1 := cell_of_row _ _ 1 _ _ _ R0.out
  have x2 := cell_of_row _ _ 2 _ _ _ R0.out
  have x3 := cell_of_row _ _ 3 _ _ _ R0.out
  have x4 := cell_of_row _ _ 4 _ _ _ R0.out
  have x5 := cell_of_row _ _ 5 _ _ _ R0.out
  have y0 := cell_of_row _ _ 0 _ _ _ Q0.out
  have y1 := cell_of_row _ _ 1 _ _ _ Q0.out
  have y2 := cell_of_row _ _ 2 _ _ _ Q0.out
  have y3 := cell_of_row _ _ 3 _ _ _ Q0.out
  have y4 := cell_of_row _ _ 4 _ _ _ Q0.out
  have y5 := cell_of_row _ _ 5 _ _ _ Q0.out
  have CC := hid (rall20 pb pb' lb cb lb' cb' B B' v0 HL.out.1.1 HL.out.2.1 (I1.out.below A0.out) (J1.out.below A0.out))
  rw [H0.out] at CC
  go_wp2_with fail
  refine CC.out.mono ?_
  rintro e9 v1 ⟨rfl, k9⟩
  have B1 : Hid (Ab v0 v1) := k9
  have A1 : Hid (Ab w v1) := A0.out.trans B1.out
  clear k9 CC x0 x1 x2 x3 x4 x5 y0 y1 y2 y3 y4 y5
  go_wp2
  go_ret
  exact ⟨rfl, A1.out⟩
theorem rsame_1 (pb : Option Addr) (lb cb : Nat) (B : Nat -> Nat) (pw : Option Addr) (lw cw : Nat) (W : Nat -> Int) (pt : Option Addr) (lt ct : Nat) (_T : Nat -> Int) (ps : Option Addr) (ls cs : Nat) (_S : Nat -> Nat) (sky st : Int) (pb' : Option Addr) (lb' cb' : Nat) (B' : Nat -> Nat) (pw' : Option Addr) (lw' cw' : Nat) (W' : Nat -> Int) (pt' : Option Addr) (lt' ct' : Nat) (_T' : Nat -> Int) (ps' : Option Addr) (ls' cs' : Nat) (_S' : Nat -> Nat) (sky' st' : Int) (w : World) (HL : Hid ((lb <= 131072 /\ lw <= 131072 /\ lt <= 131072 /\ ls <= 131072) /\ (lb' <= 131072 /\ lw' <= 131072 /\ lt' <= 131072 /\ ls' <= 131072))) (I1 : Hid (IsFl w pb lb B)) (I2 : Hid (Sh.IsI w pw lw W)) (J1 : Hid (IsFl w pb' lb' B')) (J2 : Hid (Sh.IsI w pw' lw' W')) (h0 : eqL lb lb' B B' = true) (h1 : eqL lw lw' W W' = false) :
    Calls Tryz.prog 16 #[.agg #[.slice pb lb cb, .slice pw lw cw, .slice pt lt ct, .slice ps ls cs, .int .i64 sky, .int .i64 st], .agg #[.slice pb' lb' cb', .slice pw' lw' cw', .slice pt' lt' ct', .slice ps' ls' cs', .int .i64 sky', .int .i64 st']] w fun e w' => e = .returned (.bool false) /\ Below w.heap.size w w' := by
  have H0 := hid h0
  have H1 := hid h1
  clear h0 h1
  have A0 : Hid (Ab w ((w.alloc (.cells #[.slice pb lb cb, .slice pw lw cw, .slice pt lt ct, .slice ps ls cs, .int .i64 sky, .int .i64 st] 33)).alloc (.cells #[.slice pb' lb' cb', .slice pw' lw' cw', .slice pt' lt' ct', .slice ps' ls' cs', .int .i64 sky', .int .i64 st'] 33))) := bl2 _ _ _
  have R0 : Hid (((w.alloc (.cells #[.slice pb lb cb, .slice pw lw cw, .slice pt lt ct, .slice ps ls cs, .int .i64 sky, .int .i64 st] 33)).alloc (.cells #[.slice pb' lb' cb', .slice pw' lw' cw', .slice pt' lt' ct', .slice ps' ls' cs', .int .i64 sky', .int .i64 st'] 33)).heap[w.heap.size]? = some (.cells #[.slice pb lb cb, .slice pw lw cw, .slice pt lt ct, .slice ps ls cs, .int .i64 sky, .int .i64 st] 33)) := heap_alloc2_old _ _ _
  have Q0 : Hid (((w.alloc (.cells #[.slice pb lb cb, .slice pw lw cw, .slice pt lt ct, .slice ps ls cs, .int .i64 sky, .int .i64 st] 33)).alloc (.cells #[.slice pb' lb' cb', .slice pw' lw' cw', .slice pt' lt' ct', .slice ps' ls' cs', .int .i64 sky', .int .i64 st'] 33)).heap[w.heap.size + 1]? = some (.cells #[.slice pb' lb' cb', .slice pw' lw' cw', .slice pt' lt' ct', .slice ps' ls' cs', .int .i64 sky', .int .i64 st'] 33)) := heap_alloc2_new _ _ _
  go_enter Tryz.func16, Tryz.ntmps16
  go_upto_region 1 with fail
  generalize hW : World.alloc (World.alloc w _) _ = v0 at *
  obtain ⟨ga, hga⟩ : ∃ g, w.heap.size = g := ⟨_, rfl⟩
  obtain ⟨gq, hgq⟩ : ∃ g, w.heap.size + 1 = g := ⟨_, rfl⟩
  rw [hgq] at Q0 ⊢
  rw [hga] at R0 ⊢
  clear hga hgq hW
  have x0 := cell_of_row _ _ 0 _ _ _ R0.out
  have x1 := cell_of_row _ _ 1 _ _ _ R0.out
  have x2 := cell_of_row _ _ 2 _ _ _ R0.out
  have x3 := cell_of_row _ _ 3 _ _ _ R0.out
  have x4 := cell_of_row _ _ 4 _ _ _ R0.out
  have x5 := cell_of_row _ _ 5 _ _ _ R0.out
  have y0 := cell_of_row _ _ 0 _ _ _ Q0.out
  have y1 := cell_of_row _ _ 1 _ _ _ Q0.out
  have y2 := cell_of_row _ _ 2 _ _ _ Q0.out
  have y3 := cell_of_row _ _ 3 _ _ _ Q0.out
  have y4 := cell_of_row _ _ 4 _ _ _ Q0.out
  have y5 := cell_of_row _ _ 5 _ _ _ Q0.out
  have CC := hid (rall20 pb pb' lb cb lb' cb' B B' v0 HL.out.1.1 HL.out.2.1 (I1.out.below A0.out) (J1.out.below A0.out))
  rw [H0.out] at CC
  go_wp2_with fail
  refine CC.out.mono ?_
  rintro e9 v1 ⟨rfl, k9⟩
  have B1 : Hid (Ab v0 v1) := k9
  have A1 : Hid (Ab w v1) := A0.out.trans B1.out
  clear k9 CC x0 x1 x2 x3 x4 x5 y0 y1 y2 y3 y4 y5
  have x0 := cell_of_row _ _ 0 _ _ _ (B1.out.heap R0.out)
  have x1 := cell_of_row _ _ 1 _ _ _ (B1.out.heap R0.out)
  have x2 := cell_of_row _ _ 2 _ _ _ (B1.out.heap R0.out)
  have x3 := cell_of_row _ _ 3 _ _ _ (B1.out.heap R0.out)
  have x4 := cell_of_row _ _ 4 _ _ _ (B1.out.heap R0.out)
  have x5 := cell_of_row _ _ 5 _ _ _ (B1.out.heap R0.out)
  have y0 := cell_of_row _ _ 0 _ _ _ (B1.out.heap Q0.out)
  have y1 := cell_of_row _ _ 1 _ _ _ (B1.out.heap Q0.out)
  have y2 := cell_of_row _ _ 2 _ _ _ (B1.out.heap Q0.out)
  have y3 := cell_of_row _ _ 3 _ _ _ (B1.out.heap Q0.out)
  have y4 := cell_of_row _ _ 4 _ _ _ (B1.out.heap Q0.out)
  have y5 := cell_of_row _ _ 5 _ _ _ (B1.out.heap Q0.out)
  have CC := hid (rwhole20 pw pw' lw cw lw' cw' W W' v1 HL.out.1.2.1 HL.out.2.2.1 (I2.out.below A1.out) (J2.out.below A1.out))
  rw [H1.out] at CC
  go_wp2_with fail
  refine CC.out.mono ?_
  rintro e9 v2 ⟨rfl, k9⟩
  have B2 : Hid (Ab v0 v2) := B1.out.call k9
  have A2 : Hid (Ab w v2) := A0.out.trans B2.out
  clear k9 CC x0 x1 x2 x3 x4 x5 y0 y1 y2 y3 y4 y5
  go_wp2
  go_ret
  exact ⟨rfl, A2.out⟩
theorem rsame_2 (pb : Option Addr) (lb cb : Nat) (B : Nat -> Nat) (pw : Option Addr) (lw cw : Nat) (W : Nat -> Int) (pt : Option Addr) (lt ct : Nat) (T : Nat -> Int) (ps : Option Addr) (ls cs : Nat) (_S : Nat -> Nat) (sky st : Int) (pb' : Option Addr) (lb' cb' : Nat) (B' : Nat -> Nat) (pw' : Option Addr) (lw' cw' : Nat) (W' : Nat -> Int) (pt' : Option Addr) (lt' ct' : Nat) (T' : Nat -> Int) (ps' : Option Addr) (ls' cs' : Nat) (_S' : Nat -> Nat) (sky' st' : Int) (w : World) (HL : Hid ((lb <= 131072 /\ lw <= 131072 /\ lt <= 131072 /\ ls <= 131072) /\ (lb' <= 131072 /\ lw' <= 131072 /\ lt' <= 131072 /\ ls' <= 131072))) (I1 : Hid (IsFl w pb lb B)) (I2 : Hid (Sh.IsI w pw lw W)) (I3 : Hid (Sh.IsI w pt lt T)) (J1 : Hid (IsFl w pb' lb' B')) (J2 : Hid (Sh.IsI w pw' lw' W')) (J3 : Hid (Sh.IsI w pt' lt' T')) (h0 : eqL lb lb' B B' = true) (h1 : eqL lw lw' W W' = true) (h2 : eqL lt lt' T T' = false) :
    Calls Tryz.prog 16 #[.agg #[.slice pb lb cb, .slice pw lw cw, .slice pt lt ct, .slice ps ls cs, .int .i64 sky, .int .i64 st], .agg #[.slice pb' lb' cb', .slice pw' lw' cw', .slice pt' lt' ct', .slice ps' ls' cs', .int .i64 sky', .int .i64 st']] w fun e w' => e = .returned (.bool false) /\ Below w.heap.size w w' := by
  have H0 := hid h0
  have H1 := hid h1
  have H2 := hid h2
  clear h0 h1 h2
  have A0 : Hid (Ab w ((w.alloc (.cells #[.slice pb lb cb, .slice pw lw cw, .slice pt lt ct, .slice ps ls cs, .int .i64 sky, .int .i64 st] 33)).alloc (.cells #[.slice pb' lb' cb', .slice pw' lw' cw', .slice pt' lt' ct', .slice ps' ls' cs', .int .i64 sky', .int .i64 st'] 33))) := bl2 _ _ _
  have R0 : Hid (((w.alloc (.cells #[.slice pb lb cb, .slice pw lw cw, .slice pt lt ct, .slice ps ls cs, .int .i64 sky, .int .i64 st] 33)).alloc (.cells #[.slice pb' lb' cb', .slice pw' lw' cw', .slice pt' lt' ct', .slice ps' ls' cs', .int .i64 sky', .int .i64 st'] 33)).heap[w.heap.size]? = some (.cells #[.slice pb lb cb, .slice pw lw cw, .slice pt lt ct, .slice ps ls cs, .int .i64 sky, .int .i64 st] 33)) := heap_alloc2_old _ _ _
  have Q0 : Hid (((w.alloc (.cells #[.slice pb lb cb, .slice pw lw cw, .slice pt lt ct, .slice ps ls cs, .int .i64 sky, .int .i64 st] 33)).alloc (.cells #[.slice pb' lb' cb', .slice pw' lw' cw', .slice pt' lt' ct', .slice ps' ls' cs', .int .i64 sky', .int .i64 st'] 33)).heap[w.heap.size + 1]? = some (.cells #[.slice pb' lb' cb', .slice pw' lw' cw', .slice pt' lt' ct', .slice ps' ls' cs', .int .i64 sky', .int .i64 st'] 33)) := heap_alloc2_new _ _ _
  go_enter Tryz.func16, Tryz.ntmps16
  go_upto_region 1 with fail
  generalize hW : World.alloc (World.alloc w _) _ = v0 at *
  obtain ⟨ga, hga⟩ : ∃ g, w.heap.size = g := ⟨_, rfl⟩
  obtain ⟨gq, hgq⟩ : ∃ g, w.heap.size + 1 = g := ⟨_, rfl⟩
  rw [hgq] at Q0 ⊢
  rw [hga] at R0 ⊢
  clear hga hgq hW
  have x0 := cell_of_row _ _ 0 _ _ _ R0.out
  have x1 := cell_of_row _ _ 1 _ _ _ R0.out
  have x2 := cell_of_row _ _ 2 _ _ _ R0.out
  have x3 := cell_of_row _ _ 3 _ _ _ R0.out
  have x4 := cell_of_row _ _ 4 _ _ _ R0.out
  have x5 := cell_of_row _ _ 5 _ _ _ R0.out
  have y0 := cell_of_row _ _ 0 _ _ _ Q0.out
  have y1 := cell_of_row _ _ 1 _ _ _ Q0.out
  have y2 := cell_of_row _ _ 2 _ _ _ Q0.out
  have y3 := cell_of_row _ _ 3 _ _ _ Q0.out
  have y4 := cell_of_row _ _ 4 _ _ _ Q0.out
  have y5 := cell_of_row _ _ 5 _ _ _ Q0.out
  have CC := hid (rall20 pb pb' lb cb lb' cb' B B' v0 HL.out.1.1 HL.out.2.1 (I1.out.below A0.out) (J1.out.below A0.out))
  rw [H0.out] at CC
  go_wp2_with fail
  refine CC.out.mono ?_
  rintro e9 v1 ⟨rfl, k9⟩
  have B1 : Hid (Ab v0 v1) := k9
  have A1 : Hid (Ab w v1) := A0.out.trans B1.out
  clear k9 CC x0 x1 x2 x3 x4 x5 y0 y1 y2 y3 y4 y5
  have x0 := cell_of_row _ _ 0 _ _ _ (B1.out.heap R0.out)
  have x1 := cell_of_row _ _ 1 _ _ _ (B1.out.heap R0.out)
  have x2 := cell_of_row _ _ 2 _ _ _ (B1.out.heap R0.out)
  have x3 := cell_of_row _ _ 3 _ _ _ (B1.out.heap R0.out)
  have x4 := cell_of_row _ _ 4 _ _ _ (B1.out.heap R0.out)
  have x5 := cell_of_row _ _ 5 _ _ _ (B1.out.heap R0.out)
  have y0 := cell_of_row _ _ 0 _ _ _ (B1.out.heap Q0.out)
  have y1 := cell_of_row _ _ 1 _ _ _ (B1.out.heap Q0.out)
  have y2 := cell_of_row _ _ 2 _ _ _ (B1.out.heap Q0.out)
  have y3 := cell_of_row _ _ 3 _ _ _ (B1.out.heap Q0.out)
  have y4 := cell_of_row _ _ 4 _ _ _ (B1.out.heap Q0.out)
  have y5 := cell_of_row _ _ 5 _ _ _ (B1.out.heap Q0.out)
  have CC := hid (rwhole20 pw pw' lw cw lw' cw' W W' v1 HL.out.1.2.1 HL.out.2.2.1 (I2.out.below A1.out) (J2.out.below A1.out))
  rw [H1.out] at CC
  go_wp2_with fail
  refine CC.out.mono ?_
  rintro e9 v2 ⟨rfl, k9⟩
  have B2 : Hid (Ab v0 v2) := B1.out.call k9
  have A2 : Hid (Ab w v2) := A0.out.trans B2.out
  clear k9 CC x0 x1 x2 x3 x4 x5 y0 y1 y2 y3 y4 y5
  have x0 := cell_of_row _ _ 0 _ _ _ (B2.out.heap R0.out)
  have x1 := cell_of_row _ _ 1 _ _ _ (B2.out.heap R0.out)
  have x2 := cell_of_row _ _ 2 _ _ _ (B2.out.heap R0.out)
  have x3 := cell_of_row _ _ 3 _ _ _ (B2.out.heap R0.out)
  have x4 := cell_of_row _ _ 4 _ _ _ (B2.out.heap R0.out)
  have x5 := cell_of_row _ _ 5 _ _ _ (B2.out.heap R0.out)
  have y0 := cell_of_row _ _ 0 _ _ _ (B2.out.heap Q0.out)
  have y1 := cell_of_row _ _ 1 _ _ _ (B2.out.heap Q0.out)
  have y2 := cell_of_row _ _ 2 _ _ _ (B2.out.heap Q0.out)
  have y3 := cell_of_row _ _ 3 _ _ _ (B2.out.heap Q0.out)
  have y4 := cell_of_row _ _ 4 _ _ _ (B2.out.heap Q0.out)
  have y5 := cell_of_row _ _ 5 _ _ _ (B2.out.heap Q0.out)
  have CC := hid (rwhole20 pt pt' lt ct lt' ct' T T' v2 HL.out.1.2.2.1 HL.out.2.2.2.1 (I3.out.below A2.out) (J3.out.below A2.out))
  rw [H2.out] at CC
  go_wp2_with fail
  refine CC.out.mono ?_
  rintro e9 v3 ⟨rfl, k9⟩
  have B3 : Hid (Ab v0 v3) := B2.out.call k9
  have A3 : Hid (Ab w v3) := A0.out.trans B3.out
  clear k9 CC x0 x1 x2 x3 x4 x5 y0 y1 y2 y3 y4 y5
  go_wp2
  go_ret
  exact ⟨rfl, A3.out⟩
theorem rsame_3 (pb : Option Addr) (lb cb : Nat) (B : Nat -> Nat) (pw : Option Addr) (lw cw : Nat) (W : Nat -> Int) (pt : Option Addr) (lt ct : Nat) (T : Nat -> Int) (ps : Option Addr) (ls cs : Nat) (S : Nat -> Nat) (sky st : Int) (pb' : Option Addr) (lb' cb' : Nat) (B' : Nat -> Nat) (pw' : Option Addr) (lw' cw' : Nat) (W' : Nat -> Int) (pt' : Option Addr) (lt' ct' : Nat) (T' : Nat -> Int) (ps' : Option Addr) (ls' cs' : Nat) (S' : Nat -> Nat) (sky' st' : Int) (w : World) (HL : Hid ((lb <= 131072 /\ lw <= 131072 /\ lt <= 131072 /\ ls <= 131072) /\ (lb' <= 131072 /\ lw' <= 131072 /\ lt' <= 131072 /\ ls' <= 131072))) (I1 : Hid (IsFl w pb lb B)) (I2 : Hid (Sh.IsI w pw lw W)) (I3 : Hid (Sh.IsI w pt lt T)) (I4 : Hid (IsFl w ps ls S)) (J1 : Hid (IsFl w pb' lb' B')) (J2 : Hid (Sh.IsI w pw' lw' W')) (J3 : Hid (Sh.IsI w pt' lt' T')) (J4 : Hid (IsFl w ps' ls' S')) (h0 : eqL lb lb' B B' = true) (h1 : eqL lw lw' W W' = true) (h2 : eqL lt lt' T T' = true) (h3 : eqL ls ls' S S' = false) :
    Calls Tryz.prog 16 #[.agg #[.slice pb lb cb, .slice pw lw cw, .slice pt lt ct, .slice ps ls cs, .int .i64 sky, .int .i64 st], .agg #[.slice pb' lb' cb', .slice pw' lw' cw', .slice pt' lt' ct', .slice ps' ls' cs', .int .i64 sky', .int .i64 st']] w fun e w' => e = .returned (.bool false) /\ Below w.heap.size w w' := by
  have H0 := hid h0
  have H1 := hid h1
  have H2 := hid h2
  have H3 := hid h3
  clear h0 h1 h2 h3
  have A0 : Hid (Ab w ((w.alloc (.cells #[.slice pb lb cb, .slice pw lw cw, .slice pt lt ct, .slice ps ls cs, .int .i64 sky, .int .i64 st] 33)).alloc (.cells #[.slice pb' lb' cb', .slice pw' lw' cw', .slice pt' lt' ct', .slice ps' ls' cs', .int .i64 sky', .int .i64 st'] 33))) := bl2 _ _ _
  have R0 : Hid (((w.alloc (.cells #[.slice pb lb cb, .slice pw lw cw, .slice pt lt ct, .slice ps ls cs, .int .i64 sky, .int .i64 st] 33)).alloc (.cells #[.slice pb' lb' cb', .slice pw' lw' cw', .slice pt' lt' ct', .slice ps' ls' cs', .int .i64 sky', .int .i64 st'] 33)).heap[w.heap.size]? = some (.cells #[.slice pb lb cb, .slice pw lw cw, .slice pt lt ct, .slice ps ls cs, .int .i64 sky, .int .i64 st] 33)) := heap_alloc2_old _ _ _
  have Q0 : Hid (((w.alloc (.cells #[.slice pb lb cb, .slice pw lw cw, .slice pt lt ct, .slice ps ls cs, .int .i64 sky, .int .i64 st] 33)).alloc (.cells #[.slice pb' lb' cb', .slice pw' lw' cw', .slice pt' lt' ct', .slice ps' ls' cs', .int .i64 sky', .int .i64 st'] 33)).heap[w.heap.size + 1]? = some (.cells #[.slice pb' lb' cb', .slice pw' lw' cw', .slice pt' lt' ct', .slice ps' ls' cs', .int .i64 sky', .int .i64 st'] 33)) := heap_alloc2_new _ _ _
  go_enter Tryz.func16, Tryz.ntmps16
  go_upto_region 1 with fail
  generalize hW : World.alloc (World.alloc w _) _ = v0 at *
  obtain ⟨ga, hga⟩ : ∃ g, w.heap.size = g := ⟨_, rfl⟩
  obtain ⟨gq, hgq⟩ : ∃ g, w.heap.size + 1 = g := ⟨_, rfl⟩
  rw [hgq] at Q0 ⊢
  rw [hga] at R0 ⊢
  clear hga hgq hW
  have x0 := cell_of_row _ _ 0 _ _ _ R0.out
  have x1 := cell_of_row _ _ 1 _ _ _ R0.out
  have x2 := cell_of_row _ _ 2 _ _ _ R0.out
  have x3 := cell_of_row _ _ 3 _ _ _ R0.out
  have x4 := cell_of_row _ _ 4 _ _ _ R0.out
  have x5 := cell_of_row _ _ 5 _ _ _ R0.out
  have y0 := cell_of_row _ _ 0 _ _ _ Q0.out
  have y1 := cell_of_row _ _ 1 _ _ _ Q0.out
  have y2 := cell_of_row _ _ 2 _ _ _ Q0.out
  have y3 := cell_of_row _ _ 3 _ _ _ Q0.out
  have y4 := cell_of_row _ _ 4 _ _ _ Q0.out
  have y5 := cell_of_row _ _ 5 _ _ _ Q0.out
  have CC := hid (rall20 pb pb' lb cb lb' cb' B B' v0 HL.out.1.1 HL.out.2.1 (I1.out.below A0.out) (J1.out.below A0.out))
  rw [H0.out] at CC
  go_wp2_with fail
  refine CC.out.mono ?_
  rintro e9 v1 ⟨rfl, k9⟩
  have B1 : Hid (Ab v0 v1) := k9
  have A1 : Hid (Ab w v1) := A0.out.trans B1.out
  clear k9 CC x0 x1 x2 x3 x4 x5 y0 y1 y2 y3 y4 y5
  have x0 := cell_of_row _ _ 0 _ _ _ (B1.out.heap R0.out)
  have x1 := cell_of_row _ _ 1 _ _ _ (B1.out.heap R0.out)
  have x2 := cell_of_row _ _ 2 _ _ _ (B1.out.heap R0.out)
  have x3 := cell_of_row _ _ 3 _ _ _ (B1.out.heap R0.out)
  have x4 := cell_of_row _ _ 4 _ _ _ (B1.out.heap R0.out)
  have x5 := cell_of_row _ _ 5 _ _ _ (B1.out.heap R0.out)
  have y0 := cell_of_row _ _ 0 _ _ _ (B1.out.heap Q0.out)
  have y1 := cell_of_row _ _ 1 _ _ _ (B1.out.heap Q0.out)
  have y2 := cell_of_row _ _ 2 _ _ _ (B1.out.heap Q0.out)
  have y3 := cell_of_row _ _ 3 _ _ _ (B1.out.heap Q0.out)
  have y4 := cell_of_row _ _ 4 _ _ _ (B1.out.heap Q0.out)
  have y5 := cell_of_row _ _ 5 _ _ _ (B1.out.heap Q0.out)
  have CC := hid (rwhole20 pw pw' lw cw lw' cw' W W' v1 HL.out.1.2.1 HL.out.2.2.1 (I2.out.below A1.out) (J2.out.below A1.out))
  rw [H1.out] at CC
  go_wp2_with fail
  refine CC.out.mono ?_
  rintro e9 v2 ⟨rfl, k9⟩
  have B2 : Hid (Ab v0 v2) := B1.out.call k9
  have A2 : Hid (Ab w v2) := A0.out.trans B2.out
  clear k9 CC x0 x1 x2 x3 x4 x5 y0 y1 y2 y3 y4 y5
  have x0 := cell_of_row _ _ 0 _ _ _ (B2.out.heap R0.out)
  have x1 := cell_of_row _ _ 1 _ _ _ (B2.out.heap R0.out)
  have x2 := cell_of_row _ _ 2 _ _ _ (B2.out.heap R0.out)
  have x3 := cell_of_row _ _ 3 _ _ _ (B2.out.heap R0.out)
  have x4 := cell_of_row _ _ 4 _ _ _ (B2.out.heap R0.out)
  have x5 := cell_of_row _ _ 5 _ _ _ (B2.out.heap R0.out)
  have y0 := cell_of_row _ _ 0 _ _ _ (B2.out.heap Q0.out)
  have y1 := cell_of_row _ _ 1 _ _ _ (B2.out.heap Q0.out)
  have y2 := cell_of_row _ _ 2 _ _ _ (B2.out.heap Q0.out)
  have y3 := cell_of_row _ _ 3 _ _ _ (B2.out.heap Q0.out)
  have y4 := cell_of_row _ _ 4 _ _ _ (B2.out.heap Q0.out)
  have y5 := cell_of_row _ _ 5 _ _ _ (B2.out.heap Q0.out)
  have CC := hid (rwhole20 pt pt' lt ct lt' ct' T T' v2 HL.out.1.2.2.1 HL.out.2.2.2.1 (I3.out.below A2.out) (J3.out.below A2.out))
  rw [H2.out] at CC
  go_wp2_with fail
  refine CC.out.mono ?_
  rintro e9 v3 ⟨rfl, k9⟩
  have B3 : Hid (Ab v0 v3) := B2.out.call k9
  have A3 : Hid (Ab w v3) := A0.out.trans B3.out
  clear k9 CC x0 x1 x2 x3 x4 x5 y0 y1 y2 y3 y4 y5
  have x0 := cell_of_row _ _ 0 _ _ _ (B3.out.heap R0.out)
  have x1 := cell_of_row _ _ 1 _ _ _ (B3.out.heap R0.out)
  have x2 := cell_of_row _ _ 2 _ _ _ (B3.out.heap R0.out)
  have x3 := cell_of_row _ _ 3 _ _ _ (B3.out.heap R0.out)
  have x4 := cell_of_row _ _ 4 _ _ _ (B3.out.heap R0.out)
  have x5 := cell_of_row _ _ 5 _ _ _ (B3.out.heap R0.out)
  have y0 := cell_of_row _ _ 0 _ _ _ (B3.out.heap Q0.out)
  have y1 := cell_of_row _ _ 1 _ _ _ (B3.out.heap Q0.out)
  have y2 := cell_of_row _ _ 2 _ _ _ (B3.out.heap Q0.out)
  have y3 := cell_of_row _ _ 3 _ _ _ (B3.out.heap Q0.out)
  have y4 := cell_of_row _ _ 4 _ _ _ (B3.out.heap Q0.out)
  have y5 := cell_of_row _ _ 5 _ _ _ (B3.out.heap Q0.out)
  have CC := hid (rall20 ps ps' ls cs ls' cs' S S' v3 HL.out.1.2.2.2 HL.out.2.2.2.2 (I4.out.below A3.out) (J4.out.below A3.out))
  rw [H3.out] at CC
  go_wp2_with fail
  refine CC.out.mono ?_
  rintro e9 v4 ⟨rfl, k9⟩
  have B4 : Hid (Ab v0 v4) := B3.out.call k9
  have A4 : Hid (Ab w v4) := A0.out.trans B4.out
  clear k9 CC x0 x1 x2 x3 x4 x5 y0 y1 y2 y3 y4 y5
  go_wp2
  go_ret
  exact ⟨rfl, A4.out⟩
theorem rsame_4 (pb : Option Addr) (lb cb : Nat) (B : Nat -> Nat) (pw : Option Addr) (lw cw : Nat) (W : Nat -> Int) (pt : Option Addr) (lt ct : Nat) (T : Nat -> Int) (ps : Option Addr) (ls cs : Nat) (S : Nat -> Nat) (sky st : Int) (pb' : Option Addr) (lb' cb' : Nat) (B' : Nat -> Nat) (pw' : Option Addr) (lw' cw' : Nat) (W' : Nat -> Int) (pt' : Option Addr) (lt' ct' : Nat) (T' : Nat -> Int) (ps' : Option Addr) (ls' cs' : Nat) (S' : Nat -> Nat) (sky' st' : Int) (w : World) (HL : Hid ((lb <= 131072 /\ lw <= 131072 /\ lt <= 131072 /\ ls <= 131072) /\ (lb' <= 131072 /\ lw' <= 131072 /\ lt' <= 131072 /\ ls' <= 131072))) (I1 : Hid (IsFl w pb lb B)) (I2 : Hid (Sh.IsI w pw lw W)) (I3 : Hid (Sh.IsI w pt lt T)) (I4 : Hid (IsFl w ps ls S)) (J1 : Hid (IsFl w pb' lb' B')) (J2 : Hid (Sh.IsI w pw' lw' W')) (J3 : Hid (Sh.IsI w pt' lt' T')) (J4 : Hid (IsFl w ps' ls' S')) (h0 : eqL lb lb' B B' = true) (h1 : eqL lw lw' W W' = true) (h2 : eqL lt lt' T T' = true) (h3 : eqL ls ls' S S' = true) (h4 : (sky == sky') = false) :
    Calls Tryz.prog 16 #[.agg #[.slice pb lb cb, .slice pw lw cw, .slice pt lt ct, .slice ps ls cs, .int .i64 sky, .int .i64 st], .agg #[.slice pb' lb' cb', .slice pw' lw' cw', .slice pt' lt' ct', .slice ps' ls' cs', .int .i64 sky', .int .i64 st']] w fun e w' => e = .returned (.bool false) /\ Below w.heap.size w w' := by
  have H0 := hid h0
  have H1 := hid h1
  have H2 := hid h2
  have H3 := hid h3
  clear h0 h1 h2 h3
  have A0 : Hid (Ab w ((w.alloc (.cells #[.slice pb lb cb, .slice pw lw cw, .slice pt lt ct, .slice ps ls cs, .int .i64 sky, .int .i64 st] 33)).alloc (.cells #[.slice pb' lb' cb', .slice pw' lw' cw', .slice pt' lt' ct', .slice ps' ls' cs', .int .i64 sky', .int .i64 st'] 33))) := bl2 _ _ _
  have R0 : Hid (((w.alloc (.cells #[.slice pb lb cb, .slice pw lw cw, .slice pt lt ct, .slice ps ls cs, .int .i64 sky, .int .i64 st] 33)).alloc (.cells #[.slice pb' lb' cb', .slice pw' lw' cw', .slice pt' lt' ct', .slice ps' ls' cs', .int .i64 sky', .int .i64 st'] 33)).heap[w.heap.size]? = some (.cells #[.slice pb lb cb, .slice pw lw cw, .slice pt lt ct, .slice ps ls cs, .int .i64 sky, .int .i64 st] 33)) := heap_alloc2_old _ _ _
  have Q0 : Hid (((w.alloc (.cells #[.slice pb lb cb, .slice pw lw cw, .slice pt lt ct, .slice ps ls cs, .int .i64 sky, .int .i64 st] 33)).alloc (.cells #[.slice pb' lb' cb', .slice pw' lw' cw', .slice pt' lt' ct', .slice ps' ls' cs', .int .i64 sky', .int .i64 st'] 33)).heap[w.heap.size + 1]? = some (.cells #[.slice pb' lb' cb', .slice pw' lw' cw', .slice pt' lt' ct', .slice ps' ls' cs', .int .i64 sky', .int .i64 st'] 33)) := heap_alloc2_new _ _ _
  go_enter Tryz.func16, Tryz.ntmps16
  go_upto_region 1 with fail
  generalize hW : World.alloc (World.alloc w _) _ = v0 at *
  obtain ⟨ga, hga⟩ : ∃ g, w.heap.size = g := ⟨_, rfl⟩
  obtain ⟨gq, hgq⟩ : ∃ g, w.heap.size + 1 = g := ⟨_, rfl⟩
  rw [hgq] at Q0 ⊢
  rw [hga] at R0 ⊢
  clear hga hgq hW
  have x0 := cell_of_row _ _ 0 _ _ _ R0.out
  have x1 := cell_of_row _ _ 1 _ _ _ R0.out
  have x2 := cell_of_row _ _ 2 _ _ _ R0.out
  have x3 := cell_of_row _ _ 3 _ _ _ R0.out
  have x4 := cell_of_row _ _ 4 _ _ _ R0.out
  have x5 := cell_of_row _ _ 5 _ _ _ R0.out
  have y0 := cell_of_row _ _ 0 _ _ _ Q0.out
  have y1 := cell_of_row _ _ 1 _ _ _ Q0.out
  have y2 := cell_of_row _ _ 2 _ _ _ Q0.out
  have y3 := cell_of_row _ _ 3 _ _ _ Q0.out
  have y4 := cell_of_row _ _ 4 _ _ _ Q0.out
  have y5 := cell_of_row _ _ 5 _ _ _ Q0.out
  have CC := hid (rall20 pb pb' lb cb lb' cb' B B' v0 HL.out.1.1 HL.out.2.1 (I1.out.below A0.out) (J1.out.below A0.out))
  rw [H0.out] at CC
  go_wp2_with fail
  refine CC.out.mono ?_
  rintro e9 v1 ⟨rfl, k9⟩
  have B1 : Hid (Ab v0 v1) := k9
  have A1 : Hid (Ab w v1) := A0.out.trans B1.out
  clear k9 CC x0 x1 x2 x3 x4 x5 y0 y1 y2 y3 y4 y5
  have x0 := cell_of_row _ _ 0 _ _ _ (B1.out.heap R0.out)
  have x1 := cell_of_row _ _ 1 _ _ _ (B1.out.heap R0.out)
  have x2 := cell_of_row _ _ 2 _ _ _ (B1.out.heap R0.out)
  have x3 := cell_of_row _ _ 3 _ _ _ (B1.out.heap R0.out)
  have x4 := cell_of_row _ _ 4 _ _ _ (B1.out.heap R0.out)
  have x5 := cell_of_row _ _ 5 _ _ _ (B1.out.heap R0.out)
  have y0 := cell_of_row _ _ 0 _ _ _ (B1.out.heap Q0.out)
  have y1 := cell_of_row _ _ 1 _ _ _ (B1.out.heap Q0.out)
  have y2 := cell_of_row _ _ 2 _ _ _ (B1.out.heap Q0.out)
  have y3 := cell_of_row _ _ 3 _ _ _ (B1.out.heap Q0.out)
  have y4 := cell_of_row _ _ 4 _ _ _ (B1.out.heap Q0.out)
  have y5 := cell_of_row _ _ 5 _ _ _ (B1.out.heap Q0.out)
  have CC := hid (rwhole20 pw pw' lw cw lw' cw' W W' v1 HL.out.1.2.1 HL.out.2.2.1 (I2.out.below A1.out) (J2.out.below A1.out))
  rw [H1.out] at CC
  go_wp2_with fail
  refine CC.out.mono ?_
  rintro e9 v2 ⟨rfl, k9⟩
  have B2 : Hid (Ab v0 v2) := B1.out.call k9
  have A2 : Hid (Ab w v2) := A0.out.trans B2.out
  clear k9 CC x0 x1 x2 x3 x4 x5 y0 y1 y2 y3 y4 y5
  have x0 := cell_of_row _ _ 0 _ _ _ (B2.out.heap R0.out)
  have x1 := cell_of_row _ _ 1 _ _ _ (B2.out.heap R0.out)
  have x2 := cell_of_row _ _ 2 _ _ _ (B2.out.heap R0.out)
  have x3 := cell_of_row _ _ 3 _ _ _ (B2.out.heap R0.out)
  have x4 := cell_of_row _ _ 4 _ _ _ (B2.out.heap R0.out)
  have x5 := cell_of_row _ _ 5 _ _ _ (B2.out.heap R0.out)
  have y0 := cell_of_row _ _ 0 _ _ _ (B2.out.heap Q0.out)
  have y1 := cell_of_row _ _ 1 _ _ _ (B2.out.heap Q0.out)
  have y2 := cell_of_row _ _ 2 _ _ _ (B2.out.heap Q0.out)
  have y3 := cell_of_row _ _ 3 _ _ _ (B2.out.heap Q0.out)
  have y4 := cell_of_row _ _ 4 _ _ _ (B2.out.heap Q0.out)
  have y5 := cell_of_row _ _ 5 _ _ _ (B2.out.heap Q0.out)
  have CC := hid (rwhole20 pt pt' lt ct lt' ct' T T' v2 HL.out.1.2.2.1 HL.out.2.2.2.1 (I3.out.below A2.out) (J3.out.below A2.out))
  rw [H2.out] at CC
  go_wp2_with fail
  refine CC.out.mono ?_
  rintro e9 v3 ⟨rfl, k9⟩
  have B3 : Hid (Ab v0 v3) := B2.out.call k9
  have A3 : Hid (Ab w v3) := A0.out.trans B3.out
  clear k9 CC x0 x1 x2 x3 x4 x5 y0 y1 y2 y3 y4 y5
  have x0 := cell_of_row _ _ 0 _ _ _ (B3.out.heap R0.out)
  have x1 := cell_of_row _ _ 1 _ _ _ (B3.out.heap R0.out)
  have x2 := cell_of_row _ _ 2 _ _ _ (B3.out.heap R0.out)
  have x3 := cell_of_row _ _ 3 _ _ _ (B3.out.heap R0.out)
  have x4 := cell_of_row _ _ 4 _ _ _ (B3.out.heap R0.out)
  have x5 := cell_of_row _ _ 5 _ _ _ (B3.out.heap R0.out)
  have y0 := cell_of_row _ _ 0 _ _ _ (B3.out.heap Q0.out)
  have y1 := cell_of_row _ _ 1 _ _ _ (B3.out.heap Q0.out)
  have y2 := cell_of_row _ _ 2 _ _ _ (B3.out.heap Q0.out)
  have y3 := cell_of_row _ _ 3 _ _ _ (B3.out.heap Q0.out)
  have y4 := cell_of_row _ _ 4 _ _ _ (B3.out.heap Q0.out)
  have y5 := cell_of_row _ _ 5 _ _ _ (B3.out.heap Q0.out)
  have CC := hid (rall20 ps ps' ls cs ls' cs' S S' v3 HL.out.1.2.2.2 HL.out.2.2.2.2 (I4.out.below A3.out) (J4.out.below A3.out))
  rw [H3.out] at CC
  go_wp2_with fail
  refine CC.out.mono ?_
  rintro e9 v4 ⟨rfl, k9⟩
  have B4 : Hid (Ab v0 v4) := B3.out.call k9
  have A4 : Hid (Ab w v4) := A0.out.trans B4.out
  clear k9 CC x0 x1 x2 x3 x4 x5 y0 y1 y2 y3 y4 y5
  have x0 := cell_of_row _ _ 0 _ _ _ (B4.out.heap R0.out)
  have x1 := cell_of_row _ _ 1 _ _ _ (B4.out.heap R0.out)
  have x2 := cell_of_row _ _ 2 _ _ _ (B4.out.heap R0.out)
  have x3 := cell_of_row _ _ 3 _ _ _ (B4.out.heap R0.out)
  have x4 := cell_of_row _ _ 4 _ _ _ (B4.out.heap R0.out)
  have x5 := cell_of_row _ _ 5 _ _ _ (B4.out.heap R0.out)
  have y0 := cell_of_row _ _ 0 _ _ _ (B4.out.heap Q0.out)
  have y1 := cell_of_row _ _ 1 _ _ _ (B4.out.heap Q0.out)
  have y2 := cell_of_row _ _ 2 _ _ _ (B4.out.heap Q0.out)
  have y3 := cell_of_row _ _ 3 _ _ _ (B4.out.heap Q0.out)
  have y4 := cell_of_row _ _ 4 _ _ _ (B4.out.heap Q0.out)
  have y5 := cell_of_row _ _ 5 _ _ _ (B4.out.heap Q0.out)
  go_wp2
  go_ret
  exact ⟨rfl, A4.out⟩
theorem rsame_5 (pb : Option Addr) (lb cb : Nat) (B : Nat -> Nat) (pw : Option Addr) (lw cw : Nat) (W : Nat -> Int) (pt : Option Addr) (lt ct : Nat) (T : Nat -> Int) (ps : Option Addr) (ls cs : Nat) (S : Nat -> Nat) (sky st : Int) (pb' : Option Addr) (lb' cb' : Nat) (B' : Nat -> Nat) (pw' : Option Addr) (lw' cw' : Nat) (W' : Nat -> Int) (pt' : Option Addr) (lt' ct' : Nat) (T' : Nat -> Int) (ps' : Option Addr) (ls' cs' : Nat) (S' : Nat -> Nat) (sky' st' : Int) (w : World) (HL : Hid ((lb <= 131072 /\ lw <= 131072 /\ lt <= 131072 /\ ls <= 131072) /\ (lb' <= 131072 /\ lw' <= 131072 /\ lt' <= 131072 /\ ls' <= 131072))) (I1 : Hid (IsFl w pb lb B)) (I2 : Hid (Sh.IsI w pw lw W)) (I3 : Hid (Sh.IsI w pt lt T)) (I4 : Hid (IsFl w ps ls S)) (J1 : Hid (IsFl w pb' lb' B')) (J2 : Hid (Sh.IsI w pw' lw' W')) (J3 : Hid (Sh.IsI w pt' lt' T')) (J4 : Hid (IsFl w ps' ls' S')) (h0 : eqL lb lb' B B' = true) (h1 : eqL lw lw' W W' = true) (h2 : eqL lt lt' T T' = true) (h3 : eqL ls ls' S S' = true) (h4 : (sky == sky') = true) (h5 : (st == st') = false) :
    Calls Tryz.prog 16 #[.agg #[.slice pb lb cb, .slice pw lw cw, .slice pt lt ct, .slice ps ls cs, .int .i64 sky, .int .i64 st], .agg #[.slice pb' lb' cb', .slice pw' lw' cw', .slice pt' lt' ct', .slice ps' ls' cs', .int .i64 sky', .int .i64 st']] w fun e w' => e = .returned (.bool false) /\ Below w.heap.size w w' := by
  have H0 := hid h0
  have H1 := hid h1
  have H2 := hid h2
  have H3 := hid h3
  clear h0 h1 h2 h3
  have A0 : Hid (Ab w ((w.alloc (.cells #[.slice pb lb cb, .slice pw lw cw, .slice pt lt ct, .slice ps ls cs, .int .i64 sky, .int .i64 st] 33)).alloc (.cells #[.slice pb' lb' cb', .slice pw' lw' cw', .slice pt' lt' ct', .slice ps' ls' cs', .int .i64 sky', .int .i64 st'] 33))) := bl2 _ _ _
  have R0 : Hid (((w.alloc (.cells #[.slice pb lb cb, .slice pw lw cw, .slice pt lt ct, .slice ps ls cs, .int .i64 sky, .int .i64 st] 33)).alloc (.cells #[.slice pb' lb' cb', .slice pw' lw' cw', .slice pt' lt' ct', .slice ps' ls' cs', .int .i64 sky', .int .i64 st'] 33)).heap[w.heap.size]? = some (.cells #[.slice pb lb cb, .slice pw lw cw, .slice pt lt ct, .slice ps ls cs, .int .i64 sky, .int .i64 st] 33)) := heap_alloc2_old _ _ _
  have Q0 : Hid (((w.alloc (.cells #[.slice pb lb cb, .slice pw lw cw, .slice pt lt ct, .slice ps ls cs, .int .i64 sky, .int .i64 st] 33)).alloc (.cells #[.slice pb' lb' cb', .slice pw' lw' cw', .slice pt' lt' ct', .slice ps' ls' cs', .int .i64 sky', .int .i64 st'] 33)).heap[w.heap.size + 1]? = some (.cells #[.slice pb' lb' cb', .slice pw' lw' cw', .slice pt' lt' ct', .slice ps' ls' cs', .int .i64 sky', .int .i64 st'] 33)) := heap_alloc2_new _ _ _
  go_enter Tryz.func16, Tryz.ntmps16
  go_upto_region 1 with fail
  generalize hW : World.alloc (World.alloc w _) _ = v0 at *
  obtain ⟨ga, hga⟩ : ∃ g, w.heap.size = g := ⟨_, rfl⟩
  obtain ⟨gq, hgq⟩ : ∃ g, w.heap.size + 1 = g := ⟨_, rfl⟩
  rw [hgq] at Q0 ⊢
  rw [hga] at R0 ⊢
  clear hga hgq hW
  have x0 := cell_of_row _ _ 0 _ _ _ R0.out
  have x1 := cell_of_row _ _ 1 _ _ _ R0.out
  have x2 := cell_of_row _ _ 2 _ _ _ R0.out
  have x3 := cell_of_row _ _ 3 _ _ _ R0.out
  have x4 := cell_of_row _ _ 4 _ _ _ R0.out
  have x5 := cell_of_row _ _ 5 _ _ _ R0.out
  have y0 := cell_of_row _ _ 0 _ _ _ Q0.out
  have y1 := cell_of_row _ _ 1 _ _ _ Q0.out
  have y2 := cell_of_row _ _ 2 _ _ _ Q0.out
  have y3 := cell_of_row _ _ 3 _ _ _ Q0.out
  have y4 := cell_of_row _ _ 4 _ _ _ Q0.out
  have y5 := cell_of_row _ _ 5 _ _ _ Q0.out
  have CC := hid (rall20 pb pb' lb cb lb' cb' B B' v0 HL.out.1.1 HL.out.2.1 (I1.out.below A0.out) (J1.out.below A0.out))
  rw [H0.out] at CC
  go_wp2_with fail
  refine CC.out.mono ?_
  rintro e9 v1 ⟨rfl, k9⟩
  have B1 : Hid (Ab v0 v1) := k9
  have A1 : Hid (Ab w v1) := A0.out.trans B1.out
  clear k9 CC x0 x1 x2 x3 x4 x5 y0 y1 y2 y3 y4 y5
  have x0 := cell_of_row _ _ 0 _ _ _ (B1.out.heap R0.out)
  have x1 := cell_of_row _ _ 1 _ _ _ (B1.out.heap R0.out)
  have x2 := cell_of_row _ _ 2 _ _ _ (B1.out.heap R0.out)
  have x3 := cell_of_row _ _ 3 _ _ _ (B1.out.heap R0.out)
  have x4 := cell_of_row _ _ 4 _ _ _ (B1.out.heap R0.out)
  have x5 := cell_of_row _ _ 5 _ _ _ (B1.out.heap R0.out)
  have y0 := cell_of_row _ _ 0 _ _ _ (B1.out.heap Q0.out)
  have y1 := cell_of_row _ _ 1 _ _ _ (B1.out.heap Q0.out)
  have y2 := cell_of_row _ _ 2 _ _ _ (B1.out.heap Q0.out)
  have y3 := cell_of_row _ _ 3 _ _ _ (B1.out.heap Q0.out)
  have y4 := cell_of_row _ _ 4 _ _ _ (B1.out.heap Q0.out)
  have y5 := cell_of_row _ _ 5 _ _ _ (B1.out.heap Q0.out)
  have CC := hid (rwhole20 pw pw' lw cw lw' cw' W W' v1 HL.out.1.2.1 HL.out.2.2.1 (I2.out.below A1.out) (J2.out.below A1.out))
  rw [H1.out] at CC
  go_wp2_with fail
  refine CC.out.mono ?_
  rintro e9 v2 ⟨rfl, k9⟩
  have B2 : Hid (Ab v0 v2) := B1.out.call k9
  have A2 : Hid (Ab w v2) := A0.out.trans B2.out
  clear k9 CC x0 x1 x2 x3 x4 x5 y0 y1 y2 y3 y4 y5
  have x0 := cell_of_row _ _ 0 _ _ _ (B2.out.heap R0.out)
  have x1 := cell_of_row _ _ 1 _ _ _ (B2.out.heap R0.out)
  have x2 := cell_of_row _ _ 2 _ _ _ (B2.out.heap R0.out)
  have x3 := cell_of_row _ _ 3 _ _ _ (B2.out.heap R0.out)
  have x4 := cell_of_row _ _ 4 _ _ _ (B2.out.heap R0.out)
  have x5 := cell_of_row _ _ 5 _ _ _ (B2.out.heap R0.out)
  have y0 := cell_of_row _ _ 0 _ _ _ (B2.out.heap Q0.out)
  have y1 := cell_of_row _ _ 1 _ _ _ (B2.out.heap Q0.out)
  have y2 := cell_of_row _ _ 2 _ _ _ (B2.out.heap Q0.out)
  have y3 := cell_of_row _ _ 3 _ _ _ (B2.out.heap Q0.out)
  have y4 := cell_of_row _ _ 4 _ _ _ (B2.out.heap Q0.out)
  have y5 := cell_of_row _ _ 5 _ _ _ (B2.out.heap Q0.out)
  have CC := hid (rwhole20 pt pt' lt ct lt' ct' T T' v2 HL.out.1.2.2.1 HL.out.2.2.2.1 (I3.out.below A2.out) (J3.out.below A2.out))
  rw [H2.out] at CC
  go_wp2_with fail
  refine CC.out.mono ?_
  rintro e9 v3 ⟨rfl, k9⟩
  have B3 : Hid (Ab v0 v3) := B2.out.call k9
  have A3 : Hid (Ab w v3) := A0.out.trans B3.out
  clear k9 CC x0 x1 x2 x3 x4 x5 y0 y1 y2 y3 y4 y5
  have x0 := cell_of_row _ _ 0 _ _ _ (B3.out.heap R0.out)
  have x1 := cell_of_row _ _ 1 _ _ _ (B3.out.heap R0.out)
  have x2 := cell_of_row _ _ 2 _ _ _ (B3.out.heap R0.out)
  have x3 := cell_of_row _ _ 3 _ _ _ (B3.out.heap R0.out)
  have x4 := cell_of_row _ _ 4 _ _ _ (B3.out.heap R0.out)
  have x5 := cell_of_row _ _ 5 _ _ _ (B3.out.heap R0.out)
  have y0 := cell_of_row _ _ 0 _ _ _ (B3.out.heap Q0.out)
  have y1 := cell_of_row _ _ 1 _ _ _ (B3.out.heap Q0.out)
  have y2 := cell_of_row _ _ 2 _ _ _ (B3.out.heap Q0.out)
  have y3 := cell_of_row _ _ 3 _ _ _ (B3.out.heap Q0.out)
  have y4 := cell_of_row _ _ 4 _ _ _ (B3.out.heap Q0.out)
  have y5 := cell_of_row _ _ 5 _ _ _ (B3.out.heap Q0.out)
  have CC := hid (rall20 ps ps' ls cs ls' cs' S S' v3 HL.out.1.2.2.2 HL.out.2.2.2.2 (I4.out.below A3.out) (J4.out.below A3.out))
  rw [H3.out] at CC
  go_wp2_with fail
  refine CC.out.mono ?_
  rintro e9 v4 ⟨rfl, k9⟩
  have B4 : Hid (Ab v0 v4) := B3.out.call k9
  have A4 : Hid (Ab w v4) := A0.out.trans B4.out
  clear k9 CC x0 x1 x2 x3 x4 x5 y0 y1 y2 y3 y4 y5
  have x0 := cell_of_row _ _ 0 _ _ _ (B4.out.heap R0.out)
  have x1 := cell_of_row _ _ 1 _ _ _ (B4.out.heap R0.out)
  have x2 := cell_of_row _ _ 2 _ _ _ (B4.out.heap R0.out)
  have x3 := cell_of_row _ _ 3 _ _ _ (B4.out.heap R0.out)
  have x4 := cell_of_row _ _ 4 _ _ _ (B4.out.heap R0.out)
  have x5 := cell_of_row _ _ 5 _ _ _ (B4.out.heap R0.out)
  have y0 := cell_of_row _ _ 0 _ _ _ (B4.out.heap Q0.out)
  have y1 := cell_of_row _ _ 1 _ _ _ (B4.out.heap Q0.out)
  have y2 := cell_of_row _ _ 2 _ _ _ (B4.out.heap Q0.out)
  have y3 := cell_of_row _ _ 3 _ _ _ (B4.out.heap Q0.out)
  have y4 := cell_of_row _ _ 4 _ _ _ (B4.out.heap Q0.out)
  have y5 := cell_of_row _ _ 5 _ _ _ (B4.out.heap Q0.out)
  go_wp2
  go_ret
  exact ⟨rfl, A4.out⟩
theorem rsame_6 (pb : Option Addr) (lb cb : Nat) (B : Nat -> Nat) (pw : Option Addr) (lw cw : Nat) (W : Nat -> Int) (pt : Option Addr) (lt ct : Nat) (T : Nat -> Int) (ps : Option Addr) (ls cs : Nat) (S : Nat -> Nat) (sky st : Int) (pb' : Option Addr) (lb' cb' : Nat) (B' : Nat -> Nat) (pw' : Option Addr) (lw' cw' : Nat) (W' : Nat -> Int) (pt' : Option Addr) (lt' ct' : Nat) (T' : Nat -> Int) (ps' : Option Addr) (ls' cs' : Nat) (S' : Nat -> Nat) (sky' st' : Int) (w : World) (HL : Hid ((lb <= 131072 /\ lw <= 131072 /\ lt <= 131072 /\ ls <= 131072) /\ (lb' <= 131072 /\ lw' <= 131072 /\ lt' <= 131072 /\ ls' <= 131072))) (I1 : Hid (IsFl w pb lb B)) (I2 : Hid (Sh.IsI w pw lw W)) (I3 : Hid (Sh.IsI w pt lt T)) (I4 : Hid (IsFl w ps ls S)) (J1 : Hid (IsFl w pb' lb' B')) (J2 : Hid (Sh.IsI w pw' lw' W')) (J3 : Hid (Sh.IsI w pt' lt' T')) (J4 : Hid (IsFl w ps' ls' S')) (h0 : eqL lb lb' B B' = true) (h1 : eqL lw lw' W W' = true) (h2 : eqL lt lt' T T' = true) (h3 : eqL ls ls' S S' = true) (h4 : (sky == sky') = true) (h5 : (st == st') = true) :
    Calls Tryz.prog 16 #[.agg #[.slice pb lb cb, .slice pw lw cw, .slice pt lt ct, .slice ps ls cs, .int .i64 sky, .int .i64 st], .agg #[.slice pb' lb' cb', .slice pw' lw' cw', .slice pt' lt' ct', .slice ps' ls' cs', .int .i64 sky', .int .i64 st']] w fun e w' => e = .returned (.bool true) /\ Below w.heap.size w w' := by
  have H0 := hid h0
  have H1 := hid h1
  have H2 := hid h2
  have H3 := hid h3
  clear h0 h1 h2 h3
  have A0 : Hid (Ab w ((w.alloc (.cells #[.slice pb lb cb, .slice pw lw cw, .slice pt lt ct, .slice ps ls cs, .int .i64 sky, .int .i64 st] 33)).alloc (.cells #[.slice pb' lb' cb', .slice pw' lw' cw', .slice pt' lt' ct', .slice ps' ls' cs', .int .i64 sky', .int .i64 st'] 33))) := bl2 _ _ _
  have R0 : Hid (((w.alloc (.cells #[.slice pb lb cb, .slice pw lw cw, .slice pt lt ct, .slice ps ls cs, .int .i64 sky, .int .i64 st] 33)).alloc (.cells #[.slice pb' lb' cb', .slice pw' lw' cw', .slice pt' lt' ct', .slice ps' ls' cs', .int .i64 sky', .int .i64 st'] 33)).heap[w.heap.size]? = some (.cells #[.slice pb lb cb, .slice pw lw cw, .slice pt lt ct, .slice ps ls cs, .int .i64 sky, .int .i64 st] 33)) := heap_alloc2_old _ _ _
  have Q0 : Hid (((w.alloc (.cells #[.slice pb lb cb, .slice pw lw cw, .slice pt lt ct, .slice ps ls cs, .int .i64 sky, .int .i64 st] 33)).alloc (.cells #[.slice pb' lb' cb', .slice pw' lw' cw', .slice pt' lt' ct', .slice ps' ls' cs', .int .i64 sky', .int .i64 st'] 33)).heap[w.heap.size + 1]? = some (.cells #[.slice pb' lb' cb', .slice pw' lw' cw', .slice pt' lt' ct', .slice ps' ls' cs', .int .i64 sky', .int .i64 st'] 33)) := heap_alloc2_new _ _ _
  go_enter Tryz.func16, Tryz.ntmps16
  go_upto_region 1 with fail
  generalize hW : World.alloc (World.alloc w _) _ = v0 at *
  obtain ⟨ga, hga⟩ : ∃ g, w.heap.size = g := ⟨_, rfl⟩
  obtain ⟨gq, hgq⟩ : ∃ g, w.heap.size + 1 = g := ⟨_, rfl⟩
  rw [hgq] at Q0 ⊢
  rw [hga] at R0 ⊢
  clear hga hgq hW
  have x0 := cell_of_row _ _ 0 _ _ _ R0.out
  have x1 := cell_of_row _ _ 1 _ _ _ R0.out
  have x2 := cell_of_row _ _ 2 _ _ _ R0.out
  have x3 := cell_of_row _ _ 3 _ _ _ R0.out
  have x4 := cell_of_row _ _ 4 _ _ _ R0.out
  have x5 := cell_of_row _ _ 5 _ _ _ R0.out
  have y0 := cell_of_row _ _ 0 _ _ _ Q0.out
  have y1 := cell_of_row _ _ 1 _ _ _ Q0.out
  have y2 := cell_of_row _ _ 2 _ _ _ Q0.out
  have y3 := cell_of_row _ _ 3 _ _ _ Q0.out
  have y4 := cell_of_row _ _ 4 _ _ _ Q0.out
  have y5 := cell_of_row _ _ 5 _ _ _ Q0.out
  have CC := hid (rall20 pb pb' lb cb lb' cb' B B' v0 HL.out.1.1 HL.out.2.1 (I1.out.below A0.out) (J1.out.below A0.out))
  rw [H0.out] at CC
  go_wp2_with fail
  refine CC.out.mono ?_
  rintro e9 v1 ⟨rfl, k9⟩
  have B1 : Hid (Ab v0 v1) := k9
  have A1 : Hid (Ab w v1) := A0.out.trans B1.out
  clear k9 CC x0 x1 x2 x3 x4 x5 y0 y1 y2 y3 y4 y5
  have x0 := cell_of_row _ _ 0 _ _ _ (B1.out.heap R0.out)
  have x1 := cell_of_row _ _ 1 _ _ _ (B1.out.heap R0.out)
  have x2 := cell_of_row _ _ 2 _ _ _ (B1.out.heap R0.out)
  have x3 := cell_of_row _ _ 3 _ _ _ (B1.out.heap R0.out)
  have x4 := cell_of_row _ _ 4 _ _ _ (B1.out.heap R0.out)
  have x5 := cell_of_row _ _ 5 _ _ _ (B1.out.heap R0.out)
  have y0 := cell_of_row _ _ 0 _ _ _ (B1.out.heap Q0.out)
  have y1 := cell_of_row _ _ 1 _ _ _ (B1.out.heap Q0.out)
  have y2 := cell_of_row _ _ 2 _ _ _ (B1.out.heap Q0.out)
  have y3 := cell_of_row _ _ 3 _ _ _ (B1.out.heap Q0.out)
  have y4 := cell_of_row _ _ 4 _ _ _ (B1.out.heap Q0.out)
  have y5 := cell_of_row _ _ 5 _ _ _ (B1.out.heap Q0.out)
  have CC := hid (rwhole20 pw pw' lw cw lw' cw' W W' v1 HL.out.1.2.1 HL.out.2.2.1 (I2.out.below A1.out) (J2.out.below A1.out))
  rw [H1.out] at CC
  go_wp2_with fail
  refine CC.out.mono ?_
  rintro e9 v2 ⟨rfl, k9⟩
  have B2 : Hid (Ab v0 v2) := B1.out.call k9
  have A2 : Hid (Ab w v2) := A0.out.trans B2.out
  clear k9 CC x0 x1 x2 x3 x4 x5 y0 y1 y2 y3 y4 y5
  have x0 := cell_of_row _ _ 0 _ _ _ (B2.out.heap R0.out)
  have x1 := cell_of_row _ _ 1 _ _ _ (B2.out.heap R0.out)
  have x2 := cell_of_row _ _ 2 _ _ _ (B2.out.heap R0.out)
  have x3 := cell_of_row _ _ 3 _ _ _ (B2.out.heap R0.out)
  have x4 := cell_of_row _ _ 4 _ _ _ (B2.out.heap R0.out)
  have x5 := cell_of_row _ _ 5 _ _ _ (B2.out.heap R0.out)
  have y0 := cell_of_row _ _ 0 _ _ _ (B2.out.heap Q0.out)
  have y1 := cell_of_row _ _ 1 _ _ _ (B2.out.heap Q0.out)
  have y2 := cell_of_row _ _ 2 _ _ _ (B2.out.heap Q0.out)
  have y3 := cell_of_row _ _ 3 _ _ _ (B2.out.heap Q0.out)
  have y4 := cell_of_row _ _ 4 _ _ _ (B2.out.heap Q0.out)
  have y5 := cell_of_row _ _ 5 _ _ _ (B2.out.heap Q0.out)
  have CC := hid (rwhole20 pt pt' lt ct lt' ct' T T' v2 HL.out.1.2.2.1 HL.out.2.2.2.1 (I3.out.below A2.out) (J3.out.below A2.out))
  rw [H2.out] at CC
  go_wp2_with fail
  refine CC.out.mono ?_
  rintro e9 v3 ⟨rfl, k9⟩
  have B3 : Hid (Ab v0 v3) := B2.out.call k9
  have A3 : Hid (Ab w v3) := A0.out.trans B3.out
  clear k9 CC x0 x1 x2 x3 x4 x5 y0 y1 y2 y3 y4 y5
  have x0 := cell_of_row _ _ 0 _ _ _ (B3.out.heap R0.out)
  have x1 := cell_of_row _ _ 1 _ _ _ (B3.out.heap R0.out)
  have x2 := cell_of_row _ _ 2 _ _ _ (B3.out.heap R0.out)
  have x3 := cell_of_row _ _ 3 _ _ _ (B3.out.heap R0.out)
  have x4 := cell_of_row _ _ 4 _ _ _ (B3.out.heap R0.out)
  have x5 := cell_of_row _ _ 5 _ _ _ (B3.out.heap R0.out)
  have y0 := cell_of_row _ _ 0 _ _ _ (B3.out.heap Q0.out)
  have y1 := cell_of_row _ _ 1 _ _ _ (B3.out.heap Q0.out)
  have y2 := cell_of_row _ _ 2 _ _ _ (B3.out.heap Q0.out)
  have y3 := cell_of_row _ _ 3 _ _ _ (B3.out.heap Q0.out)
  have y4 := cell_of_row _ _ 4 _ _ _ (B3.out.heap Q0.out)
  have y5 := cell_of_row _ _ 5 _ _ _ (B3.out.heap Q0.out)
  have CC := hid (rall20 ps ps' ls cs ls' cs' S S' v3 HL.out.1.2.2.2 HL.out.2.2.2.2 (I4.out.below A3.out) (J4.out.below A3.out))
  rw [H3.out] at CC
  go_wp2_with fail
  refine CC.out.mono ?_
  rintro e9 v4 ⟨rfl, k9⟩
  have B4 : Hid (Ab v0 v4) := B3.out.call k9
  have A4 : Hid (Ab w v4) := A0.out.trans B4.out
  clear k9 CC x0 x1 x2 x3 x4 x5 y0 y1 y2 y3 y4 y5
  have x0 := cell_of_row _ _ 0 _ _ _ (B4.out.heap R0.out)
  have x1 := cell_of_row _ _ 1 _ _ _ (B4.out.heap R0.out)
  have x2 := cell_of_row _ _ 2 _ _ _ (B4.out.heap R0.out)
  have x3 := cell_of_row _ _ 3 _ _ _ (B4.out.heap R0.out)
  have x4 := cell_of_row _ _ 4 _ _ _ (B4.out.heap R0.out)
  have x5 := cell_of_row _ _ 5 _ _ _ (B4.out.heap R0.out)
  have y0 := cell_of_row _ _ 0 _ _ _ (B4.out.heap Q0.out)
  have y1 := cell_of_row _ _ 1 _ _ _ (B4.out.heap Q0.out)
  have y2 := cell_of_row _ _ 2 _ _ _ (B4.out.heap Q0.out)
  have y3 := cell_of_row _ _ 3 _ _ _ (B4.out.heap Q0.out)
  have y4 := cell_of_row _ _ 4 _ _ _ (B4.out.heap Q0.out)
  have y5 := cell_of_row _ _ 5 _ _ _ (B4.out.heap Q0.out)
  go_wp2
  go_ret
  exact ⟨rfl, A4.out⟩
theorem rsame_at (pb : Option Addr) (lb cb : Nat) (B : Nat -> Nat) (pw : Option Addr) (lw cw : Nat) (W : Nat -> Int) (pt : Option Addr) (lt ct : Nat) (T : Nat -> Int) (ps : Option Addr) (ls cs : Nat) (S : Nat -> Nat) (sky st : Int) (pb' : Option Addr) (lb' cb' : Nat) (B' : Nat -> Nat) (pw' : Option Addr) (lw' cw' : Nat) (W' : Nat -> Int) (pt' : Option Addr) (lt' ct' : Nat) (T' : Nat -> Int) (ps' : Option Addr) (ls' cs' : Nat) (S' : Nat -> Nat) (sky' st' : Int) (w : World) (hl : (lb <= 131072 /\ lw <= 131072 /\ lt <= 131072 /\ ls <= 131072)) (hl' : (lb' <= 131072 /\ lw' <= 131072 /\ lt' <= 131072 /\ ls' <= 131072)) (i1 : IsFl w pb lb B) (i2 : Sh.IsI w pw lw W) (i3 : Sh.IsI w pt lt T) (i4 : IsFl w ps ls S) (j1 : IsFl w pb' lb' B') (j2 : Sh.IsI w pw' lw' W') (j3 : Sh.IsI w pt' lt' T') (j4 : IsFl w ps' ls' S') :
    Calls Tryz.prog 16 #[.agg #[.slice pb lb cb, .slice pw lw cw, .slice pt lt ct, .slice ps ls cs, .int .i64 sky, .int .i64 st], .agg #[.slice pb' lb' cb', .slice pw' lw' cw', .slice pt' lt' ct', .slice ps' ls' cs', .int .i64 sky', .int .i64 st']] w fun e w' => e = .returned (.bool (eqS lb lw lt ls B W T S sky st lb' lw' lt' ls' B' W' T' S' sky' st')) /\ Below w.heap.size w w' := by
  unfold eqS
  cases h0 : eqL lb lb' B B' with
  | false => exact rsame_0 pb lb cb B pw lw cw W pt lt ct T ps ls cs S sky st pb' lb' cb' B' pw' lw' cw' W' pt' lt' ct' T' ps' ls' cs' S' sky' st' w ⟨hl, hl'⟩ i1 j1 h0
  | true =>
    cases h1 : eqL lw lw' W W' with
    | false => exact rsame_1 pb lb cb B pw lw cw W pt lt ct T ps ls cs S sky st pb' lb' cb' B' pw' lw' cw' W' pt' lt' ct' T' ps' ls' cs' S' sky' st' w ⟨hl, hl'⟩ i1 i2 j1 j2 h0 h1
    | true =>
      cases h2 : eqL lt lt' T T' with
      | false => exact rsame_2 pb lb cb B pw lw cw W pt lt ct T ps ls cs S sky st pb' lb' cb' B' pw' lw' cw' W' pt' lt' ct' T' ps' ls' cs' S' sky' st' w ⟨hl, hl'⟩ i1 i2 i3 j1 j2 j3 h0 h1 h2
      | true =>
        cases h3 : eqL ls ls' S S' with
        | false => exact rsame_3 pb lb cb B pw lw cw W pt lt ct T ps ls cs S sky st pb' lb' cb' B' pw' lw' cw' W' pt' lt' ct' T' ps' ls' cs' S' sky' st' w ⟨hl, hl'⟩ i1 i2 i3 i4 j1 j2 j3 j4 h0 h1 h2 h3
        | true =>
          by_cases h4 : sky = sky'
          · by_cases h5 : st = st'
            · rw [decide_eq_true h4, decide_eq_true h5]
              exact rsame_6 pb lb cb B pw lw cw W pt lt ct T ps ls cs S sky st pb' lb' cb' B' pw' lw' cw' W' pt' lt' ct' T' ps' ls' cs' S' sky' st' w ⟨hl, hl'⟩ i1 i2 i3 i4 j1 j2 j3 j4 h0 h1 h2 h3 (by simp [h4]) (by simp [h5])
            · rw [decide_eq_true h4, decide_eq_false h5]
              exact rsame_5 pb lb cb B pw lw cw W pt lt ct T ps ls cs S sky st pb' lb' cb' B' pw' lw' cw' W' pt' lt' ct' T' ps' ls' cs' S' sky' st' w ⟨hl, hl'⟩ i1 i2 i3 i4 j1 j2 j3 j4 h0 h1 h2 h3 (by simp [h4]) (by simp [h5])
          · rw [decide_eq_false h4]
            exact rsame_4 pb lb cb B pw lw cw W pt lt ct T ps ls cs S sky st pb' lb' cb' B' pw' lw' cw' W' pt' lt' ct' T' ps' ls' cs' S' sky' st' w ⟨hl, hl'⟩ i1 i2 i3 i4 j1 j2 j3 j4 h0 h1 h2 h3 (by simp [h4])
end Ss
end Go.Proofs.YtdigecacmibkpaaGreatDoor

namespace Go.Proofs.YtdigecacmibkpaaGreatDoor
open Go.RowKit Tf
attribute [local go_sem] run_bits run_from raw_feq raw_fne raw_flt raw_fgt run_neg
theorem run_store_func {P : Program} {w : World} {a : Addr} {m : Mode} (f : Fn) (x y : Array Value) : (store a (.func f x y) m).run P w = stored P w a (.func f x y) m := run_store P w a _ m rfl
attribute [local go_sem] run_store_func
theorem limiters_at (w : World) : Calls Tryz.prog 120 #[] w fun e w' => e = .returned (.agg #[.func (.func 150) #[] #[], .func (.func 151) #[] #[], .func (.func 152) #[] #[], .func (.func 153) #[] #[]]) /\ Below w.heap.size w w' := by
  go_enter Tryz.func120, Tryz.ntmps120
  go_wp2
  refine bodyPost_ret ?_ rfl ⟨rfl, ?_⟩
  · exact results_cell_row Tryz.results120 _ _ w.heap.size _ _ (0, 0) _ rfl (heap_alloc_new w _) Tryz.underlying141 rfl (by kernel_rfl)
  · exact bl1 w _
theorem valid_at (k : Int) (w : World) : Calls Tryz.prog 76 #[.int .i64 k] w fun e w' => e = .returned (.bool (decide (0 <= k /\ k <= 3))) /\ Below w.heap.size w w' := by
  have L := hid (limiters_at w)
  by_cases c : 0 <= k
  · have e : decide (0 <= k /\ k <= 3) = decide (k < 4) := by by_cases d : k < 4 <;> simp [d] <;> omega
    rw [e]
    clear e
    go_enter Tryz.func76, Tryz.ntmps76
    go_wp2_with fail
    refine L.out.mono ?_
    rintro e w1 ⟨rfl, b1⟩
    go_wp2
    go_ret
    exact ⟨rfl, b1⟩
  · have e : decide (0 <= k /\ k <= 3) = false := decide_eq_false (by omega)
    rw [e]
    clear e
    go_enter Tryz.func76, Tryz.ntmps76
    go_wp2
    go_ret
    exact ⟨rfl, Below.refl _ _⟩
end Go.Proofs.YtdigecacmibkpaaGreatDoor

namespace Go.Proofs.YtdigecacmibkpaaGreatDoor
open Go.RowKit Tf
attribute [local go_sem] run_bits run_from raw_feq raw_fne raw_flt raw_fgt run_neg
theorem IsC.refl {x : Nat} (h : x <= 9218868437227405312) : IsC x x := ⟨by omega, canon_nn h⟩
end Go.Proofs.YtdigecacmibkpaaGreatDoor

namespace Go.Proofs.YtdigecacmibkpaaGreatDoor
open Go.RowKit Tf Cu Go.Deep
namespace Rv
def kb (x : Nat) : Nat := placeB (canonB x)
def kB (B : Nat -> Nat) (c : Nat) : Nat := kb (B c)
def OwnN (B : Nat) (v : Value) (l : List Nat) (w : World) : Prop := w.ownsRow B 3 1 v l.length (l.map fun c => Value.int .i64 (c : Nat))
end Rv
end Go.Proofs.YtdigecacmibkpaaGreatDoor

namespace Go.Proofs.YtdigecacmibkpaaGreatDoor
open Go.RowKit Tf Cu Go.Deep
attribute [local go_sem] run_bits run_from raw_feq raw_fne raw_flt raw_fgt run_neg run_store_float
namespace Rv
theorem OwnN.in {B : Nat} {v : Value} {l : List Nat} {w : World} (h : OwnN B v l w) (hl : ∀ x ∈ l, x <= 9223372036854775807) : ∃ a0 cap, v = .slice a0 l.length cap /\ Sh.IsI w a0 l.length (fun j => ((l.getD j 0 : Nat) : Int)) := by
  rcases h.2 with ⟨rfl, h0⟩ | ⟨g, cap, cur, rfl, hb, hg, h1, h2, h3, h4⟩
  · exact ⟨none, 0, by rw [h0], fun k hk => by omega⟩
  · refine ⟨some ⟨g, 0, none⟩, cap, rfl, fun k hk => ?_⟩
    have hx : l.getD k 0 = l[k] := by simp [List.getD, hk]
    have := hl _ (List.getElem_mem hk)
    refine ⟨by dsimp only; rw [hx]; omega, g, 0, rfl, lt_of_block hg, ?_⟩
    have e := h.cells (g := g) rfl k (.int .i64 ((l.getD k 0 : Nat) : Int)) (by simp [hk])
    rw [Sh.add_off] at e
    exact e
end Rv
end Go.Proofs.YtdigecacmibkpaaGreatDoor

namespace Go.Proofs.YtdigecacmibkpaaGreatDoor
open Go.RowKit Tf Cu Go.Deep
namespace Rv
def AbQ (V : World) (P : Nat -> Prop) (w : World) : Prop := w.os = V.os /\ w.tape = V.tape /\ w.output = V.output /\ V.heap.size <= w.heap.size /\ ∀ k, k < V.heap.size -> ¬ P k -> w.heap[k]? = V.heap[k]?
theorem AbQ.refl (V : World) (P : Nat -> Prop) : AbQ V P V := ⟨rfl, rfl, rfl, Nat.le_refl _, fun _ _ _ => rfl⟩
theorem AbQ.to {V w w' : World} {P : Nat -> Prop} (h : AbQ V P w) (a : Ab w w') : AbQ V P w' := by
  obtain ⟨h1, h2, h3, h4, h5⟩ := h
  exact ⟨a.os.trans h1, a.tape.trans h2, a.output.trans h3, Nat.le_trans h4 a.size, fun k hk hp => (a.block k (by omega)).trans (h5 k hk hp)⟩
theorem AbQ.set {V w : World} {P : Nat -> Prop} (h : AbQ V P w) {g k : Nat} (hp : P g \/ V.heap.size <= g) (v : Value) : AbQ V P (w.setCell ⟨g, k, none⟩ v) := by
  obtain ⟨h1, h2, h3, h4, h5⟩ := h
  refine ⟨h1, h2, h3, by simpa [World.setCell] using h4, fun i hi hn => (Below.heap_setCell _ _ _ _ (fun e => ?_)).trans (h5 i hi hn)⟩
  have e2 : i = g := e
  rcases hp with h | h
  · exact hn (by rw [e2]; exact h)
  · omega
theorem AbQ.grown {V wr w' : World} {P : Nat -> Prop} {row : Option Nat} (h : AbQ V P wr) (hg : wr.grownBy w' row) (hr : ∀ b, row = some b -> P b \/ V.heap.size <= b) : AbQ V P w' := by
  obtain ⟨h1, h2, h3, h4, h5⟩ := h
  refine ⟨hg.os.trans h1, hg.tape.trans h2, hg.output.trans h3, by have := hg.size; omega, fun k hk hn => ?_⟩
  refine (hg.block k (by omega) (fun e => ?_)).trans (h5 k hk hn)
  rcases hr k e.symm with h6 | h6
  · exact hn h6
  · omega
theorem AbQ.ab {w0 V w : World} {P : Nat -> Prop} (h : AbQ V P w) (a : Ab w0 V) (hp : ∀ k, k < w0.heap.size -> ¬ P k) : Ab w0 w := by
  obtain ⟨h1, h2, h3, h4, h5⟩ := h
  exact ⟨h1.trans a.os, h2.trans a.tape, h3.trans a.output, Nat.le_trans (Below.size a) h4, fun k hk => (h5 k (Nat.lt_of_lt_of_le hk (Below.size a)) (hp k hk)).trans (a.block k hk)⟩
theorem AbQ.isI {V w : World} {P : Nat -> Prop} {p : Option Addr} {n : Nat} {f : Nat -> Int} (a : AbQ V P w) (h : Sh.IsI V p n f) (hp : ∀ b o, p = some ⟨b, o, none⟩ -> ¬ P b) : Sh.IsI w p n f := fun k hk => by
  obtain ⟨h1, b, o, h2, h3, h4⟩ := h k hk
  exact ⟨h1, b, o, h2, Nat.lt_of_lt_of_le h3 a.2.2.2.1, (World.cell?_of_block (a.2.2.2.2 b h3 (hp b o h2))).trans h4⟩
theorem AbQ.isFl {V w : World} {P : Nat -> Prop} {p : Option Addr} {n : Nat} {f : Nat -> Nat} (a : AbQ V P w) (h : IsFl V p n f) (hp : ∀ b o, p = some ⟨b, o, none⟩ -> ¬ P b) : IsFl w p n f := fun k hk => by
  obtain ⟨h1, b, o, h2, h3, h4⟩ := h k hk
  exact ⟨h1, b, o, h2, Nat.lt_of_lt_of_le h3 a.2.2.2.1, (World.cell?_of_block (a.2.2.2.2 b h3 (hp b o h2))).trans h4⟩
def OT (t : TypeId) (B : Nat) (v : Value) (l : List Int) (w : World) : Prop := w.ownsRow B t 1 v l.length (l.map (Value.int .i64))
theorem OT.mono {t : TypeId} {B C : Nat} {v : Value} {l : List Int} {w : World} (h : OT t B v l w) (hc : C <= B) : OT t C v l w := by
  rcases h.2 with ⟨q, e⟩ | ⟨g, cap, cur, q, hb, rest⟩
  · exact ⟨h.1, .inl ⟨q, e⟩⟩
  · exact ⟨h.1, .inr ⟨g, cap, cur, q, Nat.le_trans hc hb, rest⟩⟩
theorem OT.blk {t : TypeId} {B : Nat} {v : Value} {l : List Int} {w : World} (h : OT t B v l w) {k : Nat} (hk : v.ownBlock = some k) : B <= k /\ k < w.heap.size := World.ownsRow.lt h k hk
theorem OT.at {t : TypeId} {B : Nat} {v : Value} {l : List Int} {w : World} (h : OT t B v l w) {c : Nat} (hc : c < l.length) :
    ∃ g cap, v = .slice (some ⟨g, 0, none⟩) l.length cap /\ w.cell? ⟨g, c, none⟩ = some (.int .i64 (l.getD c 0)) /\ w.frozen? ⟨g, c, none⟩ = false /\ ∀ x, OT t B v (l.set c x) (w.setCell ⟨g, c, none⟩ (.int .i64 x)) := by
  rcases h.2 with ⟨q, e⟩ | ⟨g, cap, cur, q, hb, hg, h1, h2, h3, h4⟩
  · omega
  · have e2 := World.ownsRow.cells (g := g) h (by rw [q]; rfl) c (.int .i64 (l.getD c 0)) (by simp [hc, List.getD])
    rw [Sh.add_off, Nat.zero_add] at e2
    refine ⟨g, cap, q, e2, by simp [World.frozen?, hg], fun x => ⟨by simp, .inr ⟨g, cap, cur.setIfInBounds c (.int .i64 x), by rw [List.length_set]; exact q, hb, one_set hg, by rw [List.length_set]; exact h1, h2, by simpa using h3, ?_⟩⟩⟩
    rw [List.length_set, Array.toList_setIfInBounds, List.take_set, h4, List.map_set]
theorem OT.blkeq {t : TypeId} {B : Nat} {v : Value} {l : List Int} {w w' : World} (h : OT t B v l w) (e : ∀ k, v.ownBlock = some k -> w'.heap[k]? = w.heap[k]?) : OT t B v l w' := by
  rcases h.2 with ⟨q, e2⟩ | ⟨g, cap, cur, q, hb, hg, rest⟩
  · exact ⟨h.1, .inl ⟨q, e2⟩⟩
  · exact ⟨h.1, .inr ⟨g, cap, cur, q, hb, (e g (by rw [q]; rfl)).trans hg, rest⟩⟩
theorem OT.other {t : TypeId} {B : Nat} {v : Value} {l : List Int} {w : World} (h : OT t B v l w) {g c : Nat} (u : Value) (hg : v.ownBlock ≠ some g) : OT t B v l (w.setCell ⟨g, c, none⟩ u) := h.blkeq (fun k hk => Below.heap_setCell _ _ _ _ (fun e => hg (by have e2 : k = g := e; rw [<- e2]; exact hk)))
theorem OT.grown {t : TypeId} {B : Nat} {v : Value} {l : List Int} {w w' : World} {row : Option Nat} (h : OT t B v l w) (x : w.grownBy w' row) (hg : ∀ k, v.ownBlock = some k -> row ≠ some k) : OT t B v l w' := h.blkeq (fun k hk => x.block k (h.blk hk).2 (fun e => hg k hk e.symm))
theorem OT.to {t : TypeId} {B : Nat} {v : Value} {l : List Int} {w w' : World} (h : OT t B v l w) (a : Ab w w') : OT t B v l w' := h.blkeq (fun k hk => a.block k (h.blk hk).2)
theorem OT.isI {t : TypeId} {B : Nat} {v : Value} {l : List Int} {w : World} (h : OT t B v l w) (hl : ∀ x ∈ l, -9223372036854775808 <= x /\ x <= 9223372036854775807) : ∃ p cap, v = .slice p l.length cap /\ Sh.IsI w p l.length (fun j => l.getD j 0) := by
  rcases h.2 with ⟨q, e2⟩ | ⟨g, cap, cur, q, hb, hg, rest⟩
  · exact ⟨none, 0, by rw [q, e2], fun k hk => by omega⟩
  · refine ⟨_, cap, q, fun k hk => ⟨?_, g, 0, rfl, lt_of_block hg, ?_⟩⟩
    · have e : l.getD k 0 = l[k] := by simp [List.getD, hk]
      dsimp only
      rw [e]
      exact hl _ (List.getElem_mem hk)
    · have e := World.ownsRow.cells (g := g) h (by rw [q]; rfl) k (.int .i64 (l.getD k 0)) (by simp [hk, List.getD])
      rw [Sh.add_off] at e
      exact e
theorem OT.new {t : TypeId} (w : World) (B : Nat) (hB : B <= w.heap.size) : OT t B (.slice (some ⟨w.heap.size, 0, none⟩) 0 0) [] (w.alloc (.cells #[] t)) :=
  ⟨by simp, .inr ⟨w.heap.size, 0, #[], rfl, hB, heap_alloc_new _ _, Nat.le_refl _, by unfold maxLen; omega, by simp, by simp⟩⟩
theorem lt_of_get {w : World} {b : Nat} {o : Obj} (h : w.heap[b]? = some o) : b < w.heap.size := by
  rcases Nat.lt_or_ge b w.heap.size with h1 | h1
  · exact h1
  · rw [Array.getElem?_eq_none h1] at h; cases h
theorem AbQ.heap {V w : World} {P : Nat -> Prop} (a : AbQ V P w) {b : Nat} {o : Obj} (h : V.heap[b]? = some o) (hp : ¬ P b) : w.heap[b]? = some o := (a.2.2.2.2 b (lt_of_get h) hp).trans h
end Rv
end Go.Proofs.YtdigecacmibkpaaGreatDoor
