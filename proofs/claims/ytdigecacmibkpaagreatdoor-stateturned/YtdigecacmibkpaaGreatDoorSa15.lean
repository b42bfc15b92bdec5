/-
  Some of the texts of this proof, one behind the other.
-/
import Derived.Test.YtdigecacmibkpaaGreatDoorSa14
namespace Go.Proofs.YtdigecacmibkpaaGreatDoor
open Go.RowKit Tf Cu Go.Deep
attribute [local go_sem] run_bits run_from raw_feq raw_fne raw_flt raw_fgt run_neg run_store_float
namespace Ss
/-- the four lengths, as Check looks at them -/
def szN (N lb lw lt ls : Nat) (k : Nat) : Int := if k = 0 then (lb : Int) else if k = 1 then (lw : Int) else if k = 2 then (lt : Int) else (ls : Int) - N
theorem chN_size {N lb lw lt ls : Nat} {B : Nat → Nat} {W T : Nat → Int} {S : Nat → Nat} {sky st : Int} {k : Nat} (hk : k < 4) (h : ∀ i, i < k → szN N lb lw lt ls i = N) (hne : szN N lb lw lt ls k ≠ N) : chN N lb lw lt ls B W T S sky st = (((k : Nat) : Int), 12) := by
  unfold chN
  have h0 := h 0
  have h1 := h 1
  have h2 := h 2
  unfold szN at h0 h1 h2 hne
  simp only [if_true, if_neg (show ¬ (1 : Nat) = 0 by omega), if_neg (show ¬ (2 : Nat) = 0 by omega), if_neg (show ¬ (2 : Nat) = 1 by omega)] at h0 h1 h2
  match k, hk with
  | 0, _ =>
    rw [if_pos rfl] at hne
    rw [if_pos (by omega)]
    rfl
  | 1, _ =>
    rw [if_neg (by omega), if_pos rfl] at hne
    have := h0 (by omega)
    rw [if_neg (by omega), if_pos (by omega)]
    rfl
  | 2, _ =>
    rw [if_neg (by omega), if_neg (by omega), if_pos rfl] at hne
    have := h0 (by omega)
    have := h1 (by omega)
    rw [if_neg (by omega), if_neg (by omega), if_pos (by omega)]
    rfl
  | 3, _ =>
    rw [if_neg (by omega), if_neg (by omega), if_neg (by omega)] at hne
    have := h0 (by omega)
    have := h1 (by omega)
    have := h2 (by omega)
    rw [if_neg (by omega), if_neg (by omega), if_neg (by omega), if_pos (by omega)]
    rfl
theorem szN_all {N lb lw lt ls : Nat} (h : ∀ i, i < 4 → szN N lb lw lt ls i = N) : lb = N ∧ lw = N ∧ lt = N ∧ ls = 2 * N := by
  have h0 := h 0 (by omega)
  have h1 := h 1 (by omega)
  have h2 := h 2 (by omega)
  have h3 := h 3 (by omega)
  unfold szN at h0 h1 h2 h3
  simp only [if_true, if_neg (show ¬ (1 : Nat) = 0 by omega), if_neg (show ¬ (2 : Nat) = 0 by omega), if_neg (show ¬ (2 : Nat) = 1 by omega), if_neg (show ¬ (3 : Nat) = 0 by omega), if_neg (show ¬ (3 : Nat) = 1 by omega), if_neg (show ¬ (3 : Nat) = 2 by omega)] at h0 h1 h2 h3
  omega
/-- what is looked at behind the lengths -/
def chM (N : Nat) (B : Nat → Nat) (W T : Nat → Int) (S : Nat → Nat) (sky st : Int) : Int × Int :=
  if 0 ≤ fp (bB B) N then (fp (bB B) N, 13)
  else if sky < 0 ∨ 4503599627370496 < sky then (0, 17)
  else if 0 ≤ fp (bQ W sky) N then (fp (bQ W sky) N, 14)
  else if 0 ≤ fp (bQ T 0) N then (fp (bQ T 0) N, 15)
  else if 0 ≤ fp (bS S) (2 * N) then (fp (bS S) (2 * N), 16)
  else if st < 0 ∨ 4611686018427387904 < st then (0, 1) else (0, 0)
theorem chN_M {N lb lw lt ls : Nat} {B : Nat → Nat} {W T : Nat → Int} {S : Nat → Nat} {sky st : Int} (h : lb = N ∧ lw = N ∧ lt = N ∧ ls = 2 * N) : chN N lb lw lt ls B W T S sky st = chM N B W T S sky st := by
  unfold chN chM
  rw [if_neg (by omega), if_neg (by omega), if_neg (by omega), if_neg (by omega)]
set_option maxRecDepth 100000 in
set_option maxHeartbeats 16000000 in
theorem rsame_0 (pb : Option Addr) (lb cb : Nat) (B : Nat → Nat) (pw : Option Addr) (lw cw : Nat) (_W : Nat → Int) (pt : Option Addr) (lt ct : Nat) (_T : Nat → Int) (ps : Option Addr) (ls cs : Nat) (_S : Nat → Nat) (sky st : Int) (pb' : Option Addr) (lb' cb' : Nat) (B' : Nat → Nat) (pw' : Option Addr) (lw' cw' : Nat) (_W' : Nat → Int) (pt' : Option Addr) (lt' ct' : Nat) (_T' : Nat → Int) (ps' : Option Addr) (ls' cs' : Nat) (_S' : Nat → Nat) (sky' st' : Int) (w : World) (HL : Hid ((lb ≤ 131072 ∧ lw ≤ 131072 ∧ lt ≤ 131072 ∧ ls ≤ 131072) ∧ (lb' ≤ 131072 ∧ lw' ≤ 131072 ∧ lt' ≤ 131072 ∧ ls' ≤ 131072))) (I1 : Hid (IsFl w pb lb B)) (J1 : Hid (IsFl w pb' lb' B')) (h0 : eqL lb lb' B B' = false) :
    Calls Tryz.prog 16 #[.agg #[.slice pb lb cb, .slice pw lw cw, .slice pt lt ct, .slice ps ls cs, .int .i64 sky, .int .i64 st], .agg #[.slice pb' lb' cb', .slice pw' lw' cw', .slice pt' lt' ct', .slice ps' ls' cs', .int .i64 sky', .int .i64 st']] w fun e w' => e = .returned (.bool false) ∧ Below w.heap.size w w' := by
  have H0 := hid h0
  clear h0
  have A0 : Hid (Ab w ((w.alloc (.cells #[.slice pb lb cb, .slice pw lw cw, .slice pt lt ct, .slice ps ls cs, .int .i64 sky, .int .i64 st] 33)).alloc (.cells #[.slice pb' lb' cb', .slice pw' lw' cw', .slice pt' lt' ct', .slice ps' ls' cs', .int .i64 sky', .int .i64 st'] 33))) := bl2 _ _ _
  have R0 : Hid (((w.alloc (.cells #[.slice pb lb cb, .slice pw lw cw, .slice pt lt ct, .slice ps ls cs, .int .i64 sky, .int .i64 st] 33)).alloc (.cells #[.slice pb' lb' cb', .slice pw' lw' cw', .slice pt' lt' ct', .slice ps' ls' cs', .int .i64 sky', .int .i64 st'] 33)).heap[w.heap.size]? = some (.cells #[.slice pb lb cb, .slice pw lw cw, .slice pt lt ct, .slice ps ls cs, .int .i64 sky, .int .i64 st] 33)) := heap_alloc2_old _ _ _
  have Q0 : Hid (((w.alloc (.cells #[.slice pb lb cb, .slice pw lw cw, .slice pt lt ct, .slice ps ls cs, .int .i64 sky, .int .i64 st] 33)).alloc (.cells #[.slice pb' lb' cb', .slice pw' lw' cw', .slice pt' lt' ct', .slice ps' ls' cs', .int .i64 sky', .int .i64 st'] 33)).heap[w.heap.size + 1]? = some (.cells #[.slice pb' lb' cb', .slice pw' lw' cw', .slice pt' lt' ct', .slice ps' ls' cs', .int .i64 sky', .int .i64 st'] 33)) := heap_alloc2_new _ _ _
  go_enter Tryz.func16, Tryz.ntmps16
  go_upto_region 1 with fail
  generalize hW : World.alloc (World.alloc w _) _ = v0 at *
  obtain ⟨ga, hga⟩ : ∃ g, w.heap.size = g := ⟨_, rfl⟩
  obtain ⟨gq, hgq⟩ : ∃ g, w.heap.size + 1 = g := ⟨_, rfl⟩
  rw [hgq] at Q0 ⊢
  rw [hga] at R0 ⊢
  clear hga hgq hW
  have x0 := cell_of_row _ _ 0 _ _ _ R0.out
  have x1 := cell_of_row _ _ 1 _ _ _ R0.out
  have x2 := cell_of_row _ _ 2 _ _ _ R0.out
  have x3 := cell_of_row _ _ 3 _ _ _ R0.out
  have x4 := cell_of_row _ _ 4 _ _ _ R0.out
  have x5 := cell_of_row _ _ 5 _ _ _ R0.out
  have y0 := cell_of_row _ _ 0 _ _ _ Q0.out
  have y1 := cell_of_row _ _ 1 _ _ _ Q0.out
  have y2 := cell_of_row _ _ 2 _ _ _ Q0.out
  have y3 := cell_of_row _ _ 3 _ _ _ Q0.out
  have y4 := cell_of_row _ _ 4 _ _ _ Q0.out
  have y5 := cell_of_row _ _ 5 _ _ _ Q0.out
  have CC := hid (rall20 pb pb' lb cb lb' cb' B B' v0 HL.out.1.1 HL.out.2.1 (I1.out.below A0.out) (J1.out.below A0.out))
  rw [H0.out] at CC
  go_wp2_with fail
  refine CC.out.mono ?_
  rintro e9 v1 ⟨rfl, k9⟩
  have B1 : Hid (Ab v0 v1) := k9
  have A1 : Hid (Ab w v1) := A0.out.trans B1.out
  clear k9 CC x0 x1 x2 x3 x4 x5 y0 y1 y2 y3 y4 y5
  go_wp2
  go_ret
  exact ⟨rfl, A1.out⟩
set_option maxRecDepth 100000 in
set_option maxHeartbeats 16000000 in
theorem rsame_1 (pb : Option Addr) (lb cb : Nat) (B : Nat → Nat) (pw : Option Addr) (lw cw : Nat) (W : Nat → Int) (pt : Option Addr) (lt ct : Nat) (_T : Nat → Int) (ps : Option Addr) (ls cs : Nat) (_S : Nat → Nat) (sky st : Int) (pb' : Option Addr) (lb' cb' : Nat) (B' : Nat → Nat) (pw' : Option Addr) (lw' cw' : Nat) (W' : Nat → Int) (pt' : Option Addr) (lt' ct' : Nat) (_T' : Nat → Int) (ps' : Option Addr) (ls' cs' : Nat) (_S' : Nat → Nat) (sky' st' : Int) (w : World) (HL : Hid ((lb ≤ 131072 ∧ lw ≤ 131072 ∧ lt ≤ 131072 ∧ ls ≤ 131072) ∧ (lb' ≤ 131072 ∧ lw' ≤ 131072 ∧ lt' ≤ 131072 ∧ ls' ≤ 131072))) (I1 : Hid (IsFl w pb lb B)) (I2 : Hid (Sh.IsI w pw lw W)) (J1 : Hid (IsFl w pb' lb' B')) (J2 : Hid (Sh.IsI w pw' lw' W')) (h0 : eqL lb lb' B B' = true) (h1 : eqL lw lw' W W' = false) :
    Calls Tryz.prog 16 #[.agg #[.slice pb lb cb, .slice pw lw cw, .slice pt lt ct, .slice ps ls cs, .int .i64 sky, .int .i64 st], .agg #[.slice pb' lb' cb', .slice pw' lw' cw', .slice pt' lt' ct', .slice ps' ls' cs', .int .i64 sky', .int .i64 st']] w fun e w' => e = .returned (.bool false) ∧ Below w.heap.size w w' := by
  have H0 := hid h0
  have H1 := hid h1
  clear h0 h1
  have A0 : Hid (Ab w ((w.alloc (.cells #[.slice pb lb cb, .slice pw lw cw, .slice pt lt ct, .slice ps ls cs, .int .i64 sky, .int .i64 st] 33)).alloc (.cells #[.slice pb' lb' cb', .slice pw' lw' cw', .slice pt' lt' ct', .slice ps' ls' cs', .int .i64 sky', .int .i64 st'] 33))) := bl2 _ _ _
  have R0 : Hid (((w.alloc (.cells #[.slice pb lb cb, .slice pw lw cw, .slice pt lt ct, .slice ps ls cs, .int .i64 sky, .int .i64 st] 33)).alloc (.cells #[.slice pb' lb' cb', .slice pw' lw' cw', .slice pt' lt' ct', .slice ps' ls' cs', .int .i64 sky', .int .i64 st'] 33)).heap[w.heap.size]? = some (.cells #[.slice pb lb cb, .slice pw lw cw, .slice pt lt ct, .slice ps ls cs, .int .i64 sky, .int .i64 st] 33)) := heap_alloc2_old _ _ _
  have Q0 : Hid (((w.alloc (.cells #[.slice pb lb cb, .slice pw lw cw, .slice pt lt ct, .slice ps ls cs, .int .i64 sky, .int .i64 st] 33)).alloc (.cells #[.slice pb' lb' cb', .slice pw' lw' cw', .slice pt' lt' ct', .slice ps' ls' cs', .int .i64 sky', .int .i64 st'] 33)).heap[w.heap.size + 1]? = some (.cells #[.slice pb' lb' cb', .slice pw' lw' cw', .slice pt' lt' ct', .slice ps' ls' cs', .int .i64 sky', .int .i64 st'] 33)) := heap_alloc2_new _ _ _
  go_enter Tryz.func16, Tryz.ntmps16
  go_upto_region 1 with fail
  generalize hW : World.alloc (World.alloc w _) _ = v0 at *
  obtain ⟨ga, hga⟩ : ∃ g, w.heap.size = g := ⟨_, rfl⟩
  obtain ⟨gq, hgq⟩ : ∃ g, w.heap.size + 1 = g := ⟨_, rfl⟩
  rw [hgq] at Q0 ⊢
  rw [hga] at R0 ⊢
  clear hga hgq hW
  have x0 := cell_of_row _ _ 0 _ _ _ R0.out
  have x1 := cell_of_row _ _ 1 _ _ _ R0.out
  have x2 := cell_of_row _ _ 2 _ _ _ R0.out
  have x3 := cell_of_row _ _ 3 _ _ _ R0.out
  have x4 := cell_of_row _ _ 4 _ _ _ R0.out
  have x5 := cell_of_row _ _ 5 _ _ _ R0.out
  have y0 := cell_of_row _ _ 0 _ _ _ Q0.out
  have y1 := cell_of_row _ _ 1 _ _ _ Q0.out
  have y2 := cell_of_row _ _ 2 _ _ _ Q0.out
  have y3 := cell_of_row _ _ 3 _ _ _ Q0.out
  have y4 := cell_of_row _ _ 4 _ _ _ Q0.out
  have y5 := cell_of_row _ _ 5 _ _ _ Q0.out
  have CC := hid (rall20 pb pb' lb cb lb' cb' B B' v0 HL.out.1.1 HL.out.2.1 (I1.out.below A0.out) (J1.out.below A0.out))
  rw [H0.out] at CC
  go_wp2_with fail
  refine CC.out.mono ?_
  rintro e9 v1 ⟨rfl, k9⟩
  have B1 : Hid (Ab v0 v1) := k9
  have A1 : Hid (Ab w v1) := A0.out.trans B1.out
  clear k9 CC x0 x1 x2 x3 x4 x5 y0 y1 y2 y3 y4 y5
  have x0 := cell_of_row _ _ 0 _ _ _ (B1.out.heap R0.out)
  have x1 := cell_of_row _ _ 1 _ _ _ (B1.out.heap R0.out)
  have x2 := cell_of_row _ _ 2 _ _ _ (B1.out.heap R0.out)
  have x3 := cell_of_row _ _ 3 _ _ _ (B1.out.heap R0.out)
  have x4 := cell_of_row _ _ 4 _ _ _ (B1.out.heap R0.out)
  have x5 := cell_of_row _ _ 5 _ _ _ (B1.out.heap R0.out)
  have y0 := cell_of_row _ _ 0 _ _ _ (B1.out.heap Q0.out)
  have y1 := cell_of_row _ _ 1 _ _ _ (B1.out.heap Q0.out)
  have y2 := cell_of_row _ _ 2 _ _ _ (B1.out.heap Q0.out)
  have y3 := cell_of_row _ _ 3 _ _ _ (B1.out.heap Q0.out)
  have y4 := cell_of_row _ _ 4 _ _ _ (B1.out.heap Q0.out)
  have y5 := cell_of_row _ _ 5 _ _ _ (B1.out.heap Q0.out)
  have CC := hid (rwhole20 pw pw' lw cw lw' cw' W W' v1 HL.out.1.2.1 HL.out.2.2.1 (I2.out.below A1.out) (J2.out.below A1.out))
  rw [H1.out] at CC
  go_wp2_with fail
  refine CC.out.mono ?_
  rintro e9 v2 ⟨rfl, k9⟩
  have B2 : Hid (Ab v0 v2) := B1.out.call k9
  have A2 : Hid (Ab w v2) := A0.out.trans B2.out
  clear k9 CC x0 x1 x2 x3 x4 x5 y0 y1 y2 y3 y4 y5
  go_wp2
  go_ret
  exact ⟨rfl, A2.out⟩
set_option maxRecDepth 100000 in
set_option maxHeartbeats 16000000 in
theorem rsame_2 (pb : Option Addr) (lb cb : Nat) (B : Nat → Nat) (pw : Option Addr) (lw cw : Nat) (W : Nat → Int) (pt : Option Addr) (lt ct : Nat) (T : Nat → Int) (ps : Option Addr) (ls cs : Nat) (_S : Nat → Nat) (sky st : Int) (pb' : Option Addr) (lb' cb' : Nat) (B' : Nat → Nat) (pw' : Option Addr) (lw' cw' : Nat) (W' : Nat → Int) (pt' : Option Addr) (lt' ct' : Nat) (T' : Nat → Int) (ps' : Option Addr) (ls' cs' : Nat) (_S' : Nat → Nat) (sky' st' : Int) (w : World) (HL : Hid ((lb ≤ 131072 ∧ lw ≤ 131072 ∧ lt ≤ 131072 ∧ ls ≤ 131072) ∧ (lb' ≤ 131072 ∧ lw' ≤ 131072 ∧ lt' ≤ 131072 ∧ ls' ≤ 131072))) (I1 : Hid (IsFl w pb lb B)) (I2 : Hid (Sh.IsI w pw lw W)) (I3 : Hid (Sh.IsI w pt lt T)) (J1 : Hid (IsFl w pb' lb' B')) (J2 : Hid (Sh.IsI w pw' lw' W')) (J3 : Hid (Sh.IsI w pt' lt' T')) (h0 : eqL lb lb' B B' = true) (h1 : eqL lw lw' W W' = true) (h2 : eqL lt lt' T T' = false) :
    Calls Tryz.prog 16 #[.agg #[.slice pb lb cb, .slice pw lw cw, .slice pt lt ct, .slice ps ls cs, .int .i64 sky, .int .i64 st], .agg #[.slice pb' lb' cb', .slice pw' lw' cw', .slice pt' lt' ct', .slice ps' ls' cs', .int .i64 sky', .int .i64 st']] w fun e w' => e = .returned (.bool false) ∧ Below w.heap.size w w' := by
  have H0 := hid h0
  have H1 := hid h1
  have H2 := hid h2
  clear h0 h1 h2
  have A0 : Hid (Ab w ((w.alloc (.cells #[.slice pb lb cb, .slice pw lw cw, .slice pt lt ct, .slice ps ls cs, .int .i64 sky, .int .i64 st] 33)).alloc (.cells #[.slice pb' lb' cb', .slice pw' lw' cw', .slice pt' lt' ct', .slice ps' ls' cs', .int .i64 sky', .int .i64 st'] 33))) := bl2 _ _ _
  have R0 : Hid (((w.alloc (.cells #[.slice pb lb cb, .slice pw lw cw, .slice pt lt ct, .slice ps ls cs, .int .i64 sky, .int .i64 st] 33)).alloc (.cells #[.slice pb' lb' cb', .slice pw' lw' cw', .slice pt' lt' ct', .slice ps' ls' cs', .int .i64 sky', .int .i64 st'] 33)).heap[w.heap.size]? = some (.cells #[.slice pb lb cb, .slice pw lw cw, .slice pt lt ct, .slice ps ls cs, .int .i64 sky, .int .i64 st] 33)) := heap_alloc2_old _ _ _
  have Q0 : Hid (((w.alloc (.cells #[.slice pb lb cb, .slice pw lw cw, .slice pt lt ct, .slice ps ls cs, .int .i64 sky, .int .i64 st] 33)).alloc (.cells #[.slice pb' lb' cb', .slice pw' lw' cw', .slice pt' lt' ct', .slice ps' ls' cs', .int .i64 sky', .int .i64 st'] 33)).heap[w.heap.size + 1]? = some (.cells #[.slice pb' lb' cb', .slice pw' lw' cw', .slice pt' lt' ct', .slice ps' ls' cs', .int .i64 sky', .int .i64 st'] 33)) := heap_alloc2_new _ _ _
  go_enter Tryz.func16, Tryz.ntmps16
  go_upto_region 1 with fail
  generalize hW : World.alloc (World.alloc w _) _ = v0 at *
  obtain ⟨ga, hga⟩ : ∃ g, w.heap.size = g := ⟨_, rfl⟩
  obtain ⟨gq, hgq⟩ : ∃ g, w.heap.size + 1 = g := ⟨_, rfl⟩
  rw [hgq] at Q0 ⊢
  rw [hga] at R0 ⊢
  clear hga hgq hW
  have x0 := cell_of_row _ _ 0 _ _ _ R0.out
  have x1 := cell_of_row _ _ 1 _ _ _ R0.out
  have x2 := cell_of_row _ _ 2 _ _ _ R0.out
  have x3 := cell_of_row _ _ 3 _ _ _ R0.out
  have x4 := cell_of_row _ _ 4 _ _ _ R0.out
  have x5 := cell_of_row _ _ 5 _ _ _ R0.out
  have y0 := cell_of_row _ _ 0 _ _ _ Q0.out
  have y1 := cell_of_row _ _ 1 _ _ _ Q0.out
  have y2 := cell_of_row _ _ 2 _ _ _ Q0.out
  have y3 := cell_of_row _ _ 3 _ _ _ Q0.out
  have y4 := cell_of_row _ _ 4 _ _ _ Q0.out
  have y5 := cell_of_row _ _ 5 _ _ _ Q0.out
  have CC := hid (rall20 pb pb' lb cb lb' cb' B B' v0 HL.out.1.1 HL.out.2.1 (I1.out.below A0.out) (J1.out.below A0.out))
  rw [H0.out] at CC
  go_wp2_with fail
  refine CC.out.mono ?_
  rintro e9 v1 ⟨rfl, k9⟩
  have B1 : Hid (Ab v0 v1) := k9
  have A1 : Hid (Ab w v1) := A0.out.trans B1.out
  clear k9 CC x0 x1 x2 x3 x4 x5 y0 y1 y2 y3 y4 y5
  have x0 := cell_of_row _ _ 0 _ _ _ (B1.out.heap R0.out)
  have x1 := cell_of_row _ _ 1 _ _ _ (B1.out.heap R0.out)
  have x2 := cell_of_row _ _ 2 _ _ _ (B1.out.heap R0.out)
  have x3 := cell_of_row _ _ 3 _ _ _ (B1.out.heap R0.out)
  have x4 := cell_of_row _ _ 4 _ _ _ (B1.out.heap R0.out)
  have x5 := cell_of_row _ _ 5 _ _ _ (B1.out.heap R0.out)
  have y0 := cell_of_row _ _ 0 _ _ _ (B1.out.heap Q0.out)
  have y1 := cell_of_row _ _ 1 _ _ _ (B1.out.heap Q0.out)
  have y2 := cell_of_row _ _ 2 _ _ _ (B1.out.heap Q0.out)
  have y3 := cell_of_row _ _ 3 _ _ _ (B1.out.heap Q0.out)
  have y4 := cell_of_row _ _ 4 _ _ _ (B1.out.heap Q0.out)
  have y5 := cell_of_row _ _ 5 _ _ _ (B1.out.heap Q0.out)
  have CC := hid (rwhole20 pw pw' lw cw lw' cw' W W' v1 HL.out.1.2.1 HL.out.2.2.1 (I2.out.below A1.out) (J2.out.below A1.out))
  rw [H1.out] at CC
  go_wp2_with fail
  refine CC.out.mono ?_
  rintro e9 v2 ⟨rfl, k9⟩
  have B2 : Hid (Ab v0 v2) := B1.out.call k9
  have A2 : Hid (Ab w v2) := A0.out.trans B2.out
  clear k9 CC x0 x1 x2 x3 x4 x5 y0 y1 y2 y3 y4 y5
  have x0 := cell_of_row _ _ 0 _ _ _ (B2.out.heap R0.out)
  have x1 := cell_of_row _ _ 1 _ _ _ (B2.out.heap R0.out)
  have x2 := cell_of_row _ _ 2 _ _ _ (B2.out.heap R0.out)
  have x3 := cell_of_row _ _ 3 _ _ _ (B2.out.heap R0.out)
  have x4 := cell_of_row _ _ 4 _ _ _ (B2.out.heap R0.out)
  have x5 := cell_of_row _ _ 5 _ _ _ (B2.out.heap R0.out)
  have y0 := cell_of_row _ _ 0 _ _ _ (B2.out.heap Q0.out)
  have y1 := cell_of_row _ _ 1 _ _ _ (B2.out.heap Q0.out)
  have y2 := cell_of_row _ _ 2 _ _ _ (B2.out.heap Q0.out)
  have y3 := cell_of_row _ _ 3 _ _ _ (B2.out.heap Q0.out)
  have y4 := cell_of_row _ _ 4 _ _ _ (B2.out.heap Q0.out)
  have y5 := cell_of_row _ _ 5 _ _ _ (B2.out.heap Q0.out)
  have CC := hid (rwhole20 pt pt' lt ct lt' ct' T T' v2 HL.out.1.2.2.1 HL.out.2.2.2.1 (I3.out.below A2.out) (J3.out.below A2.out))
  rw [H2.out] at CC
  go_wp2_with fail
  refine CC.out.mono ?_
  rintro e9 v3 ⟨rfl, k9⟩
  have B3 : Hid (Ab v0 v3) := B2.out.call k9
  have A3 : Hid (Ab w v3) := A0.out.trans B3.out
  clear k9 CC x0 x1 x2 x3 x4 x5 y0 y1 y2 y3 y4 y5
  go_wp2
  go_ret
  exact ⟨rfl, A3.out⟩
set_option maxRecDepth 100000 in
set_option maxHeartbeats 16000000 in
theorem rsame_3 (pb : Option Addr) (lb cb : Nat) (B : Nat → Nat) (pw : Option Addr) (lw cw : Nat) (W : Nat → Int) (pt : Option Addr) (lt ct : Nat) (T : Nat → Int) (ps : Option Addr) (ls cs : Nat) (S : Nat → Nat) (sky st : Int) (pb' : Option Addr) (lb' cb' : Nat) (B' : Nat → Nat) (pw' : Option Addr) (lw' cw' : Nat) (W' : Nat → Int) (pt' : Option Addr) (lt' ct' : Nat) (T' : Nat → Int) (ps' : Option Addr) (ls' cs' : Nat) (S' : Nat → Nat) (sky' st' : Int) (w : World) (HL : Hid ((lb ≤ 131072 ∧ lw ≤ 131072 ∧ lt ≤ 131072 ∧ ls ≤ 131072) ∧ (lb' ≤ 131072 ∧ lw' ≤ 131072 ∧ lt' ≤ 131072 ∧ ls' ≤ 131072))) (I1 : Hid (IsFl w pb lb B)) (I2 : Hid (Sh.IsI w pw lw W)) (I3 : Hid (Sh.IsI w pt lt T)) (I4 : Hid (IsFl w ps ls S)) (J1 : Hid (IsFl w pb' lb' B')) (J2 : Hid (Sh.IsI w pw' lw' W')) (J3 : Hid (Sh.IsI w pt' lt' T')) (J4 : Hid (IsFl w ps' ls' S')) (h0 : eqL lb lb' B B' = true) (h1 : eqL lw lw' W W' = true) (h2 : eqL lt lt' T T' = true) (h3 : eqL ls ls' S S' = false) :
    Calls Tryz.prog 16 #[.agg #[.slice pb lb cb, .slice pw lw cw, .slice pt lt ct, .slice ps ls cs, .int .i64 sky, .int .i64 st], .agg #[.slice pb' lb' cb', .slice pw' lw' cw', .slice pt' lt' ct', .slice ps' ls' cs', .int .i64 sky', .int .i64 st']] w fun e w' => e = .returned (.bool false) ∧ Below w.heap.size w w' := by
  have H0 := hid h0
  have H1 := hid h1
  have H2 := hid h2
  have H3 := hid h3
  clear h0 h1 h2 h3
  have A0 : Hid (Ab w ((w.alloc (.cells #[.slice pb lb cb, .slice pw lw cw, .slice pt lt ct, .slice ps ls cs, .int .i64 sky, .int .i64 st] 33)).alloc (.cells #[.slice pb' lb' cb', .slice pw' lw' cw', .slice pt' lt' ct', .slice ps' ls' cs', .int .i64 sky', .int .i64 st'] 33))) := bl2 _ _ _
  have R0 : Hid (((w.alloc (.cells #[.slice pb lb cb, .slice pw lw cw, .slice pt lt ct, .slice ps ls cs, .int .i64 sky, .int .i64 st] 33)).alloc (.cells #[.slice pb' lb' cb', .slice pw' lw' cw', .slice pt' lt' ct', .slice ps' ls' cs', .int .i64 sky', .int .i64 st'] 33)).heap[w.heap.size]? = some (.cells #[.slice pb lb cb, .slice pw lw cw, .slice pt lt ct, .slice ps ls cs, .int .i64 sky, .int .i64 st] 33)) := heap_alloc2_old _ _ _
  have Q0 : Hid (((w.alloc (.cells #[.slice pb lb cb, .slice pw lw cw, .slice pt lt ct, .slice ps ls cs, .int .i64 sky, .int .i64 st] 33)).alloc (.cells #[.slice pb' lb' cb', .slice pw' lw' cw', .slice pt' lt' ct', .slice ps' ls' cs', .int .i64 sky', .int .i64 st'] 33)).heap[w.heap.size + 1]? = some (.cells #[.slice pb' lb' cb', .slice pw' lw' cw', .slice pt' lt' ct', .slice ps' ls' cs', .int .i64 sky', .int .i64 st'] 33)) := heap_alloc2_new _ _ _
  go_enter Tryz.func16, Tryz.ntmps16
  go_upto_region 1 with fail
  generalize hW : World.alloc (World.alloc w _) _ = v0 at *
  obtain ⟨ga, hga⟩ : ∃ g, w.heap.size = g := ⟨_, rfl⟩
  obtain ⟨gq, hgq⟩ : ∃ g, w.heap.size + 1 = g := ⟨_, rfl⟩
  rw [hgq] at Q0 ⊢
  rw [hga] at R0 ⊢
  clear hga hgq hW
  have x0 := cell_of_row _ _ 0 _ _ _ R0.out
  have x1 := cell_of_row _ _ 1 _ _ _ R0.out
  have x2 := cell_of_row _ _ 2 _ _ _ R0.out
  have x3 := cell_of_row _ _ 3 _ _ _ R0.out
  have x4 := cell_of_row _ _ 4 _ _ _ R0.out
  have x5 := cell_of_row _ _ 5 _ _ _ R0.out
  have y0 := cell_of_row _ _ 0 _ _ _ Q0.out
  have y1 := cell_of_row _ _ 1 _ _ _ Q0.out
  have y2 := cell_of_row _ _ 2 _ _ _ Q0.out
  have y3 := cell_of_row _ _ 3 _ _ _ Q0.out
  have y4 := cell_of_row _ _ 4 _ _ _ Q0.out
  have y5 := cell_of_row _ _ 5 _ _ _ Q0.out
  have CC := hid (rall20 pb pb' lb cb lb' cb' B B' v0 HL.out.1.1 HL.out.2.1 (I1.out.below A0.out) (J1.out.below A0.out))
  rw [H0.out] at CC
  go_wp2_with fail
  refine CC.out.mono ?_
  rintro e9 v1 ⟨rfl, k9⟩
  have B1 : Hid (Ab v0 v1) := k9
  have A1 : Hid (Ab w v1) := A0.out.trans B1.out
  clear k9 CC x0 x1 x2 x3 x4 x5 y0 y1 y2 y3 y4 y5
  have x0 := cell_of_row _ _ 0 _ _ _ (B1.out.heap R0.out)
  have x1 := cell_of_row _ _ 1 _ _ _ (B1.out.heap R0.out)
  have x2 := cell_of_row _ _ 2 _ _ _ (B1.out.heap R0.out)
  have x3 := cell_of_row _ _ 3 _ _ _ (B1.out.heap R0.out)
  have x4 := cell_of_row _ _ 4 _ _ _ (B1.out.heap R0.out)
  have x5 := cell_of_row _ _ 5 _ _ _ (B1.out.heap R0.out)
  have y0 := cell_of_row _ _ 0 _ _ _ (B1.out.heap Q0.out)
  have y1 := cell_of_row _ _ 1 _ _ _ (B1.out.heap Q0.out)
  have y2 := cell_of_row _ _ 2 _ _ _ (B1.out.heap Q0.out)
  have y3 := cell_of_row _ _ 3 _ _ _ (B1.out.heap Q0.out)
  have y4 := cell_of_row _ _ 4 _ _ _ (B1.out.heap Q0.out)
  have y5 := cell_of_row _ _ 5 _ _ _ (B1.out.heap Q0.out)
  have CC := hid (rwhole20 pw pw' lw cw lw' cw' W W' v1 HL.out.1.2.1 HL.out.2.2.1 (I2.out.below A1.out) (J2.out.below A1.out))
  rw [H1.out] at CC
  go_wp2_with fail
  refine CC.out.mono ?_
  rintro e9 v2 ⟨rfl, k9⟩
  have B2 : Hid (Ab v0 v2) := B1.out.call k9
  have A2 : Hid (Ab w v2) := A0.out.trans B2.out
  clear k9 CC x0 x1 x2 x3 x4 x5 y0 y1 y2 y3 y4 y5
  have x0 := cell_of_row _ _ 0 _ _ _ (B2.out.heap R0.out)
  have x1 := cell_of_row _ _ 1 _ _ _ (B2.out.heap R0.out)
  have x2 := cell_of_row _ _ 2 _ _ _ (B2.out.heap R0.out)
  have x3 := cell_of_row _ _ 3 _ _ _ (B2.out.heap R0.out)
  have x4 := cell_of_row _ _ 4 _ _ _ (B2.out.heap R0.out)
  have x5 := cell_of_row _ _ 5 _ _ _ (B2.out.heap R0.out)
  have y0 := cell_of_row _ _ 0 _ _ _ (B2.out.heap Q0.out)
  have y1 := cell_of_row _ _ 1 _ _ _ (B2.out.heap Q0.out)
  have y2 := cell_of_row _ _ 2 _ _ _ (B2.out.heap Q0.out)
  have y3 := cell_of_row _ _ 3 _ _ _ (B2.out.heap Q0.out)
  have y4 := cell_of_row _ _ 4 _ _ _ (B2.out.heap Q0.out)
  have y5 := cell_of_row _ _ 5 _ _ _ (B2.out.heap Q0.out)
  have CC := hid (rwhole20 pt pt' lt ct lt' ct' T T' v2 HL.out.1.2.2.1 HL.out.2.2.2.1 (I3.out.below A2.out) (J3.out.below A2.out))
  rw [H2.out] at CC
  go_wp2_with fail
  refine CC.out.mono ?_
  rintro e9 v3 ⟨rfl, k9⟩
  have B3 : Hid (Ab v0 v3) := B2.out.call k9
  have A3 : Hid (Ab w v3) := A0.out.trans B3.out
  clear k9 CC x0 x1 x2 x3 x4 x5 y0 y1 y2 y3 y4 y5
  have x0 := cell_of_row _ _ 0 _ _ _ (B3.out.heap R0.out)
  have x1 := cell_of_row _ _ 1 _ _ _ (B3.out.heap R0.out)
  have x2 := cell_of_row _ _ 2 _ _ _ (B3.out.heap R0.out)
  have x3 := cell_of_row _ _ 3 _ _ _ (B3.out.heap R0.out)
  have x4 := cell_of_row _ _ 4 _ _ _ (B3.out.heap R0.out)
  have x5 := cell_of_row _ _ 5 _ _ _ (B3.out.heap R0.out)
  have y0 := cell_of_row _ _ 0 _ _ _ (B3.out.heap Q0.out)
  have y1 := cell_of_row _ _ 1 _ _ _ (B3.out.heap Q0.out)
  have y2 := cell_of_row _ _ 2 _ _ _ (B3.out.heap Q0.out)
  have y3 := cell_of_row _ _ 3 _ _ _ (B3.out.heap Q0.out)
  have y4 := cell_of_row _ _ 4 _ _ _ (B3.out.heap Q0.out)
  have y5 := cell_of_row _ _ 5 _ _ _ (B3.out.heap Q0.out)
  have CC := hid (rall20 ps ps' ls cs ls' cs' S S' v3 HL.out.1.2.2.2 HL.out.2.2.2.2 (I4.out.below A3.out) (J4.out.below A3.out))
  rw [H3.out] at CC
  go_wp2_with fail
  refine CC.out.mono ?_
  rintro e9 v4 ⟨rfl, k9⟩
  have B4 : Hid (Ab v0 v4) := B3.out.call k9
  have A4 : Hid (Ab w v4) := A0.out.trans B4.out
  clear k9 CC x0 x1 x2 x3 x4 x5 y0 y1 y2 y3 y4 y5
  go_wp2
  go_ret
  exact ⟨rfl, A4.out⟩
set_option maxRecDepth 100000 in
set_option maxHeartbeats 16000000 in
theorem rsame_4 (pb : Option Addr) (lb cb : Nat) (B : Nat → Nat) (pw : Option Addr) (lw cw : Nat) (W : Nat → Int) (pt : Option Addr) (lt ct : Nat) (T : Nat → Int) (ps : Option Addr) (ls cs : Nat) (S : Nat → Nat) (sky st : Int) (pb' : Option Addr) (lb' cb' : Nat) (B' : Nat → Nat) (pw' : Option Addr) (lw' cw' : Nat) (W' : Nat → Int) (pt' : Option Addr) (lt' ct' : Nat) (T' : Nat → Int) (ps' : Option Addr) (ls' cs' : Nat) (S' : Nat → Nat) (sky' st' : Int) (w : World) (HL : Hid ((lb ≤ 131072 ∧ lw ≤ 131072 ∧ lt ≤ 131072 ∧ ls ≤ 131072) ∧ (lb' ≤ 131072 ∧ lw' ≤ 131072 ∧ lt' ≤ 131072 ∧ ls' ≤ 131072))) (I1 : Hid (IsFl w pb lb B)) (I2 : Hid (Sh.IsI w pw lw W)) (I3 : Hid (Sh.IsI w pt lt T)) (I4 : Hid (IsFl w ps ls S)) (J1 : Hid (IsFl w pb' lb' B')) (J2 : Hid (Sh.IsI w pw' lw' W')) (J3 : Hid (Sh.IsI w pt' lt' T')) (J4 : Hid (IsFl w ps' ls' S')) (h0 : eqL lb lb' B B' = true) (h1 : eqL lw lw' W W' = true) (h2 : eqL lt lt' T T' = true) (h3 : eqL ls ls' S S' = true) (h4 : (sky == sky') = false) :
    Calls Tryz.prog 16 #[.agg #[.slice pb lb cb, .slice pw lw cw, .slice pt lt ct, .slice ps ls cs, .int .i64 sky, .int .i64 st], .agg #[.slice pb' lb' cb', .slice pw' lw' cw', .slice pt' lt' ct', .slice ps' ls' cs', .int .i64 sky', .int .i64 st']] w fun e w' => e = .returned (.bool false) ∧ Below w.heap.size w w' := by
  have H0 := hid h0
  have H1 := hid h1
  have H2 := hid h2
  have H3 := hid h3
  clear h0 h1 h2 h3
  have A0 : Hid (Ab w ((w.alloc (.cells #[.slice pb lb cb, .slice pw lw cw, .slice pt lt ct, .slice ps ls cs, .int .i64 sky, .int .i64 st] 33)).alloc (.cells #[.slice pb' lb' cb', .slice pw' lw' cw', .slice pt' lt' ct', .slice ps' ls' cs', .int .i64 sky', .int .i64 st'] 33))) := bl2 _ _ _
  have R0 : Hid (((w.alloc (.cells #[.slice pb lb cb, .slice pw lw cw, .slice pt lt ct, .slice ps ls cs, .int .i64 sky, .int .i64 st] 33)).alloc (.cells #[.slice pb' lb' cb', .slice pw' lw' cw', .slice pt' lt' ct', .slice ps' ls' cs', .int .i64 sky', .int .i64 st'] 33)).heap[w.heap.size]? = some (.cells #[.slice pb lb cb, .slice pw lw cw, .slice pt lt ct, .slice ps ls cs, .int .i64 sky, .int .i64 st] 33)) := heap_alloc2_old _ _ _
  have Q0 : Hid (((w.alloc (.cells #[.slice pb lb cb, .slice pw lw cw, .slice pt lt ct, .slice ps ls cs, .int .i64 sky, .int .i64 st] 33)).alloc (.cells #[.slice pb' lb' cb', .slice pw' lw' cw', .slice pt' lt' ct', .slice ps' ls' cs', .int .i64 sky', .int .i64 st'] 33)).heap[w.heap.size + 1]? = some (.cells #[.slice pb' lb' cb', .slice pw' lw' cw', .slice pt' lt' ct', .slice ps' ls' cs', .int .i64 sky', .int .i64 st'] 33)) := heap_alloc2_new _ _ _
  go_enter Tryz.func16, Tryz.ntmps16
  go_upto_region 1 with fail
  generalize hW : World.alloc (World.alloc w _) _ = v0 at *
  obtain ⟨ga, hga⟩ : ∃ g, w.heap.size = g := ⟨_, rfl⟩
  obtain ⟨gq, hgq⟩ : ∃ g, w.heap.size + 1 = g := ⟨_, rfl⟩
  rw [hgq] at Q0 ⊢
  rw [hga] at R0 ⊢
  clear hga hgq hW
  have x0 := cell_of_row _ _ 0 _ _ _ R0.out
  have x1 := cell_of_row _ _ 1 _ _ _ R0.out
  have x2 := cell_of_row _ _ 2 _ _ _ R0.out
  have x3 := cell_of_row _ _ 3 _ _ _ R0.out
  have x4 := cell_of_row _ _ 4 _ _ _ R0.out
  have x5 := cell_of_row _ _ 5 _ _ _ R0.out
  have y0 := cell_of_row _ _ 0 _ _ _ Q0.out
  have y1 := cell_of_row _ _ 1 _ _ _ Q0.out
  have y2 := cell_of_row _ _ 2 _ _ _ Q0.out
  have y3 := cell_of_row _ _ 3 _ _ _ Q0.out
  have y4 := cell_of_row _ _ 4 _ _ _ Q0.out
  have y5 := cell_of_row _ _ 5 _ _ _ Q0.out
  have CC := hid (rall20 pb pb' lb cb lb' cb' B B' v0 HL.out.1.1 HL.out.2.1 (I1.out.below A0.out) (J1.out.below A0.out))
  rw [H0.out] at CC
  go_wp2_with fail
  refine CC.out.mono ?_
  rintro e9 v1 ⟨rfl, k9⟩
  have B1 : Hid (Ab v0 v1) := k9
  have A1 : Hid (Ab w v1) := A0.out.trans B1.out
  clear k9 CC x0 x1 x2 x3 x4 x5 y0 y1 y2 y3 y4 y5
  have x0 := cell_of_row _ _ 0 _ _ _ (B1.out.heap R0.out)
  have x1 := cell_of_row _ _ 1 _ _ _ (B1.out.heap R0.out)
  have x2 := cell_of_row _ _ 2 _ _ _ (B1.out.heap R0.out)
  have x3 := cell_of_row _ _ 3 _ _ _ (B1.out.heap R0.out)
  have x4 := cell_of_row _ _ 4 _ _ _ (B1.out.heap R0.out)
  have x5 := cell_of_row _ _ 5 _ _ _ (B1.out.heap R0.out)
  have y0 := cell_of_row _ _ 0 _ _ _ (B1.out.heap Q0.out)
  have y1 := cell_of_row _ _ 1 _ _ _ (B1.out.heap Q0.out)
  have y2 := cell_of_row _ _ 2 _ _ _ (B1.out.heap Q0.out)
  have y3 := cell_of_row _ _ 3 _ _ _ (B1.out.heap Q0.out)
  have y4 := cell_of_row _ _ 4 _ _ _ (B1.out.heap Q0.out)
  have y5 := cell_of_row _ _ 5 _ _ _ (B1.out.heap Q0.out)
  have CC := hid (rwhole20 pw pw' lw cw lw' cw' W W' v1 HL.out.1.2.1 HL.out.2.2.1 (I2.out.below A1.out) (J2.out.below A1.out))
  rw [H1.out] at CC
  go_wp2_with fail
  refine CC.out.mono ?_
  rintro e9 v2 ⟨rfl, k9⟩
  have B2 : Hid (Ab v0 v2) := B1.out.call k9
  have A2 : Hid (Ab w v2) := A0.out.trans B2.out
  clear k9 CC x0 x1 x2 x3 x4 x5 y0 y1 y2 y3 y4 y5
  have x0 := cell_of_row _ _ 0 _ _ _ (B2.out.heap R0.out)
  have x1 := cell_of_row _ _ 1 _ _ _ (B2.out.heap R0.out)
  have x2 := cell_of_row _ _ 2 _ _ _ (B2.out.heap R0.out)
  have x3 := cell_of_row _ _ 3 _ _ _ (B2.out.heap R0.out)
  have x4 := cell_of_row _ _ 4 _ _ _ (B2.out.heap R0.out)
  have x5 := cell_of_row _ _ 5 _ _ _ (B2.out.heap R0.out)
  have y0 := cell_of_row _ _ 0 _ _ _ (B2.out.heap Q0.out)
  have y1 := cell_of_row _ _ 1 _ _ _ (B2.out.heap Q0.out)
  have y2 := cell_of_row _ _ 2 _ _ _ (B2.out.heap Q0.out)
  have y3 := cell_of_row _ _ 3 _ _ _ (B2.out.heap Q0.out)
  have y4 := cell_of_row _ _ 4 _ _ _ (B2.out.heap Q0.out)
  have y5 := cell_of_row _ _ 5 _ _ _ (B2.out.heap Q0.out)
  have CC := hid (rwhole20 pt pt' lt ct lt' ct' T T' v2 HL.out.1.2.2.1 HL.out.2.2.2.1 (I3.out.below A2.out) (J3.out.below A2.out))
  rw [H2.out] at CC
  go_wp2_with fail
  refine CC.out.mono ?_
  rintro e9 v3 ⟨rfl, k9⟩
  have B3 : Hid (Ab v0 v3) := B2.out.call k9
  have A3 : Hid (Ab w v3) := A0.out.trans B3.out
  clear k9 CC x0 x1 x2 x3 x4 x5 y0 y1 y2 y3 y4 y5
  have x0 := cell_of_row _ _ 0 _ _ _ (B3.out.heap R0.out)
  have x1 := cell_of_row _ _ 1 _ _ _ (B3.out.heap R0.out)
  have x2 := cell_of_row _ _ 2 _ _ _ (B3.out.heap R0.out)
  have x3 := cell_of_row _ _ 3 _ _ _ (B3.out.heap R0.out)
  have x4 := cell_of_row _ _ 4 _ _ _ (B3.out.heap R0.out)
  have x5 := cell_of_row _ _ 5 _ _ _ (B3.out.heap R0.out)
  have y0 := cell_of_row _ _ 0 _ _ _ (B3.out.heap Q0.out)
  have y1 := cell_of_row _ _ 1 _ _ _ (B3.out.heap Q0.out)
  have y2 := cell_of_row _ _ 2 _ _ _ (B3.out.heap Q0.out)
  have y3 := cell_of_row _ _ 3 _ _ _ (B3.out.heap Q0.out)
  have y4 := cell_of_row _ _ 4 _ _ _ (B3.out.heap Q0.out)
  have y5 := cell_of_row _ _ 5 _ _ _ (B3.out.heap Q0.out)
  have CC := hid (rall20 ps ps' ls cs ls' cs' S S' v3 HL.out.1.2.2.2 HL.out.2.2.2.2 (I4.out.below A3.out) (J4.out.below A3.out))
  rw [H3.out] at CC
  go_wp2_with fail
  refine CC.out.mono ?_
  rintro e9 v4 ⟨rfl, k9⟩
  have B4 : Hid (Ab v0 v4) := B3.out.call k9
  have A4 : Hid (Ab w v4) := A0.out.trans B4.out
  clear k9 CC x0 x1 x2 x3 x4 x5 y0 y1 y2 y3 y4 y5
  have x0 := cell_of_row _ _ 0 _ _ _ (B4.out.heap R0.out)
  have x1 := cell_of_row _ _ 1 _ _ _ (B4.out.heap R0.out)
  have x2 := cell_of_row _ _ 2 _ _ _ (B4.out.heap R0.out)
  have x3 := cell_of_row _ _ 3 _ _ _ (B4.out.heap R0.out)
  have x4 := cell_of_row _ _ 4 _ _ _ (B4.out.heap R0.out)
  have x5 := cell_of_row _ _ 5 _ _ _ (B4.out.heap R0.out)
  have y0 := cell_of_row _ _ 0 _ _ _ (B4.out.heap Q0.out)
  have y1 := cell_of_row _ _ 1 _ _ _ (B4.out.heap Q0.out)
  have y2 := cell_of_row _ _ 2 _ _ _ (B4.out.heap Q0.out)
  have y3 := cell_of_row _ _ 3 _ _ _ (B4.out.heap Q0.out)
  have y4 := cell_of_row _ _ 4 _ _ _ (B4.out.heap Q0.out)
  have y5 := cell_of_row _ _ 5 _ _ _ (B4.out.heap Q0.out)
  go_wp2
  go_ret
  exact ⟨rfl, A4.out⟩
set_option maxRecDepth 100000 in
set_option maxHeartbeats 16000000 in
theorem rsame_5 (pb : Option Addr) (lb cb : Nat) (B : Nat → Nat) (pw : Option Addr) (lw cw : Nat) (W : Nat → Int) (pt : Option Addr) (lt ct : Nat) (T : Nat → Int) (ps : Option Addr) (ls cs : Nat) (S : Nat → Nat) (sky st : Int) (pb' : Option Addr) (lb' cb' : Nat) (B' : Nat → Nat) (pw' : Option Addr) (lw' cw' : Nat) (W' : Nat → Int) (pt' : Option Addr) (lt' ct' : Nat) (T' : Nat → Int) (ps' : Option Addr) (ls' cs' : Nat) (S' : Nat → Nat) (sky' st' : Int) (w : World) (HL : Hid ((lb ≤ 131072 ∧ lw ≤ 131072 ∧ lt ≤ 131072 ∧ ls ≤ 131072) ∧ (lb' ≤ 131072 ∧ lw' ≤ 131072 ∧ lt' ≤ 131072 ∧ ls' ≤ 131072))) (I1 : Hid (IsFl w pb lb B)) (I2 : Hid (Sh.IsI w pw lw W)) (I3 : Hid (Sh.IsI w pt lt T)) (I4 : Hid (IsFl w ps ls S)) (J1 : Hid (IsFl w pb' lb' B')) (J2 : Hid (Sh.IsI w pw' lw' W')) (J3 : Hid (Sh.IsI w pt' lt' T')) (J4 : Hid (IsFl w ps' ls' S')) (h0 : eqL lb lb' B B' = true) (h1 : eqL lw lw' W W' = true) (h2 : eqL lt lt' T T' = true) (h3 : eqL ls ls' S S' = true) (h4 : (sky == sky') = true) (h5 : (st == st') = false) :
    Calls Tryz.prog 16 #[.agg #[.slice pb lb cb, .slice pw lw cw, .slice pt lt ct, .slice ps ls cs, .int .i64 sky, .int .i64 st], .agg #[.slice pb' lb' cb', .slice pw' lw' cw', .slice pt' lt' ct', .slice ps' ls' cs', .int .i64 sky', .int .i64 st']] w fun e w' => e = .returned (.bool false) ∧ Below w.heap.size w w' := by
  have H0 := hid h0
  have H1 := hid h1
  have H2 := hid h2
  have H3 := hid h3
  clear h0 h1 h2 h3
  have A0 : Hid (Ab w ((w.alloc (.cells #[.slice pb lb cb, .slice pw lw cw, .slice pt lt ct, .slice ps ls cs, .int .i64 sky, .int .i64 st] 33)).alloc (.cells #[.slice pb' lb' cb', .slice pw' lw' cw', .slice pt' lt' ct', .slice ps' ls' cs', .int .i64 sky', .int .i64 st'] 33))) := bl2 _ _ _
  have R0 : Hid (((w.alloc (.cells #[.slice pb lb cb, .slice pw lw cw, .slice pt lt ct, .slice ps ls cs, .int .i64 sky, .int .i64 st] 33)).alloc (.cells #[.slice pb' lb' cb', .slice pw' lw' cw', .slice pt' lt' ct', .slice ps' ls' cs', .int .i64 sky', .int .i64 st'] 33)).heap[w.heap.size]? = some (.cells #[.slice pb lb cb, .slice pw lw cw, .slice pt lt ct, .slice ps ls cs, .int .i64 sky, .int .i64 st] 33)) := heap_alloc2_old _ _ _
  have Q0 : Hid (((w.alloc (.cells #[.slice pb lb cb, .slice pw lw cw, .slice pt lt ct, .slice ps ls cs, .int .i64 sky, .int .i64 st] 33)).alloc (.cells #[.slice pb' lb' cb', .slice pw' lw' cw', .slice pt' lt' ct', .slice ps' ls' cs', .int .i64 sky', .int .i64 st'] 33)).heap[w.heap.size + 1]? = some (.cells #[.slice pb' lb' cb', .slice pw' lw' cw', .slice pt' lt' ct', .slice ps' ls' cs', .int .i64 sky', .int .i64 st'] 33)) := heap_alloc2_new _ _ _
  go_enter Tryz.func16, Tryz.ntmps16
  go_upto_region 1 with fail
  generalize hW : World.alloc (World.alloc w _) _ = v0 at *
  obtain ⟨ga, hga⟩ : ∃ g, w.heap.size = g := ⟨_, rfl⟩
  obtain ⟨gq, hgq⟩ : ∃ g, w.heap.size + 1 = g := ⟨_, rfl⟩
  rw [hgq] at Q0 ⊢
  rw [hga] at R0 ⊢
  clear hga hgq hW
  have x0 := cell_of_row _ _ 0 _ _ _ R0.out
  have x1 := cell_of_row _ _ 1 _ _ _ R0.out
  have x2 := cell_of_row _ _ 2 _ _ _ R0.out
  have x3 := cell_of_row _ _ 3 _ _ _ R0.out
  have x4 := cell_of_row _ _ 4 _ _ _ R0.out
  have x5 := cell_of_row _ _ 5 _ _ _ R0.out
  have y0 := cell_of_row _ _ 0 _ _ _ Q0.out
  have y1 := cell_of_row _ _ 1 _ _ _ Q0.out
  have y2 := cell_of_row _ _ 2 _ _ _ Q0.out
  have y3 := cell_of_row _ _ 3 _ _ _ Q0.out
  have y4 := cell_of_row _ _ 4 _ _ _ Q0.out
  have y5 := cell_of_row _ _ 5 _ _ _ Q0.out
  have CC := hid (rall20 pb pb' lb cb lb' cb' B B' v0 HL.out.1.1 HL.out.2.1 (I1.out.below A0.out) (J1.out.below A0.out))
  rw [H0.out] at CC
  go_wp2_with fail
  refine CC.out.mono ?_
  rintro e9 v1 ⟨rfl, k9⟩
  have B1 : Hid (Ab v0 v1) := k9
  have A1 : Hid (Ab w v1) := A0.out.trans B1.out
  clear k9 CC x0 x1 x2 x3 x4 x5 y0 y1 y2 y3 y4 y5
  have x0 := cell_of_row _ _ 0 _ _ _ (B1.out.heap R0.out)
  have x1 := cell_of_row _ _ 1 _ _ _ (B1.out.heap R0.out)
  have x2 := cell_of_row _ _ 2 _ _ _ (B1.out.heap R0.out)
  have x3 := cell_of_row _ _ 3 _ _ _ (B1.out.heap R0.out)
  have x4 := cell_of_row _ _ 4 _ _ _ (B1.out.heap R0.out)
  have x5 := cell_of_row _ _ 5 _ _ _ (B1.out.heap R0.out)
  have y0 := cell_of_row _ _ 0 _ _ _ (B1.out.heap Q0.out)
  have y1 := cell_of_row _ _ 1 _ _ _ (B1.out.heap Q0.out)
  have y2 := cell_of_row _ _ 2 _ _ _ (B1.out.heap Q0.out)
  have y3 := cell_of_row _ _ 3 _ _ _ (B1.out.heap Q0.out)
  have y4 := cell_of_row _ _ 4 _ _ _ (B1.out.heap Q0.out)
  have y5 := cell_of_row _ _ 5 _ _ _ (B1.out.heap Q0.out)
  have CC := hid (rwhole20 pw pw' lw cw lw' cw' W W' v1 HL.out.1.2.1 HL.out.2.2.1 (I2.out.below A1.out) (J2.out.below A1.out))
  rw [H1.out] at CC
  go_wp2_with fail
  refine CC.out.mono ?_
  rintro e9 v2 ⟨rfl, k9⟩
  have B2 : Hid (Ab v0 v2) := B1.out.call k9
  have A2 : Hid (Ab w v2) := A0.out.trans B2.out
  clear k9 CC x0 x1 x2 x3 x4 x5 y0 y1 y2 y3 y4 y5
  have x0 := cell_of_row _ _ 0 _ _ _ (B2.out.heap R0.out)
  have x1 := cell_of_row _ _ 1 _ _ _ (B2.out.heap R0.out)
  have x2 := cell_of_row _ _ 2 _ _ _ (B2.out.heap R0.out)
  have x3 := cell_of_row _ _ 3 _ _ _ (B2.out.heap R0.out)
  have x4 := cell_of_row _ _ 4 _ _ _ (B2.out.heap R0.out)
  have x5 := cell_of_row _ _ 5 _ _ _ (B2.out.heap R0.out)
  have y0 := cell_of_row _ _ 0 _ _ _ (B2.out.heap Q0.out)
  have y1 := cell_of_row _ _ 1 _ _ _ (B2.out.heap Q0.out)
  have y2 := cell_of_row _ _ 2 _ _ _ (B2.out.heap Q0.out)
  have y3 := cell_of_row _ _ 3 _ _ _ (B2.out.heap Q0.out)
  have y4 := cell_of_row _ _ 4 _ _ _ (B2.out.heap Q0.out)
  have y5 := cell_of_row _ _ 5 _ _ _ (B2.out.heap Q0.out)
  have CC := hid (rwhole20 pt pt' lt ct lt' ct' T T' v2 HL.out.1.2.2.1 HL.out.2.2.2.1 (I3.out.below A2.out) (J3.out.below A2.out))
  rw [H2.out] at CC
  go_wp2_with fail
  refine CC.out.mono ?_
  rintro e9 v3 ⟨rfl, k9⟩
  have B3 : Hid (Ab v0 v3) := B2.out.call k9
  have A3 : Hid (Ab w v3) := A0.out.trans B3.out
  clear k9 CC x0 x1 x2 x3 x4 x5 y0 y1 y2 y3 y4 y5
  have x0 := cell_of_row _ _ 0 _ _ _ (B3.out.heap R0.out)
  have x1 := cell_of_row _ _ 1 _ _ _ (B3.out.heap R0.out)
  have x2 := cell_of_row _ _ 2 _ _ _ (B3.out.heap R0.out)
  have x3 := cell_of_row _ _ 3 _ _ _ (B3.out.heap R0.out)
  have x4 := cell_of_row _ _ 4 _ _ _ (B3.out.heap R0.out)
  have x5 := cell_of_row _ _ 5 _ _ _ (B3.out.heap R0.out)
  have y0 := cell_of_row _ _ 0 _ _ _ (B3.out.heap Q0.out)
  have y1 := cell_of_row _ _ 1 _ _ _ (B3.out.heap Q0.out)
  have y2 := cell_of_row _ _ 2 _ _ _ (B3.out.heap Q0.out)
  have y3 := cell_of_row _ _ 3 _ _ _ (B3.out.heap Q0.out)
  have y4 := cell_of_row _ _ 4 _ _ _ (B3.out.heap Q0.out)
  have y5 := cell_of_row _ _ 5 _ _ _ (B3.out.heap Q0.out)
  have CC := hid (rall20 ps ps' ls cs ls' cs' S S' v3 HL.out.1.2.2.2 HL.out.2.2.2.2 (I4.out.below A3.out) (J4.out.below A3.out))
  rw [H3.out] at CC
  go_wp2_with fail
  refine CC.out.mono ?_
  rintro e9 v4 ⟨rfl, k9⟩
  have B4 : Hid (Ab v0 v4) := B3.out.call k9
  have A4 : Hid (Ab w v4) := A0.out.trans B4.out
  clear k9 CC x0 x1 x2 x3 x4 x5 y0 y1 y2 y3 y4 y5
  have x0 := cell_of_row _ _ 0 _ _ _ (B4.out.heap R0.out)
  have x1 := cell_of_row _ _ 1 _ _ _ (B4.out.heap R0.out)
  have x2 := cell_of_row _ _ 2 _ _ _ (B4.out.heap R0.out)
  have x3 := cell_of_row _ _ 3 _ _ _ (B4.out.heap R0.out)
  have x4 := cell_of_row _ _ 4 _ _ _ (B4.out.heap R0.out)
  have x5 := cell_of_row _ _ 5 _ _ _ (B4.out.heap R0.out)
  have y0 := cell_of_row _ _ 0 _ _ _ (B4.out.heap Q0.out)
  have y1 := cell_of_row _ _ 1 _ _ _ (B4.out.heap Q0.out)
  have y2 := cell_of_row _ _ 2 _ _ _ (B4.out.heap Q0.out)
  have y3 := cell_of_row _ _ 3 _ _ _ (B4.out.heap Q0.out)
  have y4 := cell_of_row _ _ 4 _ _ _ (B4.out.heap Q0.out)
  have y5 := cell_of_row _ _ 5 _ _ _ (B4.out.heap Q0.out)
  go_wp2
  go_ret
  exact ⟨rfl, A4.out⟩
set_option maxRecDepth 100000 in
set_option maxHeartbeats 16000000 in
theorem rsame_6 (pb : Option Addr) (lb cb : Nat) (B : Nat → Nat) (pw : Option Addr) (lw cw : Nat) (W : Nat → Int) (pt : Option Addr) (lt ct : Nat) (T : Nat → Int) (ps : Option Addr) (ls cs : Nat) (S : Nat → Nat) (sky st : Int) (pb' : Option Addr) (lb' cb' : Nat) (B' : Nat → Nat) (pw' : Option Addr) (lw' cw' : Nat) (W' : Nat → Int) (pt' : Option Addr) (lt' ct' : Nat) (T' : Nat → Int) (ps' : Option Addr) (ls' cs' : Nat) (S' : Nat → Nat) (sky' st' : Int) (w : World) (HL : Hid ((lb ≤ 131072 ∧ lw ≤ 131072 ∧ lt ≤ 131072 ∧ ls ≤ 131072) ∧ (lb' ≤ 131072 ∧ lw' ≤ 131072 ∧ lt' ≤ 131072 ∧ ls' ≤ 131072))) (I1 : Hid (IsFl w pb lb B)) (I2 : Hid (Sh.IsI w pw lw W)) (I3 : Hid (Sh.IsI w pt lt T)) (I4 : Hid (IsFl w ps ls S)) (J1 : Hid (IsFl w pb' lb' B')) (J2 : Hid (Sh.IsI w pw' lw' W')) (J3 : Hid (Sh.IsI w pt' lt' T')) (J4 : Hid (IsFl w ps' ls' S')) (h0 : eqL lb lb' B B' = true) (h1 : eqL lw lw' W W' = true) (h2 : eqL lt lt' T T' = true) (h3 : eqL ls ls' S S' = true) (h4 : (sky == sky') = true) (h5 : (st == st') = true) :
    Calls Tryz.prog 16 #[.agg #[.slice pb lb cb, .slice pw lw cw, .slice pt lt ct, .slice ps ls cs, .int .i64 sky, .int .i64 st], .agg #[.slice pb' lb' cb', .slice pw' lw' cw', .slice pt' lt' ct', .slice ps' ls' cs', .int .i64 sky', .int .i64 st']] w fun e w' => e = .returned (.bool true) ∧ Below w.heap.size w w' := by
  have H0 := hid h0
  have H1 := hid h1
  have H2 := hid h2
  have H3 := hid h3
  clear h0 h1 h2 h3
  have A0 : Hid (Ab w ((w.alloc (.cells #[.slice pb lb cb, .slice pw lw cw, .slice pt lt ct, .slice ps ls cs, .int .i64 sky, .int .i64 st] 33)).alloc (.cells #[.slice pb' lb' cb', .slice pw' lw' cw', .slice pt' lt' ct', .slice ps' ls' cs', .int .i64 sky', .int .i64 st'] 33))) := bl2 _ _ _
  have R0 : Hid (((w.alloc (.cells #[.slice pb lb cb, .slice pw lw cw, .slice pt lt ct, .slice ps ls cs, .int .i64 sky, .int .i64 st] 33)).alloc (.cells #[.slice pb' lb' cb', .slice pw' lw' cw', .slice pt' lt' ct', .slice ps' ls' cs', .int .i64 sky', .int .i64 st'] 33)).heap[w.heap.size]? = some (.cells #[.slice pb lb cb, .slice pw lw cw, .slice pt lt ct, .slice ps ls cs, .int .i64 sky, .int .i64 st] 33)) := heap_alloc2_old _ _ _
  have Q0 : Hid (((w.alloc (.cells #[.slice pb lb cb, .slice pw lw cw, .slice pt lt ct, .slice ps ls cs, .int .i64 sky, .int .i64 st] 33)).alloc (.cells #[.slice pb' lb' cb', .slice pw' lw' cw', .slice pt' lt' ct', .slice ps' ls' cs', .int .i64 sky', .int .i64 st'] 33)).heap[w.heap.size + 1]? = some (.cells #[.slice pb' lb' cb', .slice pw' lw' cw', .slice pt' lt' ct', .slice ps' ls' cs', .int .i64 sky', .int .i64 st'] 33)) := heap_alloc2_new _ _ _
  go_enter Tryz.func16, Tryz.ntmps16
  go_upto_region 1 with fail
  generalize hW : World.alloc (World.alloc w _) _ = v0 at *
  obtain ⟨ga, hga⟩ : ∃ g, w.heap.size = g := ⟨_, rfl⟩
  obtain ⟨gq, hgq⟩ : ∃ g, w.heap.size + 1 = g := ⟨_, rfl⟩
  rw [hgq] at Q0 ⊢
  rw [hga] at R0 ⊢
  clear hga hgq hW
  have x0 := cell_of_row _ _ 0 _ _ _ R0.out
  have x1 := cell_of_row _ _ 1 _ _ _ R0.out
  have x2 := cell_of_row _ _ 2 _ _ _ R0.out
  have x3 := cell_of_row _ _ 3 _ _ _ R0.out
  have x4 := cell_of_row _ _ 4 _ _ _ R0.out
  have x5 := cell_of_row _ _ 5 _ _ _ R0.out
  have y0 := cell_of_row _ _ 0 _ _ _ Q0.out
  have y1 := cell_of_row _ _ 1 _ _ _ Q0.out
  have y2 := cell_of_row _ _ 2 _ _ _ Q0.out
  have y3 := cell_of_row _ _ 3 _ _ _ Q0.out
  have y4 := cell_of_row _ _ 4 _ _ _ Q0.out
  have y5 := cell_of_row _ _ 5 _ _ _ Q0.out
  have CC := hid (rall20 pb pb' lb cb lb' cb' B B' v0 HL.out.1.1 HL.out.2.1 (I1.out.below A0.out) (J1.out.below A0.out))
  rw [H0.out] at CC
  go_wp2_with fail
  refine CC.out.mono ?_
  rintro e9 v1 ⟨rfl, k9⟩
  have B1 : Hid (Ab v0 v1) := k9
  have A1 : Hid (Ab w v1) := A0.out.trans B1.out
  clear k9 CC x0 x1 x2 x3 x4 x5 y0 y1 y2 y3 y4 y5
  have x0 := cell_of_row _ _ 0 _ _ _ (B1.out.heap R0.out)
  have x1 := cell_of_row _ _ 1 _ _ _ (B1.out.heap R0.out)
  have x2 := cell_of_row _ _ 2 _ _ _ (B1.out.heap R0.out)
  have x3 := cell_of_row _ _ 3 _ _ _ (B1.out.heap R0.out)
  have x4 := cell_of_row _ _ 4 _ _ _ (B1.out.heap R0.out)
  have x5 := cell_of_row _ _ 5 _ _ _ (B1.out.heap R0.out)
  have y0 := cell_of_row _ _ 0 _ _ _ (B1.out.heap Q0.out)
  have y1 := cell_of_row _ _ 1 _ _ _ (B1.out.heap Q0.out)
  have y2 := cell_of_row _ _ 2 _ _ _ (B1.out.heap Q0.out)
  have y3 := cell_of_row _ _ 3 _ _ _ (B1.out.heap Q0.out)
  have y4 := cell_of_row _ _ 4 _ _ _ (B1.out.heap Q0.out)
  have y5 := cell_of_row _ _ 5 _ _ _ (B1.out.heap Q0.out)
  have CC := hid (rwhole20 pw pw' lw cw lw' cw' W W' v1 HL.out.1.2.1 HL.out.2.2.1 (I2.out.below A1.out) (J2.out.below A1.out))
  rw [H1.out] at CC
  go_wp2_with fail
  refine CC.out.mono ?_
  rintro e9 v2 ⟨rfl, k9⟩
  have B2 : Hid (Ab v0 v2) := B1.out.call k9
  have A2 : Hid (Ab w v2) := A0.out.trans B2.out
  clear k9 CC x0 x1 x2 x3 x4 x5 y0 y1 y2 y3 y4 y5
  have x0 := cell_of_row _ _ 0 _ _ _ (B2.out.heap R0.out)
  have x1 := cell_of_row _ _ 1 _ _ _ (B2.out.heap R0.out)
  have x2 := cell_of_row _ _ 2 _ _ _ (B2.out.heap R0.out)
  have x3 := cell_of_row _ _ 3 _ _ _ (B2.out.heap R0.out)
  have x4 := cell_of_row _ _ 4 _ _ _ (B2.out.heap R0.out)
  have x5 := cell_of_row _ _ 5 _ _ _ (B2.out.heap R0.out)
  have y0 := cell_of_row _ _ 0 _ _ _ (B2.out.heap Q0.out)
  have y1 := cell_of_row _ _ 1 _ _ _ (B2.out.heap Q0.out)
  have y2 := cell_of_row _ _ 2 _ _ _ (B2.out.heap Q0.out)
  have y3 := cell_of_row _ _ 3 _ _ _ (B2.out.heap Q0.out)
  have y4 := cell_of_row _ _ 4 _ _ _ (B2.out.heap Q0.out)
  have y5 := cell_of_row _ _ 5 _ _ _ (B2.out.heap Q0.out)
  have CC := hid (rwhole20 pt pt' lt ct lt' ct' T T' v2 HL.out.1.2.2.1 HL.out.2.2.2.1 (I3.out.below A2.out) (J3.out.below A2.out))
  rw [H2.out] at CC
  go_wp2_with fail
  refine CC.out.mono ?_
  rintro e9 v3 ⟨rfl, k9⟩
  have B3 : Hid (Ab v0 v3) := B2.out.call k9
  have A3 : Hid (Ab w v3) := A0.out.trans B3.out
  clear k9 CC x0 x1 x2 x3 x4 x5 y0 y1 y2 y3 y4 y5
  have x0 := cell_of_row _ _ 0 _ _ _ (B3.out.heap R0.out)
  have x1 := cell_of_row _ _ 1 _ _ _ (B3.out.heap R0.out)
  have x2 := cell_of_row _ _ 2 _ _ _ (B3.out.heap R0.out)
  have x3 := cell_of_row _ _ 3 _ _ _ (B3.out.heap R0.out)
  have x4 := cell_of_row _ _ 4 _ _ _ (B3.out.heap R0.out)
  have x5 := cell_of_row _ _ 5 _ _ _ (B3.out.heap R0.out)
  have y0 := cell_of_row _ _ 0 _ _ _ (B3.out.heap Q0.out)
  have y1 := cell_of_row _ _ 1 _ _ _ (B3.out.heap Q0.out)
  have y2 := cell_of_row _ _ 2 _ _ _ (B3.out.heap Q0.out)
  have y3 := cell_of_row _ _ 3 _ _ _ (B3.out.heap Q0.out)
  have y4 := cell_of_row _ _ 4 _ _ _ (B3.out.heap Q0.out)
  have y5 := cell_of_row _ _ 5 _ _ _ (B3.out.heap Q0.out)
  have CC := hid (rall20 ps ps' ls cs ls' cs' S S' v3 HL.out.1.2.2.2 HL.out.2.2.2.2 (I4.out.below A3.out) (J4.out.below A3.out))
  rw [H3.out] at CC
  go_wp2_with fail
  refine CC.out.mono ?_
  rintro e9 v4 ⟨rfl, k9⟩
  have B4 : Hid (Ab v0 v4) := B3.out.call k9
  have A4 : Hid (Ab w v4) := A0.out.trans B4.out
  clear k9 CC x0 x1 x2 x3 x4 x5 y0 y1 y2 y3 y4 y5
  have x0 := cell_of_row _ _ 0 _ _ _ (B4.out.heap R0.out)
  have x1 := cell_of_row _ _ 1 _ _ _ (B4.out.heap R0.out)
  have x2 := cell_of_row _ _ 2 _ _ _ (B4.out.heap R0.out)
  have x3 := cell_of_row _ _ 3 _ _ _ (B4.out.heap R0.out)
  have x4 := cell_of_row _ _ 4 _ _ _ (B4.out.heap R0.out)
  have x5 := cell_of_row _ _ 5 _ _ _ (B4.out.heap R0.out)
  have y0 := cell_of_row _ _ 0 _ _ _ (B4.out.heap Q0.out)
  have y1 := cell_of_row _ _ 1 _ _ _ (B4.out.heap Q0.out)
  have y2 := cell_of_row _ _ 2 _ _ _ (B4.out.heap Q0.out)
  have y3 := cell_of_row _ _ 3 _ _ _ (B4.out.heap Q0.out)
  have y4 := cell_of_row _ _ 4 _ _ _ (B4.out.heap Q0.out)
  have y5 := cell_of_row _ _ 5 _ _ _ (B4.out.heap Q0.out)
  go_wp2
  go_ret
  exact ⟨rfl, A4.out⟩
/-- WHAT THE REFERENCE'S Same ANSWERS -/
theorem rsame_at (pb : Option Addr) (lb cb : Nat) (B : Nat → Nat) (pw : Option Addr) (lw cw : Nat) (W : Nat → Int) (pt : Option Addr) (lt ct : Nat) (T : Nat → Int) (ps : Option Addr) (ls cs : Nat) (S : Nat → Nat) (sky st : Int) (pb' : Option Addr) (lb' cb' : Nat) (B' : Nat → Nat) (pw' : Option Addr) (lw' cw' : Nat) (W' : Nat → Int) (pt' : Option Addr) (lt' ct' : Nat) (T' : Nat → Int) (ps' : Option Addr) (ls' cs' : Nat) (S' : Nat → Nat) (sky' st' : Int) (w : World) (hl : (lb ≤ 131072 ∧ lw ≤ 131072 ∧ lt ≤ 131072 ∧ ls ≤ 131072)) (hl' : (lb' ≤ 131072 ∧ lw' ≤ 131072 ∧ lt' ≤ 131072 ∧ ls' ≤ 131072)) (i1 : IsFl w pb lb B) (i2 : Sh.IsI w pw lw W) (i3 : Sh.IsI w pt lt T) (i4 : IsFl w ps ls S) (j1 : IsFl w pb' lb' B') (j2 : Sh.IsI w pw' lw' W') (j3 : Sh.IsI w pt' lt' T') (j4 : IsFl w ps' ls' S') :
    Calls Tryz.prog 16 #[.agg #[.slice pb lb cb, .slice pw lw cw, .slice pt lt ct, .slice ps ls cs, .int .i64 sky, .int .i64 st], .agg #[.slice pb' lb' cb', .slice pw' lw' cw', .slice pt' lt' ct', .slice ps' ls' cs', .int .i64 sky', .int .i64 st']] w fun e w' => e = .returned (.bool (eqS lb lw lt ls B W T S sky st lb' lw' lt' ls' B' W' T' S' sky' st')) ∧ Below w.heap.size w w' := by
  unfold eqS
  cases h0 : eqL lb lb' B B' with
  | false => exact rsame_0 pb lb cb B pw lw cw W pt lt ct T ps ls cs S sky st pb' lb' cb' B' pw' lw' cw' W' pt' lt' ct' T' ps' ls' cs' S' sky' st' w ⟨hl, hl'⟩ i1 j1 h0
  | true =>
    cases h1 : eqL lw lw' W W' with
    | false => exact rsame_1 pb lb cb B pw lw cw W pt lt ct T ps ls cs S sky st pb' lb' cb' B' pw' lw' cw' W' pt' lt' ct' T' ps' ls' cs' S' sky' st' w ⟨hl, hl'⟩ i1 i2 j1 j2 h0 h1
    | true =>
      cases h2 : eqL lt lt' T T' with
      | false => exact rsame_2 pb lb cb B pw lw cw W pt lt ct T ps ls cs S sky st pb' lb' cb' B' pw' lw' cw' W' pt' lt' ct' T' ps' ls' cs' S' sky' st' w ⟨hl, hl'⟩ i1 i2 i3 j1 j2 j3 h0 h1 h2
      | true =>
        cases h3 : eqL ls ls' S S' with
        | false => exact rsame_3 pb lb cb B pw lw cw W pt lt ct T ps ls cs S sky st pb' lb' cb' B' pw' lw' cw' W' pt' lt' ct' T' ps' ls' cs' S' sky' st' w ⟨hl, hl'⟩ i1 i2 i3 i4 j1 j2 j3 j4 h0 h1 h2 h3
        | true =>
          by_cases h4 : sky = sky'
          · by_cases h5 : st = st'
            · rw [decide_eq_true h4, decide_eq_true h5]
              exact rsame_6 pb lb cb B pw lw cw W pt lt ct T ps ls cs S sky st pb' lb' cb' B' pw' lw' cw' W' pt' lt' ct' T' ps' ls' cs' S' sky' st' w ⟨hl, hl'⟩ i1 i2 i3 i4 j1 j2 j3 j4 h0 h1 h2 h3 (by simp [h4]) (by simp [h5])
            · rw [decide_eq_true h4, decide_eq_false h5]
              exact rsame_5 pb lb cb B pw lw cw W pt lt ct T ps ls cs S sky st pb' lb' cb' B' pw' lw' cw' W' pt' lt' ct' T' ps' ls' cs' S' sky' st' w ⟨hl, hl'⟩ i1 i2 i3 i4 j1 j2 j3 j4 h0 h1 h2 h3 (by simp [h4]) (by simp [h5])
          · rw [decide_eq_false h4]
            exact rsame_4 pb lb cb B pw lw cw W pt lt ct T ps ls cs S sky st pb' lb' cb' B' pw' lw' cw' W' pt' lt' ct' T' ps' ls' cs' S' sky' st' w ⟨hl, hl'⟩ i1 i2 i3 i4 j1 j2 j3 j4 h0 h1 h2 h3 (by simp [h4])
set_option maxRecDepth 100000 in
set_option maxHeartbeats 32000000 in
theorem rcheck_go (n N : Nat) (pb : Option Addr) (lb cb : Nat) (B : Nat → Nat) (pw : Option Addr) (lw cw : Nat) (W : Nat → Int) (pt : Option Addr) (lt ct : Nat) (T : Nat → Int) (ps : Option Addr) (ls cs : Nat) (S : Nat → Nat) (sky st : Int) (w : World) (hn : 1 ≤ n ∧ n ≤ 32) (hN : 6 * (n : Int) * (n : Int) = (N : Nat)) (HL : Hid (lb ≤ 281474976710656 ∧ lw ≤ 281474976710656 ∧ lt ≤ 281474976710656 ∧ ls ≤ 281474976710656)) (i1 : IsFl w pb lb B) (i2 : Sh.IsI w pw lw W) (i3 : Sh.IsI w pt lt T) (i4 : IsFl w ps ls S) :
    Calls Tryz.prog 14 #[.int .i64 (n : Nat), .agg #[.slice pb lb cb, .slice pw lw cw, .slice pt lt ct, .slice ps ls cs, .int .i64 sky, .int .i64 st]] w fun e w' => e = .returned (.tuple #[.int .i64 (chN N lb lw lt ls B W T S sky st).1, .int .i64 (chN N lb lw lt ls B W T S sky st).2]) ∧ Below w.heap.size w w' := by
  have I1 := hid i1
  have I2 := hid i2
  have I3 := hid i3
  have I4 := hid i4
  clear i1 i2 i3 i4
  have d1 : decide ((n : Int) < 1) = false := decide_eq_false (by omega)
  have d2 : decide (32 < (n : Int)) = false := decide_eq_false (by omega)
  have nI : (n : Int) ≤ 32 := by omega
  have NB : (N : Int) ≤ 6144 := by
    have h1 : n * n ≤ 32 * 32 := Nat.mul_le_mul hn.2 hn.2
    have h2 : ((n * n : Nat) : Int) ≤ ((32 * 32 : Nat) : Int) := by exact_mod_cast h1
    rw [Int.natCast_mul] at h2
    rw [← hN, Int.mul_assoc]
    omega
  have m1 : -9223372036854775808 ≤ 6 * (n : Int) * (n : Int) := by rw [hN]; omega
  have m2 : 6 * (n : Int) * (n : Int) ≤ 9223372036854775807 := by rw [hN]; omega
  have l1 : (ls : Int) ≤ 281474976710656 := by have := HL.out; omega
  have HB := hid NB
  have A0 : Hid (Ab w (w.alloc (.cells #[.slice pb lb cb, .slice pw lw cw, .slice pt lt ct, .slice ps ls cs, .int .i64 sky, .int .i64 st] 33))) := bl1 _ _
  have R0 : Hid ((w.alloc (.cells #[.slice pb lb cb, .slice pw lw cw, .slice pt lt ct, .slice ps ls cs, .int .i64 sky, .int .i64 st] 33)).heap[w.heap.size]? = some (.cells #[.slice pb lb cb, .slice pw lw cw, .slice pt lt ct, .slice ps ls cs, .int .i64 sky, .int .i64 st] 33)) := heap_alloc_new _ _
  clear hn
  go_enter Tryz.func14, Tryz.ntmps14
  go_upto_region 1 with fail
  generalize hW : World.alloc w _ = V0 at *
  obtain ⟨gw, hgw⟩ : ∃ g, w.heap.size = g := ⟨_, rfl⟩
  rw [hgw] at R0 ⊢
  clear hgw hW
  have x0 := cell_of_row _ _ 0 _ _ _ R0.out
  have x1 := cell_of_row _ _ 1 _ _ _ R0.out
  have x2 := cell_of_row _ _ 2 _ _ _ R0.out
  have x3 := cell_of_row _ _ 3 _ _ _ R0.out
  have x4 := cell_of_row _ _ 4 _ _ _ R0.out
  have x5 := cell_of_row _ _ 5 _ _ _ R0.out
  go_upto_region 5 with fail
  have AL : Hid (Ab V0 (V0.alloc (.cells #[.int .i64 (lb : Nat), .int .i64 (lw : Nat), .int .i64 (lt : Nat), .int .i64 ((ls : Int) - (N : Int))] 3))) := bl1 _ _
  have RL : Hid ((V0.alloc (.cells #[.int .i64 (lb : Nat), .int .i64 (lw : Nat), .int .i64 (lt : Nat), .int .i64 ((ls : Int) - (N : Int))] 3)).heap[V0.heap.size]? = some (.cells #[.int .i64 (lb : Nat), .int .i64 (lw : Nat), .int .i64 (lt : Nat), .int .i64 ((ls : Int) - (N : Int))] 3)) := heap_alloc_new _ _
  generalize hW : World.alloc V0 _ = V1 at *
  obtain ⟨gl, hgl⟩ : ∃ g, V0.heap.size = g := ⟨_, rfl⟩
  rw [hgl] at RL ⊢
  clear hgl hW x0 x1 x2 x3 x4 x5
  have A1 : Hid (Ab w V1) := A0.out.trans AL.out
  have R1 := hid (AL.out.heap R0.out)
  have LC : Hid (∀ k, k < 4 → V1.cell? ⟨gl, k, none⟩ = some (.int .i64 (szN N lb lw lt ls k))) := fun k hk => by
    match k, hk with
    | 0, _ => exact cell_of_row _ _ 0 _ _ _ RL.out
    | 1, _ => exact cell_of_row _ _ 1 _ _ _ RL.out
    | 2, _ => exact cell_of_row _ _ 2 _ _ _ RL.out
    | 3, _ => exact cell_of_row _ _ 3 _ _ _ RL.out
  clear AL RL A0 R0
  go_wp2
  go_loopw [8] (fun iv wr => ∃ k : Nat, k ≤ 4 ∧ iv = .int .i64 (k : Nat) ∧ (∀ i, i < k → szN N lb lw lt ls i = N) ∧ wr = V1) (fun iv _ => 4 - (intOf iv).toNat)
  case atStart => exact ⟨0, by omega, rfl, fun i hi => absurd hi (Nat.not_lt_zero i), rfl⟩
  case round =>
    obtain ⟨k, hk, rfl, g1, hwr⟩ := hrel
    have hwr2 := hwr.symm
    subst hwr2
    have G1 := hid g1
    clear g1
    by_cases hk4 : k < 4
    · have HK := hid hk4
      have kI : (k : Int) < 4 := by omega
      have cc := LC.out k hk4
      obtain ⟨x, hx⟩ : ∃ x, szN N lb lw lt ls k = x := ⟨_, rfl⟩
      rw [hx] at cc
      by_cases q : x = (N : Int)
      · have e1 : (x != (N : Int)) = false := by simp [q]
        have XE : Hid (szN N lb lw lt ls k = N) := hx.trans q
        clear q hx hk4 hk
        go_wp2
        refine ⟨⟨k + 1, by have := HK.out; omega, by simp, fun i hi => ?_, by first | trivial | rfl⟩, by have := HK.out; simp [intOf]; omega⟩
        by_cases l : i < k
        · exact G1.out i l
        · obtain rfl : i = k := by omega
          exact XE.out
      · have e1 : (x != (N : Int)) = true := by simp [q]
        have E : Hid (chN N lb lw lt ls B W T S sky st = (((k : Nat) : Int), 12)) := chN_size hk4 G1.out (by rw [hx]; exact q)
        clear q hx hk4 hk
        go_wp2
        go_ret2
        exact ⟨by rw [E.out]; rfl, A1.out⟩
    · have k4 : k = 4 := by omega
      subst k4
      have SZ := hid (szN_all G1.out)
      have HS : Hid (lb ≤ 131072 ∧ lw ≤ 131072 ∧ lt ≤ 131072 ∧ ls ≤ 131072) := by have h1 := SZ.out; have h2 := HB.out; show _ ∧ _; omega
      have E := hid (chN_M (B := B) (W := W) (T := T) (S := S) (sky := sky) (st := st) SZ.out)
      have EM : Hid (chM N B W T S sky st = if 0 ≤ fp (bB B) N then (fp (bB B) N, 13) else if sky < 0 ∨ 4503599627370496 < sky then (0, 17) else if 0 ≤ fp (bQ W sky) N then (fp (bQ W sky) N, 14) else if 0 ≤ fp (bQ T 0) N then (fp (bQ T 0) N, 15) else if 0 ≤ fp (bS S) (2 * N) then (fp (bS S) (2 * N), 16) else if st < 0 ∨ 4611686018427387904 < st then (0, 1) else (0, 0)) := rfl
      have F1 : Hid (∀ v, Ab w v → Calls Tryz.prog 38 #[.slice pb lb cb, .float .f64 4697254411347427328] v fun e w' => e = .returned (.int .i64 (fp (bB B) N)) ∧ w' = v) := fun v a => by rw [← SZ.out.1]; exact rfloats20 pb lb cb B _ 13920626448202203136 (bB B) v (by decide +kernel) HS.out.1 (I1.out.below a) (fun i _ => rfl)
      have F2 : Hid (∀ v, Ab w v → 0 ≤ sky → sky ≤ 4503599627370496 → Calls Tryz.prog 39 #[.slice pw lw cw, .int .i64 sky] v fun e w' => e = .returned (.int .i64 (fp (bQ W sky) N)) ∧ w' = v) := fun v a h1 h2 => by rw [← SZ.out.2.1]; exact rquanta20 pw lw cw W sky v HS.out.2.1 (I2.out.below a) ⟨h1, h2⟩
      have F3 : Hid (∀ v, Ab w v → Calls Tryz.prog 39 #[.slice pt lt ct, .int .i64 0] v fun e w' => e = .returned (.int .i64 (fp (bQ T 0) N)) ∧ w' = v) := fun v a => by rw [← SZ.out.2.2.1]; exact rquanta20 pt lt ct T 0 v HS.out.2.2.1 (I3.out.below a) ⟨by omega, by omega⟩
      have F4 : Hid (∀ v, Ab w v → Calls Tryz.prog 38 #[.slice ps ls cs, .float .f64 4652218415073722368] v fun e w' => e = .returned (.int .i64 (fp (bS S) (2 * N))) ∧ w' = v) := fun v a => by rw [← SZ.out.2.2.2]; exact rfloats20 ps ls cs S _ 13875590451928498176 (bS S) v (by decide +kernel) HS.out.2.2.2 (I4.out.below a) (fun i _ => rfl)
      obtain ⟨f1, hf1⟩ : ∃ x, fp (bB B) N = x := ⟨_, rfl⟩
      obtain ⟨f2, hf2⟩ : ∃ x, fp (bQ W sky) N = x := ⟨_, rfl⟩
      obtain ⟨f3, hf3⟩ : ∃ x, fp (bQ T 0) N = x := ⟨_, rfl⟩
      obtain ⟨f4, hf4⟩ : ∃ x, fp (bS S) (2 * N) = x := ⟨_, rfl⟩
      rw [hf1, hf2, hf3, hf4] at EM
      rw [hf1] at F1
      rw [hf2] at F2
      rw [hf3] at F3
      rw [hf4] at F4
      clear hf1 hf2 hf3 hf4 hk4 hk LC G1
      have x0 := cell_of_row _ _ 0 _ _ _ R1.out
      have x1 := cell_of_row _ _ 1 _ _ _ R1.out
      have x2 := cell_of_row _ _ 2 _ _ _ R1.out
      have x3 := cell_of_row _ _ 3 _ _ _ R1.out
      have x4 := cell_of_row _ _ 4 _ _ _ R1.out
      have x5 := cell_of_row _ _ 5 _ _ _ R1.out
      go_wp2_with fail
      refine (F1.out V1 A1.out).mono ?_
      rintro e9 v9 ⟨rfl, hv9⟩
      have hv8 := hv9.symm
      subst hv8
      by_cases c1 : 0 ≤ f1
      · have e1 : decide (0 ≤ f1) = true := decide_eq_true c1
        have C1 := hid c1
        clear c1
        go_wp2
        go_ret2
        exact ⟨by rw [E.out, EM.out, if_pos (by have h := C1.out; omega)]; rfl, A1.out⟩
      · have e1 : decide (0 ≤ f1) = false := decide_eq_false c1
        have C1 := hid c1
        clear c1
        by_cases c2 : sky < 0 ∨ 4503599627370496 < sky
        · by_cases c2a : sky < 0
          · have e2 : decide (sky < 0) = true := decide_eq_true c2a
            have C2 := hid c2
            clear c2
            go_wp2
            go_ret2
            exact ⟨by rw [E.out, EM.out, if_neg (by have h := C1.out; omega), if_pos (by have h := C2.out; omega)]; rfl, A1.out⟩
          · have e2 : decide (sky < 0) = false := decide_eq_false c2a
            have e3 : decide (4503599627370496 < sky) = true := decide_eq_true (by omega)
            have C2 := hid c2
            clear c2
            go_wp2
            go_ret2
            exact ⟨by rw [E.out, EM.out, if_neg (by have h := C1.out; omega), if_pos (by have h := C2.out; omega)]; rfl, A1.out⟩
        · have e2 : decide (sky < 0) = false := decide_eq_false (by omega)
          have e3 : decide (4503599627370496 < sky) = false := decide_eq_false (by omega)
          have k1 : 0 ≤ sky := by omega
          have k2 : sky ≤ 4503599627370496 := by omega
          have C2 := hid c2
          clear c2
          go_wp2_with fail
          refine (F2.out V1 A1.out k1 k2).mono ?_
          rintro e9 v9 ⟨rfl, hv9⟩
          have hv8 := hv9.symm
          subst hv8
          by_cases c3 : 0 ≤ f2
          · have e4 : decide (0 ≤ f2) = true := decide_eq_true c3
            have C3 := hid c3
            clear c3
            go_wp2
            go_ret2
            exact ⟨by rw [E.out, EM.out, if_neg (by have h := C1.out; omega), if_neg (by have h := C2.out; omega), if_pos (by have h := C3.out; omega)]; rfl, A1.out⟩
          · have e4 : decide (0 ≤ f2) = false := decide_eq_false c3
            have C3 := hid c3
            clear c3
            go_wp2_with fail
            refine (F3.out V1 A1.out).mono ?_
            rintro e9 v9 ⟨rfl, hv9⟩
            have hv8 := hv9.symm
            subst hv8
            by_cases c4 : 0 ≤ f3
            · have e5 : decide (0 ≤ f3) = true := decide_eq_true c4
              have C4 := hid c4
              clear c4
              go_wp2
              go_ret2
              exact ⟨by rw [E.out, EM.out, if_neg (by have h := C1.out; omega), if_neg (by have h := C2.out; omega), if_neg (by have h := C3.out; omega), if_pos (by have h := C4.out; omega)]; rfl, A1.out⟩
            · have e5 : decide (0 ≤ f3) = false := decide_eq_false c4
              have C4 := hid c4
              clear c4
              go_wp2_with fail
              refine (F4.out V1 A1.out).mono ?_
              rintro e9 v9 ⟨rfl, hv9⟩
              have hv8 := hv9.symm
              subst hv8
              by_cases c5 : 0 ≤ f4
              · have e6 : decide (0 ≤ f4) = true := decide_eq_true c5
                have C5 := hid c5
                clear c5
                go_wp2
                go_ret2
                exact ⟨by rw [E.out, EM.out, if_neg (by have h := C1.out; omega), if_neg (by have h := C2.out; omega), if_neg (by have h := C3.out; omega), if_neg (by have h := C4.out; omega), if_pos (by have h := C5.out; omega)]; rfl, A1.out⟩
              · have e6 : decide (0 ≤ f4) = false := decide_eq_false c5
                have C5 := hid c5
                clear c5
                by_cases c6 : st < 0 ∨ 4611686018427387904 < st
                · by_cases c6a : st < 0
                  · have e7 : decide (st < 0) = true := decide_eq_true c6a
                    have C6 := hid c6
                    clear c6
                    go_wp2
                    go_ret2
                    exact ⟨by rw [E.out, EM.out, if_neg (by have h := C1.out; omega), if_neg (by have h := C2.out; omega), if_neg (by have h := C3.out; omega), if_neg (by have h := C4.out; omega), if_neg (by have h := C5.out; omega), if_pos (by have h := C6.out; omega)]; rfl, A1.out⟩
                  · have e7 : decide (st < 0) = false := decide_eq_false c6a
                    have e8 : decide (4611686018427387904 < st) = true := decide_eq_true (by omega)
                    have C6 := hid c6
                    clear c6
                    go_wp2
                    go_ret2
                    exact ⟨by rw [E.out, EM.out, if_neg (by have h := C1.out; omega), if_neg (by have h := C2.out; omega), if_neg (by have h := C3.out; omega), if_neg (by have h := C4.out; omega), if_neg (by have h := C5.out; omega), if_pos (by have h := C6.out; omega)]; rfl, A1.out⟩
                · have e7 : decide (st < 0) = false := decide_eq_false (by omega)
                  have e8 : decide (4611686018427387904 < st) = false := decide_eq_false (by omega)
                  have C6 := hid c6
                  clear c6
                  go_wp2
                  go_ret2
                  exact ⟨by rw [E.out, EM.out, if_neg (by have h := C1.out; omega), if_neg (by have h := C2.out; omega), if_neg (by have h := C3.out; omega), if_neg (by have h := C4.out; omega), if_neg (by have h := C5.out; omega), if_neg (by have h := C6.out; omega)]; rfl, A1.out⟩
set_option maxRecDepth 100000 in
set_option maxHeartbeats 16000000 in
theorem rcheck_no (side : Int) (pb : Option Addr) (lb cb : Nat) (pw : Option Addr) (lw cw : Nat) (pt : Option Addr) (lt ct : Nat) (ps : Option Addr) (ls cs : Nat) (sky st : Int) (w : World) (h : ¬ (1 ≤ side ∧ side ≤ 32)) :
    Calls Tryz.prog 14 #[.int .i64 side, .agg #[.slice pb lb cb, .slice pw lw cw, .slice pt lt ct, .slice ps ls cs, .int .i64 sky, .int .i64 st]] w fun e w' => e = .returned (.tuple #[.int .i64 0, .int .i64 10]) ∧ Below w.heap.size w w' := by
  have A0 : Hid (Ab w (w.alloc (.cells #[.slice pb lb cb, .slice pw lw cw, .slice pt lt ct, .slice ps ls cs, .int .i64 sky, .int .i64 st] 33))) := bl1 _ _
  by_cases c : side < 1
  · have d1 : decide (side < 1) = true := decide_eq_true c
    clear h c
    go_enter Tryz.func14, Tryz.ntmps14
    go_wp2
    go_ret2
    exact ⟨rfl, A0.out⟩
  · have d1 : decide (side < 1) = false := decide_eq_false c
    have d2 : decide (32 < side) = true := decide_eq_true (by omega)
    clear h c
    go_enter Tryz.func14, Tryz.ntmps14
    go_wp2
    go_ret2
    exact ⟨rfl, A0.out⟩
/-- WHAT THE REFERENCE'S Check ANSWERS -/
theorem rcheck_at (side : Int) (pb : Option Addr) (lb cb : Nat) (B : Nat → Nat) (pw : Option Addr) (lw cw : Nat) (W : Nat → Int) (pt : Option Addr) (lt ct : Nat) (T : Nat → Int) (ps : Option Addr) (ls cs : Nat) (S : Nat → Nat) (sky st : Int) (w : World) (hl : (lb ≤ 281474976710656 ∧ lw ≤ 281474976710656 ∧ lt ≤ 281474976710656 ∧ ls ≤ 281474976710656)) (i1 : IsFl w pb lb B) (i2 : Sh.IsI w pw lw W) (i3 : Sh.IsI w pt lt T) (i4 : IsFl w ps ls S) :
    Calls Tryz.prog 14 #[.int .i64 side, .agg #[.slice pb lb cb, .slice pw lw cw, .slice pt lt ct, .slice ps ls cs, .int .i64 sky, .int .i64 st]] w fun e w' => e = .returned (.tuple #[.int .i64 (chk side lb lw lt ls B W T S sky st).1, .int .i64 (chk side lb lw lt ls B W T S sky st).2]) ∧ Below w.heap.size w w' := by
  unfold chk
  by_cases h : 1 ≤ side ∧ side ≤ 32
  · rw [if_pos h]
    obtain ⟨n, rfl⟩ : ∃ n : Nat, side = (n : Nat) := ⟨side.toNat, by omega⟩
    rw [Int.toNat_natCast]
    exact rcheck_go n (6 * n * n) pb lb cb B pw lw cw W pt lt ct T ps ls cs S sky st w (by omega) (by rw [Int.natCast_mul, Int.natCast_mul]; rfl) hl i1 i2 i3 i4
  · rw [if_neg h]
    exact rcheck_no side pb lb cb pw lw cw pt lt ct ps ls cs sky st w h
end Ss
end Go.Proofs.YtdigecacmibkpaaGreatDoor
