/-
  Some of the texts of this proof, one behind the other.
-/
import Derived.Test.YtnklgfmemelcpaaDoorZ12
import Derived.Deep.Cut
import Derived.Test.YtnklgfmemelcpaaDoorZ01
import Derived.Test.YtnklgfmemelcpaaDoorTie
import Derived.Test.YtnklgfmemelcpaaDoorCards
import Derived.ProofKit
import Derived.LaidMore
import Derived.OpenShut
import Derived.Stop.Joined
import Derived.Carry
import Derived.Lib.SmallJoins
import Derived.WalkLawsBesides
/-
  Edges and their order: walk over the program.
-/
namespace Go.Proofs.YtnklgfmemelcpaaDoor
open Go.RowKit Cu Tf
theorem isL_zero {n : Nat} (hn : 1 ≤ n) : isL n 0 = true := by
  have h : 0 < 6 * n * n := Nat.mul_pos (by omega) (by omega)
  have := bs_self hn h (s := 0) (by omega)
  unfold isL
  simp
  omega
theorem edT_zero {n : Nat} (hn : 1 ≤ n) : edT n 0 = 0 := by
  have h : 0 < 24 * n * n := Nat.mul_pos (by omega) (by omega)
  exact edT_eN (t := 0) hn h (isL_zero hn)
/-- no side between those of two edges that follow one another is a Left's -/
theorem none_between {n u t v : Nat} (_hu : isL n u = true) (_ht : isL n t = true) (h : eN n t = eN n u + 1) (h1 : u < v) (h2 : v < t) : isL n v = false := by
  cases hv : isL n v with
  | false => rfl
  | true =>
    have a := eN_lt _hu h1
    have b := eN_lt hv h2
    omega
def btw (cc ss yl ys xl xs : Nat) : Bool := (decide (yl < cc) || decide (ys < ss)) && (decide (cc < xl) || decide (ss < xs))
theorem n66 (n : Nat) : ((6 * n * n : Nat) : Int) = 6 * (n : Int) * n ∧ ((12 * n * n : Nat) : Int) = 12 * (n : Int) * n := by
  constructor <;> simp [Int.natCast_mul]
set_option maxRecDepth 100000 in
set_option maxHeartbeats 16000000 in
theorem gridEdges_0 (a b : Int) (w : World) (hF : Fr w) (hz0 : wi9 b (12 * (1 + wi9 a 32) * (1 + wi9 a 32)) = 0) :
    Calls Tryd.prog 3 #[.int .i64 a, .int .i64 b] w fun e w' => e = .returned (.bool true) ∧ Below w.heap.size w w' := by
  obtain ⟨n, hnx⟩ : ∃ n, 1 + wi9 a 32 = n := ⟨_, rfl⟩
  have hz := hz0
  rw [hnx] at hz
  have hn : 1 ≤ n ∧ n ≤ 32 := by have := wi9_lt a (n := 32) (by omega); omega
  have AWK := hid (awake9_at w hF)
  have NE : Hid (∀ v, Ab w v → Calls Tryd.prog 9 #[.int .i64 a] v fun e w' => ∃ gb, e = .returned (.pointer (some ⟨gb, 0, none⟩)) ∧ Ab v w' ∧ GridOf n gb w') := fun v hv => by rw [← hnx]; exact net9_at a v (hF.to hv)
  have HF := hid hF
  have Hn := hid hn
  have h12 := n12 hn
  have WE := hid (fun u => within9_at b (12 * n * n) u (by omega))
  have hr := wi9_lt b (n := 12 * n * n) (by omega)
  obtain ⟨e1, e2, e3⟩ := edT_spec hn.1 hr
  have EDG := hid (fun (gb : Nat) (v : World) (g : GridOf n gb v) => gEdge_ok hn e1 e2 g)
  rw [e3] at EDG
  have hc := t_cell e1
  have hs : edT n (wi9 b (12 * n * n)) % 4 < 4 := by omega
  obtain ⟨bc, bs⟩ := bs_lt hn.1 hc hs
  obtain ⟨k1, k2⟩ := bs_back hn.1 hc hs
  have BE1 : Hid (∀ v, Ab w v → Calls Tryd.prog 14 #[.int .i64 n, .int .i64 (edT n (wi9 b (12 * n * n)) / 4 : Nat), .int .i64 (edT n (wi9 b (12 * n * n)) % 4 : Nat)] v fun e w' => e = .returned (.tuple #[.int .i64 (bsC n (edT n (wi9 b (12 * n * n)) / 4) (edT n (wi9 b (12 * n * n)) % 4)), .int .i64 (bsS n (edT n (wi9 b (12 * n * n)) / 4) (edT n (wi9 b (12 * n * n)) % 4))]) ∧ Below v.heap.size v w') := fun v hv => beside_at n _ _ v hn hc hs (hF.to hv)
  have BE2 : Hid (∀ v, Ab w v → Calls Tryd.prog 14 #[.int .i64 n, .int .i64 (bsC n (edT n (wi9 b (12 * n * n)) / 4) (edT n (wi9 b (12 * n * n)) % 4)), .int .i64 (bsS n (edT n (wi9 b (12 * n * n)) / 4) (edT n (wi9 b (12 * n * n)) % 4))] v fun e w' => e = .returned (.tuple #[.int .i64 (edT n (wi9 b (12 * n * n)) / 4 : Nat), .int .i64 (edT n (wi9 b (12 * n * n)) % 4 : Nat)]) ∧ Below v.heap.size v w') := fun v hv => by
    have h := beside_at n _ _ v hn bc bs (hF.to hv)
    rw [k1, k2] at h
    exact h
  have hlt : edT n (wi9 b (12 * n * n)) / 4 < bsC n (edT n (wi9 b (12 * n * n)) / 4) (edT n (wi9 b (12 * n * n)) % 4) := by
    have h := e2; unfold isL at h; simpa using h
  clear k1 k2
  have hT : edT n (wi9 b (12 * n * n)) = 0 := by rw [hz]; exact edT_zero hn.1
  rw [hT] at EDG BE1 BE2 hlt bc bs hc hs
  clear e1 e2 e3 hT hr
  rw [hz] at WE EDG
  simp only [Nat.zero_div, Nat.zero_mod] at EDG BE1 BE2 hlt bc bs hc hs
  generalize bsC n 0 0 = d at *
  generalize bsS n 0 0 = o at *
  have hli : ((0 : Nat) : Int) < d := by omega
  have hni : (n : Int) ≤ 32 := by omega
  have N6 := hid (n66 n)
  clear hlt bc bs hc hs
  clear hF hnx hn hz
  go_enter Tryd.func3, Tryd.ntmps3
  go_wp2_with fail
  refine AWK.out.mono ?_
  rintro e v1 ⟨rfl, b1⟩
  have AW1 : Hid (Ab w v1) := b1
  clear b1
  go_wp2_with fail
  refine (NE.out v1 AW1.out).mono ?_
  rintro e v2 ⟨gb, rfl, b2, g2⟩
  have AW2 : Hid (Ab w v2) := AW1.out.trans b2
  have G2 : Hid (GridOf n gb v2) := g2
  clear b2 g2 AW1 AWK NE
  go_wp2_with fail
  refine Calls.mono (gSide_at G2.out) ?_
  rintro e vv ⟨rfl, hvv⟩
  have hvw := hvv.symm
  subst hvw
  go_wp2_with fail
  refine Calls.mono (gEdges_at G2.out) ?_
  rintro e vv ⟨rfl, hvv⟩
  have hvw := hvv.symm
  subst hvw
  go_wp2_with fail
  refine Calls.mono (WE.out _) ?_
  rintro e vv ⟨rfl, hvv⟩
  have hvw := hvv.symm
  subst hvw
  go_wp2_with fail
  refine Calls.mono (EDG.out gb _ G2.out) ?_
  rintro e v3 ⟨rfl, b3⟩
  have ST : Hid (Ab v2 (v3.alloc (.cells #[.int .i64 ((0 : Nat) : Int), .int .i64 ((0 : Nat) : Int), .int .i64 d, .int .i64 o] 28))) := Ab.call (show Ab _ _ from b3) (bl1 v3 (.cells #[.int .i64 ((0 : Nat) : Int), .int .i64 ((0 : Nat) : Int), .int .i64 d, .int .i64 o] 28))
  have AW3 : Hid (Ab w (v3.alloc (.cells #[.int .i64 ((0 : Nat) : Int), .int .i64 ((0 : Nat) : Int), .int .i64 d, .int .i64 o] 28))) := (AW2.out).trans ST.out
  have G3 : Hid (GridOf n gb (v3.alloc (.cells #[.int .i64 ((0 : Nat) : Int), .int .i64 ((0 : Nat) : Int), .int .i64 d, .int .i64 o] 28))) := G2.out.to ST.out
  have RX3 : Hid ((v3.alloc (.cells #[.int .i64 ((0 : Nat) : Int), .int .i64 ((0 : Nat) : Int), .int .i64 d, .int .i64 o] 28)).heap[v3.heap.size]? = some (.cells #[.int .i64 ((0 : Nat) : Int), .int .i64 ((0 : Nat) : Int), .int .i64 d, .int .i64 o] 28)) := heap_alloc_new _ _
  clear ST G2 AW2
  clear b3
  have xX0 := cell_of_row _ _ 0 _ _ _ RX3.out
  have xX1 := cell_of_row _ _ 1 _ _ _ RX3.out
  have xX2 := cell_of_row _ _ 2 _ _ _ RX3.out
  have xX3 := cell_of_row _ _ 3 _ _ _ RX3.out
  have lX := lt_of_block RX3.out
  go_wp2_with fail
  refine Calls.mono (BE1.out _ AW3.out) ?_
  rintro e v4 ⟨rfl, b4⟩
  clear xX0 xX1 xX2 xX3 lX
  have ST : Hid (Ab (v3.alloc (.cells #[.int .i64 ((0 : Nat) : Int), .int .i64 ((0 : Nat) : Int), .int .i64 d, .int .i64 o] 28)) v4) := b4
  have AW4 : Hid (Ab w v4) := (AW3.out).trans ST.out
  have RX4 : Hid (v4.heap[v3.heap.size]? = some (.cells #[.int .i64 ((0 : Nat) : Int), .int .i64 ((0 : Nat) : Int), .int .i64 d, .int .i64 o] 28)) := Ab.heap ST.out RX3.out
  have G4 : Hid (GridOf n gb v4) := G3.out.to ST.out
  clear ST RX3 G3 AW3
  clear b4
  have xX0 := cell_of_row _ _ 0 _ _ _ RX4.out
  have xX1 := cell_of_row _ _ 1 _ _ _ RX4.out
  have xX2 := cell_of_row _ _ 2 _ _ _ RX4.out
  have xX3 := cell_of_row _ _ 3 _ _ _ RX4.out
  have lX := lt_of_block RX4.out
  go_wp2_with fail
  refine Calls.mono (BE2.out _ AW4.out) ?_
  rintro e v5 ⟨rfl, b5⟩
  clear xX0 xX1 xX2 xX3 lX
  have ST : Hid (Ab v4 v5) := b5
  have AW5 : Hid (Ab w v5) := (AW4.out).trans ST.out
  have RX5 : Hid (v5.heap[v3.heap.size]? = some (.cells #[.int .i64 ((0 : Nat) : Int), .int .i64 ((0 : Nat) : Int), .int .i64 d, .int .i64 o] 28)) := Ab.heap ST.out RX4.out
  have G5 : Hid (GridOf n gb v5) := G4.out.to ST.out
  clear ST RX4 G4 AW4
  clear b5
  have ge : Hid (∀ v, GridOf n gb v → Calls Tryd.prog 12 #[.pointer (some ⟨gb, 0, none⟩)] v fun e w' => e = .returned (.int .i64 (12 * (n : Int) * n)) ∧ w' = v) := fun v g => by rw [← N6.out.2]; exact gEdges_at g
  have gc : Hid (∀ v, GridOf n gb v → Calls Tryd.prog 15 #[.pointer (some ⟨gb, 0, none⟩)] v fun e w' => e = .returned (.int .i64 (6 * (n : Int) * n)) ∧ w' = v) := fun v g => by rw [← N6.out.1]; exact gCells_at g
  have nn : 0 ≤ (n : Int) * n ∧ (n : Int) * n ≤ 1024 := ⟨Int.mul_nonneg (by omega) (by omega), by have := Int.mul_le_mul hni hni (by omega) (by omega); omega⟩
  have nn1 : 0 ≤ 12 * (n : Int) * n ∧ 12 * (n : Int) * n ≤ 12288 := by rw [Int.mul_assoc]; omega
  have nn2 : 0 ≤ 6 * (n : Int) * n ∧ 6 * (n : Int) * n ≤ 6144 := by rw [Int.mul_assoc]; omega
  have xX0 := cell_of_row _ _ 0 _ _ _ RX5.out
  have xX1 := cell_of_row _ _ 1 _ _ _ RX5.out
  have xX2 := cell_of_row _ _ 2 _ _ _ RX5.out
  have xX3 := cell_of_row _ _ 3 _ _ _ RX5.out
  have lX := lt_of_block RX5.out
  go_wp2_with fail
  refine Calls.mono (ge.out _ G5.out) ?_
  rintro e vv ⟨rfl, hvv⟩
  have hvw := hvv.symm
  subst hvw
  clear xX0 xX1 xX2 xX3 lX
  go_wp2_with fail
  refine Calls.mono (gc.out _ G5.out) ?_
  rintro e vv ⟨rfl, hvv⟩
  have hvw := hvv.symm
  subst hvw
  have xX0 := cell_of_row _ _ 0 _ _ _ RX5.out
  have xX1 := cell_of_row _ _ 1 _ _ _ RX5.out
  have xX2 := cell_of_row _ _ 2 _ _ _ RX5.out
  have xX3 := cell_of_row _ _ 3 _ _ _ RX5.out
  have lX := lt_of_block RX5.out
  go_wp2
  go_ret
  exact ⟨rfl, AW5.out⟩
set_option maxRecDepth 100000 in
set_option maxHeartbeats 16000000 in
theorem gridEdges_1 (a b : Int) (w : World) (hF : Fr w) (hz0 : wi9 b (12 * (1 + wi9 a 32) * (1 + wi9 a 32)) ≠ 0) :
    Calls Tryd.prog 3 #[.int .i64 a, .int .i64 b] w fun e w' => e = .returned (.bool true) ∧ Below w.heap.size w w' := by
  obtain ⟨n, hnx⟩ : ∃ n, 1 + wi9 a 32 = n := ⟨_, rfl⟩
  have hz := hz0
  rw [hnx] at hz
  have hn : 1 ≤ n ∧ n ≤ 32 := by have := wi9_lt a (n := 32) (by omega); omega
  have AWK := hid (awake9_at w hF)
  have NE : Hid (∀ v, Ab w v → Calls Tryd.prog 9 #[.int .i64 a] v fun e w' => ∃ gb, e = .returned (.pointer (some ⟨gb, 0, none⟩)) ∧ Ab v w' ∧ GridOf n gb w') := fun v hv => by rw [← hnx]; exact net9_at a v (hF.to hv)
  have HF := hid hF
  have Hn := hid hn
  have h12 := n12 hn
  have WE := hid (fun u => within9_at b (12 * n * n) u (by omega))
  have hr := wi9_lt b (n := 12 * n * n) (by omega)
  obtain ⟨e1, e2, e3⟩ := edT_spec hn.1 hr
  have EDG := hid (fun (gb : Nat) (v : World) (g : GridOf n gb v) => gEdge_ok hn e1 e2 g)
  rw [e3] at EDG
  have hc := t_cell e1
  have hs : edT n (wi9 b (12 * n * n)) % 4 < 4 := by omega
  obtain ⟨bc, bs⟩ := bs_lt hn.1 hc hs
  obtain ⟨k1, k2⟩ := bs_back hn.1 hc hs
  have BE1 : Hid (∀ v, Ab w v → Calls Tryd.prog 14 #[.int .i64 n, .int .i64 (edT n (wi9 b (12 * n * n)) / 4 : Nat), .int .i64 (edT n (wi9 b (12 * n * n)) % 4 : Nat)] v fun e w' => e = .returned (.tuple #[.int .i64 (bsC n (edT n (wi9 b (12 * n * n)) / 4) (edT n (wi9 b (12 * n * n)) % 4)), .int .i64 (bsS n (edT n (wi9 b (12 * n * n)) / 4) (edT n (wi9 b (12 * n * n)) % 4))]) ∧ Below v.heap.size v w') := fun v hv => beside_at n _ _ v hn hc hs (hF.to hv)
  have BE2 : Hid (∀ v, Ab w v → Calls Tryd.prog 14 #[.int .i64 n, .int .i64 (bsC n (edT n (wi9 b (12 * n * n)) / 4) (edT n (wi9 b (12 * n * n)) % 4)), .int .i64 (bsS n (edT n (wi9 b (12 * n * n)) / 4) (edT n (wi9 b (12 * n * n)) % 4))] v fun e w' => e = .returned (.tuple #[.int .i64 (edT n (wi9 b (12 * n * n)) / 4 : Nat), .int .i64 (edT n (wi9 b (12 * n * n)) % 4 : Nat)]) ∧ Below v.heap.size v w') := fun v hv => by
    have h := beside_at n _ _ v hn bc bs (hF.to hv)
    rw [k1, k2] at h
    exact h
  have hlt : edT n (wi9 b (12 * n * n)) / 4 < bsC n (edT n (wi9 b (12 * n * n)) / 4) (edT n (wi9 b (12 * n * n)) % 4) := by
    have h := e2; unfold isL at h; simpa using h
  clear k1 k2
  obtain ⟨f1, f2, f3⟩ := edT_spec hn.1 (k := wi9 b (12 * n * n) - 1) (by omega)
  have EDU := hid (fun (gb : Nat) (v : World) (g : GridOf n gb v) => gEdge_ok hn f1 f2 g)
  rw [f3] at EDU
  have hstep : eN n (edT n (wi9 b (12 * n * n))) = eN n (edT n (wi9 b (12 * n * n) - 1)) + 1 := by rw [e3, f3]; omega
  have hut : edT n (wi9 b (12 * n * n) - 1) < edT n (wi9 b (12 * n * n)) := by
    rcases Nat.lt_or_ge (edT n (wi9 b (12 * n * n) - 1)) (edT n (wi9 b (12 * n * n))) with h | h
    · exact h
    · have := eN_mono (n := n) h; omega
  have NB : Hid (∀ cc ss, ss < 4 → btw cc ss (edT n (wi9 b (12 * n * n) - 1) / 4) (edT n (wi9 b (12 * n * n) - 1) % 4) (edT n (wi9 b (12 * n * n)) / 4) (edT n (wi9 b (12 * n * n)) % 4) = true → edT n (wi9 b (12 * n * n) - 1) / 4 ≤ cc → cc ≤ edT n (wi9 b (12 * n * n)) / 4 → ¬ cc < bsC n cc ss) := by
    intro cc ss h4 hb h5 h6
    unfold btw at hb
    simp only [Bool.and_eq_true, Bool.or_eq_true, decide_eq_true_eq] at hb
    have h := none_between (v := 4 * cc + ss) f2 e2 hstep (by omega) (by omega)
    unfold isL at h
    rw [(t_dec h4).1, (t_dec h4).2] at h
    simpa using h
  have BEc : Hid (∀ cc ss v, cc ≤ edT n (wi9 b (12 * n * n)) / 4 → ss < 4 → Ab w v → Calls Tryd.prog 14 #[.int .i64 n, .int .i64 (cc : Nat), .int .i64 (ss : Nat)] v fun e w' => e = .returned (.tuple #[.int .i64 (bsC n cc ss), .int .i64 (bsS n cc ss)]) ∧ Below v.heap.size v w') := fun cc ss v h5 h4 hv => beside_at n cc ss v hn (by omega) h4 (hF.to hv)
  have hq4 : edT n (wi9 b (12 * n * n) - 1) / 4 ≤ edT n (wi9 b (12 * n * n)) / 4 ∧ (edT n (wi9 b (12 * n * n) - 1) / 4 = edT n (wi9 b (12 * n * n)) / 4 → edT n (wi9 b (12 * n * n) - 1) % 4 < edT n (wi9 b (12 * n * n)) % 4) := by omega
  have hxl : edT n (wi9 b (12 * n * n)) / 4 ≤ 6144 := by omega
  clear e1 e2 e3 f1 f2 f3 hstep hut
  generalize bsC n (edT n (wi9 b (12 * n * n)) / 4) (edT n (wi9 b (12 * n * n)) % 4) = d at *
  generalize bsS n (edT n (wi9 b (12 * n * n)) / 4) (edT n (wi9 b (12 * n * n)) % 4) = o at *
  generalize bsC n (edT n (wi9 b (12 * n * n) - 1) / 4) (edT n (wi9 b (12 * n * n) - 1) % 4) = d2 at *
  generalize bsS n (edT n (wi9 b (12 * n * n) - 1) / 4) (edT n (wi9 b (12 * n * n) - 1) % 4) = o2 at *
  generalize edT n (wi9 b (12 * n * n) - 1) / 4 = yl at *
  generalize edT n (wi9 b (12 * n * n) - 1) % 4 = ys at *
  generalize edT n (wi9 b (12 * n * n)) / 4 = q at *
  generalize edT n (wi9 b (12 * n * n)) % 4 = s at *
  have EDU' : Hid (∀ gb v, GridOf n gb v → Calls Tryd.prog 13 #[.pointer (some ⟨gb, 0, none⟩), .int .i64 ((wi9 b (12 * n * n) : Nat) - 1 : Int)] v fun e w' => e = .returned (.tuple #[.agg #[.int .i64 yl, .int .i64 ys, .int .i64 d2, .int .i64 o2], .bool true]) ∧ Below v.heap.size v w') := fun gb v g => by
    have h := EDU.out gb v g
    rw [show ((wi9 b (12 * n * n) - 1 : Nat) : Int) = (wi9 b (12 * n * n) : Nat) - 1 by omega] at h
    exact h
  clear EDU
  generalize wi9 b (12 * n * n) = r at *
  have hr0 : ¬ (r : Int) = 0 := by omega
  have hr1 : (r : Int) ≤ 12288 := by omega
  have hyq : (yl : Int) ≤ q := by omega
  have hxl' : (q : Int) ≤ 6144 := by omega
  have hq5 : (yl : Int) = q → (ys : Int) < s := by omega
  have HQ := hid hq4
  have hsi : (s : Int) < 4 := by omega
  have hli : (q : Int) < d := by omega
  have hni : (n : Int) ≤ 32 := by omega
  have N6 := hid (n66 n)
  clear hlt bc bs hc hs hr hz hq4
  clear hF hnx hn
  go_enter Tryd.func3, Tryd.ntmps3
  go_wp2_with fail
  refine AWK.out.mono ?_
  rintro e v1 ⟨rfl, b1⟩
  have AW1 : Hid (Ab w v1) := b1
  clear b1
  go_wp2_with fail
  refine (NE.out v1 AW1.out).mono ?_
  rintro e v2 ⟨gb, rfl, b2, g2⟩
  have AW2 : Hid (Ab w v2) := AW1.out.trans b2
  have G2 : Hid (GridOf n gb v2) := g2
  clear b2 g2 AW1 AWK NE
  go_wp2_with fail
  refine Calls.mono (gSide_at G2.out) ?_
  rintro e vv ⟨rfl, hvv⟩
  have hvw := hvv.symm
  subst hvw
  go_wp2_with fail
  refine Calls.mono (gEdges_at G2.out) ?_
  rintro e vv ⟨rfl, hvv⟩
  have hvw := hvv.symm
  subst hvw
  go_wp2_with fail
  refine Calls.mono (WE.out _) ?_
  rintro e vv ⟨rfl, hvv⟩
  have hvw := hvv.symm
  subst hvw
  go_wp2_with fail
  refine Calls.mono (EDG.out gb _ G2.out) ?_
  rintro e v3 ⟨rfl, b3⟩
  have ST : Hid (Ab v2 (v3.alloc (.cells #[.int .i64 q, .int .i64 s, .int .i64 d, .int .i64 o] 28))) := Ab.call (show Ab _ _ from b3) (bl1 v3 (.cells #[.int .i64 q, .int .i64 s, .int .i64 d, .int .i64 o] 28))
  have AW3 : Hid (Ab w (v3.alloc (.cells #[.int .i64 q, .int .i64 s, .int .i64 d, .int .i64 o] 28))) := (AW2.out).trans ST.out
  have G3 : Hid (GridOf n gb (v3.alloc (.cells #[.int .i64 q, .int .i64 s, .int .i64 d, .int .i64 o] 28))) := G2.out.to ST.out
  have RX3 : Hid ((v3.alloc (.cells #[.int .i64 q, .int .i64 s, .int .i64 d, .int .i64 o] 28)).heap[v3.heap.size]? = some (.cells #[.int .i64 q, .int .i64 s, .int .i64 d, .int .i64 o] 28)) := heap_alloc_new _ _
  clear ST G2 AW2
  clear b3
  have xX0 := cell_of_row _ _ 0 _ _ _ RX3.out
  have xX1 := cell_of_row _ _ 1 _ _ _ RX3.out
  have xX2 := cell_of_row _ _ 2 _ _ _ RX3.out
  have xX3 := cell_of_row _ _ 3 _ _ _ RX3.out
  have lX := lt_of_block RX3.out
  go_wp2_with fail
  refine Calls.mono (BE1.out _ AW3.out) ?_
  rintro e v4 ⟨rfl, b4⟩
  clear xX0 xX1 xX2 xX3 lX
  have ST : Hid (Ab (v3.alloc (.cells #[.int .i64 q, .int .i64 s, .int .i64 d, .int .i64 o] 28)) v4) := b4
  have AW4 : Hid (Ab w v4) := (AW3.out).trans ST.out
  have RX4 : Hid (v4.heap[v3.heap.size]? = some (.cells #[.int .i64 q, .int .i64 s, .int .i64 d, .int .i64 o] 28)) := Ab.heap ST.out RX3.out
  have G4 : Hid (GridOf n gb v4) := G3.out.to ST.out
  clear ST RX3 G3 AW3
  clear b4
  have xX0 := cell_of_row _ _ 0 _ _ _ RX4.out
  have xX1 := cell_of_row _ _ 1 _ _ _ RX4.out
  have xX2 := cell_of_row _ _ 2 _ _ _ RX4.out
  have xX3 := cell_of_row _ _ 3 _ _ _ RX4.out
  have lX := lt_of_block RX4.out
  go_wp2_with fail
  refine Calls.mono (BE2.out _ AW4.out) ?_
  rintro e v5 ⟨rfl, b5⟩
  clear xX0 xX1 xX2 xX3 lX
  have ST : Hid (Ab v4 v5) := b5
  have AW5 : Hid (Ab w v5) := (AW4.out).trans ST.out
  have RX5 : Hid (v5.heap[v3.heap.size]? = some (.cells #[.int .i64 q, .int .i64 s, .int .i64 d, .int .i64 o] 28)) := Ab.heap ST.out RX4.out
  have G5 : Hid (GridOf n gb v5) := G4.out.to ST.out
  clear ST RX4 G4 AW4
  clear b5
  have ge : Hid (∀ v, GridOf n gb v → Calls Tryd.prog 12 #[.pointer (some ⟨gb, 0, none⟩)] v fun e w' => e = .returned (.int .i64 (12 * (n : Int) * n)) ∧ w' = v) := fun v g => by rw [← N6.out.2]; exact gEdges_at g
  have gc : Hid (∀ v, GridOf n gb v → Calls Tryd.prog 15 #[.pointer (some ⟨gb, 0, none⟩)] v fun e w' => e = .returned (.int .i64 (6 * (n : Int) * n)) ∧ w' = v) := fun v g => by rw [← N6.out.1]; exact gCells_at g
  have nn : 0 ≤ (n : Int) * n ∧ (n : Int) * n ≤ 1024 := ⟨Int.mul_nonneg (by omega) (by omega), by have := Int.mul_le_mul hni hni (by omega) (by omega); omega⟩
  have nn1 : 0 ≤ 12 * (n : Int) * n ∧ 12 * (n : Int) * n ≤ 12288 := by rw [Int.mul_assoc]; omega
  have nn2 : 0 ≤ 6 * (n : Int) * n ∧ 6 * (n : Int) * n ≤ 6144 := by rw [Int.mul_assoc]; omega
  have xX0 := cell_of_row _ _ 0 _ _ _ RX5.out
  have xX1 := cell_of_row _ _ 1 _ _ _ RX5.out
  have xX2 := cell_of_row _ _ 2 _ _ _ RX5.out
  have xX3 := cell_of_row _ _ 3 _ _ _ RX5.out
  have lX := lt_of_block RX5.out
  go_wp2_with fail
  refine Calls.mono (ge.out _ G5.out) ?_
  rintro e vv ⟨rfl, hvv⟩
  have hvw := hvv.symm
  subst hvw
  clear xX0 xX1 xX2 xX3 lX
  go_wp2_with fail
  refine Calls.mono (gc.out _ G5.out) ?_
  rintro e vv ⟨rfl, hvv⟩
  have hvw := hvv.symm
  subst hvw
  have xX0 := cell_of_row _ _ 0 _ _ _ RX5.out
  have xX1 := cell_of_row _ _ 1 _ _ _ RX5.out
  have xX2 := cell_of_row _ _ 2 _ _ _ RX5.out
  have xX3 := cell_of_row _ _ 3 _ _ _ RX5.out
  have lX := lt_of_block RX5.out
  go_wp2_with fail
  refine Calls.mono (EDU'.out gb _ G5.out) ?_
  rintro e v6 ⟨rfl, b6⟩
  clear xX0 xX1 xX2 xX3 lX
  have ST : Hid (Ab v5 (v6.alloc (.cells #[.int .i64 yl, .int .i64 ys, .int .i64 d2, .int .i64 o2] 28))) := Ab.call (show Ab _ _ from b6) (bl1 v6 (.cells #[.int .i64 yl, .int .i64 ys, .int .i64 d2, .int .i64 o2] 28))
  have AW6 : Hid (Ab w (v6.alloc (.cells #[.int .i64 yl, .int .i64 ys, .int .i64 d2, .int .i64 o2] 28))) := (AW5.out).trans ST.out
  have RX6 : Hid ((v6.alloc (.cells #[.int .i64 yl, .int .i64 ys, .int .i64 d2, .int .i64 o2] 28)).heap[v3.heap.size]? = some (.cells #[.int .i64 q, .int .i64 s, .int .i64 d, .int .i64 o] 28)) := Ab.heap ST.out RX5.out
  have G6 : Hid (GridOf n gb (v6.alloc (.cells #[.int .i64 yl, .int .i64 ys, .int .i64 d2, .int .i64 o2] 28))) := G5.out.to ST.out
  have RY6 : Hid ((v6.alloc (.cells #[.int .i64 yl, .int .i64 ys, .int .i64 d2, .int .i64 o2] 28)).heap[v6.heap.size]? = some (.cells #[.int .i64 yl, .int .i64 ys, .int .i64 d2, .int .i64 o2] 28)) := heap_alloc_new _ _
  clear ST RX5 G5 AW5
  clear b6
  have xX0 := cell_of_row _ _ 0 _ _ _ RX6.out
  have xX1 := cell_of_row _ _ 1 _ _ _ RX6.out
  have xX2 := cell_of_row _ _ 2 _ _ _ RX6.out
  have xX3 := cell_of_row _ _ 3 _ _ _ RX6.out
  have lX := lt_of_block RX6.out
  have xY0 := cell_of_row _ _ 0 _ _ _ RY6.out
  have xY1 := cell_of_row _ _ 1 _ _ _ RY6.out
  have xY2 := cell_of_row _ _ 2 _ _ _ RY6.out
  have xY3 := cell_of_row _ _ 3 _ _ _ RY6.out
  have lY := lt_of_block RY6.out
  have ho : (yl : Int) < q ∨ ((yl : Int) = q ∧ (ys : Int) < s) := by omega
  go_upto_region 16 with fail
  go_cut [146] from 124 to 146 (fun s146 wx => s146 = .bool false ∧ wx = (v6.alloc (.cells #[.int .i64 yl, .int .i64 ys, .int .i64 d2, .int .i64 o2] 28)))
  case first =>
    rcases ho with h1 | ⟨h1, h2⟩
    · have g1 : ¬ q < yl := by omega
      have g2 : ¬ yl = q := by omega
      clear h1 hyq hq5
      go_wp2
      all_goals go_meet
      all_goals first | exact ⟨rfl, rfl⟩ | exact ⟨by simp [g1, g2], rfl⟩
    · have h3 : yl = q := by omega
      subst h3
      have g1 : ¬ s ≤ ys := by omega
      have g2 : ¬ yl < yl := by omega
      clear h1 h2 hyq hq5
      go_wp2
      all_goals go_meet
      all_goals first | exact ⟨rfl, rfl⟩ | exact ⟨by simp [g1], rfl⟩
  case rest =>
  obtain ⟨rfl, rfl⟩ := hcut
  clear ho hq5
  go_wp2
  go_loopw [15] (fun iv wr => ∃ cc : Nat, yl ≤ cc ∧ cc ≤ q + 1 ∧ iv = .int .i64 (cc : Nat) ∧ Ab w wr ∧ wr.heap[v3.heap.size]? = some (.cells #[.int .i64 q, .int .i64 s, .int .i64 d, .int .i64 o] 28) ∧ wr.heap[v6.heap.size]? = some (.cells #[.int .i64 yl, .int .i64 ys, .int .i64 d2, .int .i64 o2] 28)) (fun iv _ => q + 1 - (intOf iv).toNat)
  case atStart => exact ⟨yl, Nat.le_refl _, by have := HQ.out.1; omega, rfl, AW6.out, RX6.out, RY6.out⟩
  case round =>
    obtain ⟨cc, hc1, hc2, rfl, aw, rx, ry⟩ := hrel
    clear xX0 xX1 xX2 xX3 lX xY0 xY1 xY2 xY3 lY
    clear AW6 G6 RX6 RY6
    have AW0 := hid aw
    have RX0 := hid rx
    have RY0 := hid ry
    have HC1 := hid hc1
    clear aw rx ry
    by_cases hcc : cc ≤ q
    · have hcq : (cc : Int) ≤ 6144 := by omega
      have HCQ := hid hcc
      have xX0 := cell_of_row _ _ 0 _ _ _ RX0.out
      have xX1 := cell_of_row _ _ 1 _ _ _ RX0.out
      have xX2 := cell_of_row _ _ 2 _ _ _ RX0.out
      have xX3 := cell_of_row _ _ 3 _ _ _ RX0.out
      have xY0 := cell_of_row _ _ 0 _ _ _ RY0.out
      have xY1 := cell_of_row _ _ 1 _ _ _ RY0.out
      have xY2 := cell_of_row _ _ 2 _ _ _ RY0.out
      have xY3 := cell_of_row _ _ 3 _ _ _ RY0.out
      go_wp2
      go_loopw [16] (fun iv wr => ∃ ss : Nat, ss ≤ 4 ∧ iv = .int .i64 (ss : Nat) ∧ Ab w wr ∧ wr.heap[v3.heap.size]? = some (.cells #[.int .i64 q, .int .i64 s, .int .i64 d, .int .i64 o] 28) ∧ wr.heap[v6.heap.size]? = some (.cells #[.int .i64 yl, .int .i64 ys, .int .i64 d2, .int .i64 o2] 28)) (fun iv _ => 4 - (intOf iv).toNat)
      case atStart => exact ⟨0, by omega, rfl, AW0.out, RX0.out, RY0.out⟩
      case round =>
        obtain ⟨ss, hs1, rfl, aw, rx, ry⟩ := hrel
        clear xX0 xX1 xX2 xX3 xY0 xY1 xY2 xY3 AW0 RX0 RY0
        have AW0 := hid aw
        have RX0 := hid rx
        have RY0 := hid ry
        clear aw rx ry
        by_cases hs4 : ss < 4
        · have hs4' : (ss : Int) < 4 := by omega
          have HS4 := hid hs4
          have xX0 := cell_of_row _ _ 0 _ _ _ RX0.out
          have xX1 := cell_of_row _ _ 1 _ _ _ RX0.out
          have xX2 := cell_of_row _ _ 2 _ _ _ RX0.out
          have xX3 := cell_of_row _ _ 3 _ _ _ RX0.out
          have xY0 := cell_of_row _ _ 0 _ _ _ RY0.out
          have xY1 := cell_of_row _ _ 1 _ _ _ RY0.out
          have xY2 := cell_of_row _ _ 2 _ _ _ RY0.out
          have xY3 := cell_of_row _ _ 3 _ _ _ RY0.out
          go_upto_region 24 with fail
          go_cut [17] from 159 to 180 (fun s17 wx => s17 = .bool (btw cc ss yl ys q s) ∧ wx = wr)
          case first =>
            go_wp2
            all_goals go_meet
            all_goals (refine ⟨?_, rfl⟩)
            all_goals (refine congrArg Value.bool ?_; rw [Bool.eq_iff_iff]; simp only [btw, Bool.and_eq_true, Bool.or_eq_true, decide_eq_true_eq, Bool.false_eq_true, false_iff, true_iff]; (try omega))
          case rest =>
          obtain ⟨hB1, hwc⟩ := hcut
          have hwc2 := hwc.symm
          subst hwc2
          have hBe : Hid (btw cc ss yl ys q s = true → ¬ cc < bsC n cc ss) := fun hb => NB.out cc ss HS4.out hb HC1.out HCQ.out
          have BC := hid (BEc.out cc ss wr HCQ.out HS4.out AW0.out)
          generalize bsC n cc ss = dd at *
          generalize bsS n cc ss = oo at *
          generalize btw cc ss yl ys q s = B at *
          subst hB1
          clear xX0 xX1 xX2 xX3 xY0 xY1 xY2 xY3
          go_wp2_with fail
          refine BC.out.mono ?_
          rintro e w7 ⟨rfl, b7⟩
          have AW7 : Hid (Ab w w7) := AW0.out.call b7
          have RX7 := hid (Ab.heap b7 RX0.out)
          have RY7 := hid (Ab.heap b7 RY0.out)
          clear b7 BC AW0 RX0 RY0
          cases B with
          | true =>
            have hdd := hBe.out rfl
            clear hBe
            go_wp2
            go_roundw
            case rel => exact ⟨ss + 1, by have := HS4.out; omega, by simp, AW7.out, RX7.out, RY7.out⟩
            case measure => have := HS4.out; simp [intOf]; omega
          | false =>
            clear hBe
            go_wp2
            go_roundw
            case rel => exact ⟨ss + 1, by have := HS4.out; omega, by simp, AW7.out, RX7.out, RY7.out⟩
            case measure => have := HS4.out; simp [intOf]; omega
        · obtain rfl : ss = 4 := by omega
          go_wp2
          go_roundw
          case rel => exact ⟨cc + 1, by have := HC1.out; omega, by have := HCQ.out; omega, by simp, AW0.out, RX0.out, RY0.out⟩
          case measure => have := HCQ.out; simp [intOf]; omega
    · have hcq : ¬ cc ≤ q := hcc
      have hcq6 : (cc : Int) ≤ 6145 := by omega
      have xX0 := cell_of_row _ _ 0 _ _ _ RX0.out
      have xX1 := cell_of_row _ _ 1 _ _ _ RX0.out
      have xX2 := cell_of_row _ _ 2 _ _ _ RX0.out
      have xX3 := cell_of_row _ _ 3 _ _ _ RX0.out
      have xY0 := cell_of_row _ _ 0 _ _ _ RY0.out
      have xY1 := cell_of_row _ _ 1 _ _ _ RY0.out
      have xY2 := cell_of_row _ _ 2 _ _ _ RY0.out
      have xY3 := cell_of_row _ _ 3 _ _ _ RY0.out
      go_wp2
      go_ret
      exact ⟨rfl, AW0.out⟩
theorem gridEdges_walk (a b : Int) (w : World) (hF : Fr w) :
    Calls Tryd.prog 3 #[.int .i64 a, .int .i64 b] w fun e w' => e = .returned (.bool true) ∧ Below w.heap.size w w' := by
  by_cases h : wi9 b (12 * (1 + wi9 a 32) * (1 + wi9 a 32)) = 0
  · exact gridEdges_0 a b w hF h
  · exact gridEdges_1 a b w hF h
end Go.Proofs.YtnklgfmemelcpaaDoor

/-
  What the law's condition on the table of frames gives the walks; a struct of eight whole numbers.
-/
namespace Go.Proofs.YtnklgfmemelcpaaDoor
open Go.ChangeShapes Go.WideShapes Go.ChangeAt Go.WideMaps Go.WideElems Go.RowKit Cu

theorem own : ownKnob Tryd.prog.godebug = none := by kernel_rfl
theorem gFrames : Tryd.prog.globalNamed "tarn/cube.frames" = some 0 := by kernel_rfl
theorem tFrames : (Tryd.prog.globals[0]?).map (·.type) = some 66 := by kernel_rfl
theorem door_met (os : Os) (args : Array Value) : laidMetH Tryd.prog [("tarn/cube.frames", Rows.laid_tarn_cube_frames)] ((World.doorLaid Tryd.prog 400 os).forCall (fun _ _ => 0) ⟨#[], args, []⟩).memory :=
  laidMetH_of_parts3 (fuel := 8) (laidMet_of_run' 8 (by kernel_rfl) (by kernel_rfl)) (by kernel_rfl) (by kernel_rfl)
set_option maxRecDepth 100000 in
theorem pt_data {H : Type} {enc : TypeId × Value → H} {w : World} {base fuel : Nat} {spare : Nat → Bool} {held : Bool} {cs : List Value} {x : DataW H × List MemPlace} (h : DataW.trod enc Tryd.prog w base spare held fuel 58 cs = some x)
    (a b c : Int) (e : x.1 = .agg [.lit (.int .i64 a), .lit (.int .i64 b), .lit (.int .i64 c)]) : cs = [.int .i64 a, .int .i64 b, .int .i64 c] := by
  have k3 : Tryd.prog.cellsOf 3 = 1 := by kernel_rfl
  have kp : Tryd.prog.cellsOf 58 = 3 := by kernel_rfl
  obtain ⟨xs, m, _, hx, hlen, hn, hel⟩ := DataW.trod_array Tryd.underlying58 h
  rw [hx] at e
  match xs, hn, cs, hlen.trans kp with
  | [x0, x1, x2], _, [c0, c1, c2], _ =>
    have h0 := hel 0 (by decide)
    have h1 := hel 1 (by decide)
    have h2 := hel 2 (by decide)
    simp [k3] at h0 h1 h2
    obtain ⟨n0, e0, f0, _⟩ := DataW.trod_int Tryd.underlying3 h0
    obtain ⟨n1, e1, f1, _⟩ := DataW.trod_int Tryd.underlying3 h1
    obtain ⟨n2, e2, f2, _⟩ := DataW.trod_int Tryd.underlying3 h2
    simp at e0 e1 e2
    simp [f0, f1, f2] at e
    rw [e0, e1, e2, e.1, e.2.1, e.2.2]
set_option maxRecDepth 100000 in
theorem frame_data {H : Type} {enc : TypeId × Value → H} {w : World} {base fuel : Nat} {spare : Nat → Bool} {held : Bool} {cs : List Value} {x : DataW H × List MemPlace} (h : DataW.trod enc Tryd.prog w base spare held fuel 65 cs = some x)
    (p q r : P3) (e : x.1 = .agg [.agg [.lit (.int .i64 p.1), .lit (.int .i64 p.2.1), .lit (.int .i64 p.2.2)], .agg [.lit (.int .i64 q.1), .lit (.int .i64 q.2.1), .lit (.int .i64 q.2.2)], .agg [.lit (.int .i64 r.1), .lit (.int .i64 r.2.1), .lit (.int .i64 r.2.2)]]) :
    cs = [.int .i64 p.1, .int .i64 p.2.1, .int .i64 p.2.2, .int .i64 q.1, .int .i64 q.2.1, .int .i64 q.2.2, .int .i64 r.1, .int .i64 r.2.1, .int .i64 r.2.2] := by
  have kp : Tryd.prog.cellsOf 58 = 3 := by kernel_rfl
  have kf : Tryd.prog.cellsOf 65 = 9 := by kernel_rfl
  obtain ⟨xs, m, _, hx, hlen, hn, hel⟩ := DataW.trod_struct Tryd.underlying65 h
  rw [hx] at e
  match xs, hn, cs, hlen.trans kf with
  | [x0, x1, x2], _, [c0, c1, c2, c3, c4, c5, c6, c7, c8], _ =>
    have h0 := hel 0 _ rfl
    have h1 := hel 1 _ rfl
    have h2 := hel 2 _ rfl
    simp [kp] at h0 h1 h2
    simp at e
    have e0 := pt_data h0 _ _ _ e.1
    have e1 := pt_data h1 _ _ _ e.2.1
    have e2 := pt_data h2 _ _ _ e.2.2
    simp at e0 e1 e2
    simp [e0, e1, e2]
set_option maxRecDepth 100000 in
theorem table_data {H : Type} {enc : TypeId × Value → H} {w : World} {base fuel : Nat} {spare : Nat → Bool} {held : Bool} {cs : List Value} {x : DataW H × List MemPlace} (h : DataW.trod enc Tryd.prog w base spare held fuel 66 cs = some x)
    (e : x.1 = Rows.laid_tarn_cube_frames) : ∀ f, f < 6 → (cs.drop (f * 9)).take 9 = [.int .i64 (cC f).1, .int .i64 (cC f).2.1, .int .i64 (cC f).2.2, .int .i64 (cR f).1, .int .i64 (cR f).2.1, .int .i64 (cR f).2.2, .int .i64 (cU f).1, .int .i64 (cU f).2.1, .int .i64 (cU f).2.2] := by
  have kf : Tryd.prog.cellsOf 65 = 9 := by kernel_rfl
  obtain ⟨xs, m, _, hx, hlen, hn, hel⟩ := DataW.trod_array Tryd.underlying66 h
  rw [hx] at e
  intro f hf
  have h0 := hel f hf
  rw [kf] at h0
  match xs, hn with
  | [x0, x1, x2, x3, x4, x5], _ =>
    simp only [List.map_cons, List.map_nil, Rows.laid_tarn_cube_frames, DataW.agg.injEq, List.cons.injEq] at e
    rcases six hf with rfl | rfl | rfl | rfl | rfl | rfl
    · exact frame_data h0 (cC 0) (cR 0) (cU 0) e.1
    · exact frame_data h0 (cC 1) (cR 1) (cU 1) e.2.1
    · exact frame_data h0 (cC 2) (cR 2) (cU 2) e.2.2.1
    · exact frame_data h0 (cC 3) (cR 3) (cU 3) e.2.2.2.1
    · exact frame_data h0 (cC 4) (cR 4) (cU 4) e.2.2.2.2.1
    · exact frame_data h0 (cC 5) (cR 5) (cU 5) e.2.2.2.2.2.1
/-- WHAT THE CONDITION GIVES THE WALKS -/
theorem of_laid {W : World} (h : laidMetH Tryd.prog [("tarn/cube.frames", Rows.laid_tarn_cube_frames)] W) : Fr W := by
  rw [MakeChecks.laidMetH_plain _ _ _ (by kernel_rfl)] at h
  obtain ⟨ps, ⟨g0, t0, cs0, f0, p0, q0, hg0, ht0, hv0, hd0, _⟩, _⟩ := h
  obtain rfl := Option.some.inj (gFrames.symm.trans hg0)
  obtain rfl := Option.some.inj (tFrames.symm.trans ht0)
  have T := table_data hd0 rfl
  have C := World.var?_cell hg0 hv0
  have K : ∀ f, f < 6 → ∀ k, k < 9 → W.cell? ⟨0, f * 9 + k, none⟩ = ((cs0.toList.drop (f * 9)).take 9)[k]? := by
    intro f hf k hk
    rw [C, List.getElem?_take, if_pos hk, List.getElem?_drop]
    simp
  have N : ∀ f, f < 6 → Fr9 W f := by
    intro f hf
    have K := K f hf
    rw [T f hf] at K
    exact ⟨⟨K 0 (by omega), K 1 (by omega), K 2 (by omega)⟩, ⟨K 3 (by omega), K 4 (by omega), K 5 (by omega)⟩, ⟨K 6 (by omega), K 7 (by omega), K 8 (by omega)⟩⟩
  refine ⟨?_, N⟩
  have c0 := (N 0 (by omega)).1.1
  rcases Nat.lt_or_ge 0 W.heap.size with h1 | h1
  · exact h1
  · rw [World.cell?, Array.getElem?_eq_none h1] at c0; cases c0
end Go.Proofs.YtnklgfmemelcpaaDoor
