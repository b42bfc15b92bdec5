/-
  Some of the texts of this proof, one behind the other.
-/
import Derived.Test.YtnklgfmemelcpaaDoorZ12
import Derived.Test.YtnklgfmemelcpaaDoorZ01
import Derived.Test.YtnklgfmemelcpaaDoorTie
import Derived.Test.YtnklgfmemelcpaaDoorCards
import Derived.ProofKit
import Derived.LaidMore
import Derived.OpenShut
import Derived.Stop.Joined
import Derived.Carry
import Derived.Lib.SmallJoins
import Derived.WalkLawsBesides
/-
  Every side is an edge: walk over the program.
-/
namespace Go.Proofs.YtnklgfmemelcpaaDoor
open Go.RowKit Cu Tf
theorem eE_mt {n t : Nat} (hn : 1 ≤ n) (ht : t < 24 * n * n) : eE n (mt n t) = eE n t ∧ eS n (mt n t) = - eS n t := by
  unfold eE eS
  rw [isL_mt hn ht, mt_mt hn ht]
  cases isL n t <;> simp
theorem eE_inj {n t u : Nat} (hn : 1 ≤ n) (ht : t < 24 * n * n) (hu : u < 24 * n * n) (h : eE n u = eE n t) : u = t ∨ u = mt n t := by
  unfold eE at h
  cases hl : isL n t <;> cases hk : isL n u <;> rw [hl, hk] at h <;> simp at h
  · have := eN_inj (by rw [isL_mt hn hu, hk]; rfl) (by rw [isL_mt hn ht, hl]; rfl) h
    exact .inl (by rw [← mt_mt hn hu, this, mt_mt hn ht])
  · exact .inr (eN_inj hk (by rw [isL_mt hn ht, hl]; rfl) h)
  · have := eN_inj (by rw [isL_mt hn hu, hk]; rfl) hl h
    exact .inr (by rw [← this, mt_mt hn hu])
  · exact .inl (eN_inj hk hl h)
theorem eE_cell {n c s k : Nat} (hn : 1 ≤ n) (hc : c < 6 * n * n) (hs : s < 4) (hk : k < 4) (hne : k ≠ s) : eE n (4 * c + k) ≠ eE n (4 * c + s) := by
  intro h
  have hb := bs_self hn hc hs
  have hd := t_dec (c := c) hs
  rcases eE_inj hn (t_lt hc hs) (t_lt hc hk) h with e | e
  · omega
  · have m := (mt_dec hn (t_lt hc hs)).1
    rw [← e, hd.1, hd.2] at m
    omega
theorem eE_cell2 {n c s k : Nat} (hn : 1 ≤ n) (hc : c < 6 * n * n) (hs : s < 4) (hk : k < 4) (hne : k ≠ bsS n c s) : eE n (4 * bsC n c s + k) ≠ eE n (4 * c + s) := by
  obtain ⟨b1, b2⟩ := bs_lt hn hc hs
  have hd := t_dec (c := c) hs
  have e : mt n (4 * c + s) = 4 * bsC n c s + bsS n c s := by unfold mt; rw [hd.1, hd.2]
  rw [← (eE_mt hn (t_lt hc hs)).1, e]
  exact eE_cell hn b1 b2 hk hne
theorem gEdgeE {n gb c s : Nat} {w : World} (hn : 1 ≤ n ∧ n ≤ 32) (hc : c < 6 * n * n) (hs : s < 4) (g : GridOf n gb w) :
    (isL n (4 * c + s) = true → Calls Tryd.prog 13 #[.pointer (some ⟨gb, 0, none⟩), .int .i64 (eE n (4 * c + s) : Nat)] w fun e w' => e = .returned (.tuple #[.agg #[.int .i64 c, .int .i64 s, .int .i64 (bsC n c s : Nat), .int .i64 (bsS n c s : Nat)], .bool true]) ∧ Below w.heap.size w w') ∧
    (isL n (4 * c + s) = false → Calls Tryd.prog 13 #[.pointer (some ⟨gb, 0, none⟩), .int .i64 (eE n (4 * c + s) : Nat)] w fun e w' => e = .returned (.tuple #[.agg #[.int .i64 (bsC n c s : Nat), .int .i64 (bsS n c s : Nat), .int .i64 c, .int .i64 s], .bool true]) ∧ Below w.heap.size w w') := by
  have hd := t_dec (c := c) hs
  have ht := t_lt hc hs
  constructor
  · intro hl
    have h := gEdge_ok hn ht hl g
    rw [hd.1, hd.2] at h
    rw [show eE n (4 * c + s) = eN n (4 * c + s) by unfold eE; rw [hl]; rfl]
    exact h
  · intro hl
    have h := gEdge_ok hn (mt_lt hn.1 ht) (by rw [isL_mt hn.1 ht, hl]; rfl) g
    obtain ⟨m1, m2⟩ := mt_dec hn.1 ht
    obtain ⟨k1, k2⟩ := bs_back hn.1 hc hs
    rw [hd.1, hd.2] at m1 m2
    rw [m1, m2, k1, k2] at h
    rw [show eE n (4 * c + s) = eN n (mt n (4 * c + s)) by unfold eE; rw [hl]; rfl]
    exact h
set_option maxRecDepth 100000 in
set_option maxHeartbeats 16000000 in
theorem gridAround_l (a b c : Int) (w : World) (hF : Fr w) (hL : isL (1 + wi9 a 32) (4 * wi9 b (6 * (1 + wi9 a 32) * (1 + wi9 a 32)) + wi9 c 4) = true) :
    Calls Tryd.prog 4 #[.int .i64 a, .int .i64 b, .int .i64 c] w fun e w' => e = .returned (.bool true) ∧ Below w.heap.size w w' := by
  obtain ⟨n, hnx⟩ : ∃ n, 1 + wi9 a 32 = n := ⟨_, rfl⟩
  rw [hnx] at hL
  have hn : 1 ≤ n ∧ n ≤ 32 := by have := wi9_lt a (n := 32) (by omega); omega
  have AWK := hid (awake9_at w hF)
  have NE : Hid (∀ v, Ab w v → Calls Tryd.prog 9 #[.int .i64 a] v fun e w' => ∃ gb, e = .returned (.pointer (some ⟨gb, 0, none⟩)) ∧ Ab v w' ∧ GridOf n gb w') := fun v hv => by rw [← hnx]; exact net9_at a v (hF.to hv)
  have HF := hid hF
  have Hn := hid hn
  have h12 := n12 hn
  have WC := hid (fun u => within9_at b (6 * n * n) u (by omega))
  have WO := hid (fun u => within9_at c 4 u (by omega))
  have hk := wi9_lt b (n := 6 * n * n) (by omega)
  have hs := wi9_lt c (n := 4) (by omega)
  generalize wi9 b (6 * n * n) = k at *
  generalize wi9 c 4 = s at *
  obtain ⟨bc, bs⟩ := bs_lt hn.1 hk hs
  have hd := t_dec (c := k) hs
  have em : mt n (4 * k + s) = 4 * bsC n k s + bsS n k s := by unfold mt; rw [hd.1, hd.2]
  have AR1 := hid (fun (gb : Nat) (v : World) (g : GridOf n gb v) => gAround_n hn hk hs g)
  have AR2 := hid (fun (gb : Nat) (v : World) (g : GridOf n gb v) => gAround_n hn bc bs g)
  rw [← em, (eE_mt hn.1 (t_lt hk hs)).1, (eE_mt hn.1 (t_lt hk hs)).2] at AR2
  have AK1 := hid (fun (gb : Nat) (v : World) (j : Nat) (hj : j < 4) (g : GridOf n gb v) => gAround_n hn hk hj g)
  have AK2 := hid (fun (gb : Nat) (v : World) (j : Nat) (hj : j < 4) (g : GridOf n gb v) => gAround_n hn bc hj g)
  have NE1 := hid (fun j (hj : j < 4) => eE_cell hn.1 hk hs hj)
  have NE2 := hid (fun j (hj : j < 4) => eE_cell2 hn.1 hk hs hj)
  have EQ2 : Hid (eE n (4 * bsC n k s + bsS n k s) = eE n (4 * k + s)) := by show _ = _; rw [← em]; exact (eE_mt hn.1 (t_lt hk hs)).1
  have ED1 := hid (fun (gb : Nat) (v : World) (g : GridOf n gb v) => (gEdgeE hn hk hs g).1)
  have ED2 := hid (fun (gb : Nat) (v : World) (g : GridOf n gb v) => (gEdgeE hn hk hs g).2)
  have BE : Hid (∀ v, Ab w v → Calls Tryd.prog 14 #[.int .i64 n, .int .i64 k, .int .i64 s] v fun e w' => e = .returned (.tuple #[.int .i64 (bsC n k s), .int .i64 (bsS n k s)]) ∧ Below v.heap.size v w') := fun v hv => beside_at n k s v hn hk hs (hF.to hv)
  have hsi : (s : Int) < 4 := by omega
  generalize bsC n k s = d at *
  generalize bsS n k s = o at *
  have hoi : (o : Int) < 4 := by omega
  have hE : (eE n (4 * k + s) : Nat) = (eE n (4 * k + s) : Nat) := rfl
  clear em hd hE bc hk
  have HSO := hid (And.intro hs bs)
  clear hs bs
  have hle : Hid (isL n (4 * k + s) = true ∧ eS n (4 * k + s) = 1 ∨ isL n (4 * k + s) = false ∧ eS n (4 * k + s) = -1) := by
    show _ ∨ _
    unfold eS
    cases isL n (4 * k + s) <;> simp
  obtain ⟨E, hEE⟩ : ∃ E, eE n (4 * k + s) = E := ⟨_, rfl⟩
  rw [hEE] at AR1 AR2 NE1 NE2 EQ2 ED1 ED2
  have HEE := hid hEE
  clear hEE
  have hl : isL n (4 * k + s) = true := hL
  have hsg : eS n (4 * k + s) = 1 := by rcases hle.out with h | h <;> simp_all
  rw [hsg] at AR1 AR2
  have ED := hid (fun gb v g => ED1.out gb v g hl)
  clear hle hsg hl ED1 ED2
  clear hF hnx hn
  go_enter Tryd.func4, Tryd.ntmps4
  go_wp2_with fail
  refine AWK.out.mono ?_
  rintro e v1 ⟨rfl, b1⟩
  have AW1 : Hid (Ab w v1) := b1
  clear b1
  go_wp2_with fail
  refine (NE.out v1 AW1.out).mono ?_
  rintro e v2 ⟨gb, rfl, b2, g2⟩
  have AW2 : Hid (Ab w v2) := AW1.out.trans b2
  have G2 : Hid (GridOf n gb v2) := g2
  clear b2 g2 AW1 AWK NE
  go_wp2_with fail
  refine Calls.mono (gCells_at G2.out) ?_
  rintro e vv ⟨rfl, hvv⟩
  have hvw := hvv.symm
  subst hvw
  go_wp2_with fail
  refine Calls.mono (WC.out _) ?_
  rintro e vv ⟨rfl, hvv⟩
  have hvw := hvv.symm
  subst hvw
  go_wp2_with fail
  refine Calls.mono (WO.out _) ?_
  rintro e vv ⟨rfl, hvv⟩
  have hvw := hvv.symm
  subst hvw
  go_wp2_with fail
  refine Calls.mono (AR1.out gb _ G2.out) ?_
  rintro e v3 ⟨rfl, b3⟩
  have ST : Hid (Ab v2 v3) := b3
  have AW3 : Hid (Ab w v3) := (AW2.out).trans ST.out
  have G3 : Hid (GridOf n gb v3) := G2.out.to ST.out
  clear ST G2 AW2
  clear b3
  go_wp2_with fail
  refine Calls.mono (ED.out gb _ G3.out) ?_
  rintro e v4 ⟨rfl, b4⟩
  have ST : Hid (Ab v3 (v4.alloc (.cells #[.int .i64 k, .int .i64 s, .int .i64 d, .int .i64 o] 28))) := Ab.call (show Ab _ _ from b4) (bl1 v4 (.cells #[.int .i64 k, .int .i64 s, .int .i64 d, .int .i64 o] 28))
  have AW4 : Hid (Ab w (v4.alloc (.cells #[.int .i64 k, .int .i64 s, .int .i64 d, .int .i64 o] 28))) := (AW3.out).trans ST.out
  have G4 : Hid (GridOf n gb (v4.alloc (.cells #[.int .i64 k, .int .i64 s, .int .i64 d, .int .i64 o] 28))) := G3.out.to ST.out
  have RX4 : Hid ((v4.alloc (.cells #[.int .i64 k, .int .i64 s, .int .i64 d, .int .i64 o] 28)).heap[v4.heap.size]? = some (.cells #[.int .i64 k, .int .i64 s, .int .i64 d, .int .i64 o] 28)) := heap_alloc_new _ _
  clear ST G3 AW3
  clear b4
  go_wp2_with fail
  refine Calls.mono (gSide_at G4.out) ?_
  rintro e vv ⟨rfl, hvv⟩
  have hvw := hvv.symm
  subst hvw
  go_wp2_with fail
  refine Calls.mono (BE.out _ AW4.out) ?_
  rintro e v5 ⟨rfl, b5⟩
  have ST : Hid (Ab (v4.alloc (.cells #[.int .i64 k, .int .i64 s, .int .i64 d, .int .i64 o] 28)) v5) := b5
  have AW5 : Hid (Ab w v5) := (AW4.out).trans ST.out
  have RX5 : Hid (v5.heap[v4.heap.size]? = some (.cells #[.int .i64 k, .int .i64 s, .int .i64 d, .int .i64 o] 28)) := Ab.heap ST.out RX4.out
  have G5 : Hid (GridOf n gb v5) := G4.out.to ST.out
  clear ST RX4 G4 AW4
  clear b5
  go_wp2_with fail
  refine Calls.mono (AR2.out gb _ G5.out) ?_
  rintro e v6 ⟨rfl, b6⟩
  have ST : Hid (Ab v5 v6) := b6
  have AW6 : Hid (Ab w v6) := (AW5.out).trans ST.out
  have RX6 : Hid (v6.heap[v4.heap.size]? = some (.cells #[.int .i64 k, .int .i64 s, .int .i64 d, .int .i64 o] 28)) := Ab.heap ST.out RX5.out
  have G6 : Hid (GridOf n gb v6) := G5.out.to ST.out
  clear ST RX5 G5 AW5
  clear b6
  have xX0 := cell_of_row _ _ 0 _ _ _ RX6.out
  have xX1 := cell_of_row _ _ 1 _ _ _ RX6.out
  have xX2 := cell_of_row _ _ 2 _ _ _ RX6.out
  have xX3 := cell_of_row _ _ 3 _ _ _ RX6.out
  have lX := lt_of_block RX6.out
  go_wp2
  go_loopw [18] (fun iv wr => ∃ j : Nat, j ≤ 4 ∧ iv = .int .i64 (j : Nat) ∧ Ab w wr ∧ GridOf n gb wr) (fun iv _ => 4 - (intOf iv).toNat)
  case atStart => exact ⟨0, by omega, rfl, AW6.out, G6.out⟩
  case round =>
    obtain ⟨j, hj, rfl, aw, gg⟩ := hrel
    clear xX0 xX1 xX2 xX3 lX
    clear AW6 G6 RX6
    have AW0 := hid aw
    have G0 := hid gg
    clear aw gg
    by_cases hj4 : j < 4
    · have hj4' : (j : Int) < 4 := by omega
      have HJ := hid hj4
      by_cases js : j = s
      · by_cases jo : j = o
        · have K1 := hid (fun (v : World) (g : GridOf n gb v) => AK1.out gb v j HJ.out g)
          have K2 := hid (fun (v : World) (g : GridOf n gb v) => AK2.out gb v j HJ.out g)
          subst js
          rw [HEE.out] at K1
          subst jo
          rw [EQ2.out] at K2
          clear HEE EQ2 NE1 NE2 AK1 AK2 hj4 hj AR1 AR2 ED
          go_wp2_with fail
          refine Calls.mono (K1.out _ G0.out) ?_
          rintro e v1 ⟨rfl, b1⟩
          have ST : Hid (Ab wr v1) := b1
          have AW1 : Hid (Ab w v1) := (AW0.out).trans ST.out
          have G1 : Hid (GridOf n gb v1) := G0.out.to ST.out
          clear ST G0 AW0
          clear b1
          go_wp2_with fail
          refine Calls.mono (K2.out _ G1.out) ?_
          rintro e v2 ⟨rfl, b2⟩
          have ST : Hid (Ab v1 v2) := b2
          have AW2 : Hid (Ab w v2) := (AW1.out).trans ST.out
          have G2 : Hid (GridOf n gb v2) := G1.out.to ST.out
          clear ST G1 AW1
          clear b2
          go_wp2
          go_roundw
          case rel => exact ⟨j + 1, by have := HJ.out; omega, by simp, AW2.out, G2.out⟩
          case measure => have := HJ.out; simp [intOf]; omega
        · have K1 := hid (fun (v : World) (g : GridOf n gb v) => AK1.out gb v j HJ.out g)
          have K2 := hid (fun (v : World) (g : GridOf n gb v) => AK2.out gb v j HJ.out g)
          subst js
          rw [HEE.out] at K1
          have f2 : ¬ ((eE n (4 * d + j) : Nat) : Int) = E := by have := NE2.out j HJ.out jo; omega
          have f2' : ¬ (j : Int) = o := by omega
          generalize eE n (4 * d + j) = F2 at *
          clear HEE EQ2 NE1 NE2 AK1 AK2 hj4 hj AR1 AR2 ED
          go_wp2_with fail
          refine Calls.mono (K1.out _ G0.out) ?_
          rintro e v1 ⟨rfl, b1⟩
          have ST : Hid (Ab wr v1) := b1
          have AW1 : Hid (Ab w v1) := (AW0.out).trans ST.out
          have G1 : Hid (GridOf n gb v1) := G0.out.to ST.out
          clear ST G0 AW0
          clear b1
          go_wp2_with fail
          refine Calls.mono (K2.out _ G1.out) ?_
          rintro e v2 ⟨rfl, b2⟩
          have ST : Hid (Ab v1 v2) := b2
          have AW2 : Hid (Ab w v2) := (AW1.out).trans ST.out
          have G2 : Hid (GridOf n gb v2) := G1.out.to ST.out
          clear ST G1 AW1
          clear b2
          go_wp2
          go_roundw
          case rel => exact ⟨j + 1, by have := HJ.out; omega, by simp, AW2.out, G2.out⟩
          case measure => have := HJ.out; simp [intOf]; omega
      · by_cases jo : j = o
        · have K1 := hid (fun (v : World) (g : GridOf n gb v) => AK1.out gb v j HJ.out g)
          have K2 := hid (fun (v : World) (g : GridOf n gb v) => AK2.out gb v j HJ.out g)
          have f1 : ¬ ((eE n (4 * k + j) : Nat) : Int) = E := by have := NE1.out j HJ.out js; omega
          have f1' : ¬ (j : Int) = s := by omega
          generalize eE n (4 * k + j) = F1 at *
          subst jo
          rw [EQ2.out] at K2
          clear HEE EQ2 NE1 NE2 AK1 AK2 hj4 hj AR1 AR2 ED
          go_wp2_with fail
          refine Calls.mono (K1.out _ G0.out) ?_
          rintro e v1 ⟨rfl, b1⟩
          have ST : Hid (Ab wr v1) := b1
          have AW1 : Hid (Ab w v1) := (AW0.out).trans ST.out
          have G1 : Hid (GridOf n gb v1) := G0.out.to ST.out
          clear ST G0 AW0
          clear b1
          go_wp2_with fail
          refine Calls.mono (K2.out _ G1.out) ?_
          rintro e v2 ⟨rfl, b2⟩
          have ST : Hid (Ab v1 v2) := b2
          have AW2 : Hid (Ab w v2) := (AW1.out).trans ST.out
          have G2 : Hid (GridOf n gb v2) := G1.out.to ST.out
          clear ST G1 AW1
          clear b2
          go_wp2
          go_roundw
          case rel => exact ⟨j + 1, by have := HJ.out; omega, by simp, AW2.out, G2.out⟩
          case measure => have := HJ.out; simp [intOf]; omega
        · have K1 := hid (fun (v : World) (g : GridOf n gb v) => AK1.out gb v j HJ.out g)
          have K2 := hid (fun (v : World) (g : GridOf n gb v) => AK2.out gb v j HJ.out g)
          have f1 : ¬ ((eE n (4 * k + j) : Nat) : Int) = E := by have := NE1.out j HJ.out js; omega
          have f1' : ¬ (j : Int) = s := by omega
          generalize eE n (4 * k + j) = F1 at *
          have f2 : ¬ ((eE n (4 * d + j) : Nat) : Int) = E := by have := NE2.out j HJ.out jo; omega
          have f2' : ¬ (j : Int) = o := by omega
          generalize eE n (4 * d + j) = F2 at *
          clear HEE EQ2 NE1 NE2 AK1 AK2 hj4 hj AR1 AR2 ED
          go_wp2_with fail
          refine Calls.mono (K1.out _ G0.out) ?_
          rintro e v1 ⟨rfl, b1⟩
          have ST : Hid (Ab wr v1) := b1
          have AW1 : Hid (Ab w v1) := (AW0.out).trans ST.out
          have G1 : Hid (GridOf n gb v1) := G0.out.to ST.out
          clear ST G0 AW0
          clear b1
          go_wp2_with fail
          refine Calls.mono (K2.out _ G1.out) ?_
          rintro e v2 ⟨rfl, b2⟩
          have ST : Hid (Ab v1 v2) := b2
          have AW2 : Hid (Ab w v2) := (AW1.out).trans ST.out
          have G2 : Hid (GridOf n gb v2) := G1.out.to ST.out
          clear ST G1 AW1
          clear b2
          go_wp2
          go_roundw
          case rel => exact ⟨j + 1, by have := HJ.out; omega, by simp, AW2.out, G2.out⟩
          case measure => have := HJ.out; simp [intOf]; omega
    · obtain rfl : j = 4 := by omega
      go_wp2
      go_ret
      exact ⟨rfl, AW0.out⟩
set_option maxRecDepth 100000 in
set_option maxHeartbeats 16000000 in
theorem gridAround_r (a b c : Int) (w : World) (hF : Fr w) (hL : isL (1 + wi9 a 32) (4 * wi9 b (6 * (1 + wi9 a 32) * (1 + wi9 a 32)) + wi9 c 4) = false) :
    Calls Tryd.prog 4 #[.int .i64 a, .int .i64 b, .int .i64 c] w fun e w' => e = .returned (.bool true) ∧ Below w.heap.size w w' := by
  obtain ⟨n, hnx⟩ : ∃ n, 1 + wi9 a 32 = n := ⟨_, rfl⟩
  rw [hnx] at hL
  have hn : 1 ≤ n ∧ n ≤ 32 := by have := wi9_lt a (n := 32) (by omega); omega
  have AWK := hid (awake9_at w hF)
  have NE : Hid (∀ v, Ab w v → Calls Tryd.prog 9 #[.int .i64 a] v fun e w' => ∃ gb, e = .returned (.pointer (some ⟨gb, 0, none⟩)) ∧ Ab v w' ∧ GridOf n gb w') := fun v hv => by rw [← hnx]; exact net9_at a v (hF.to hv)
  have HF := hid hF
  have Hn := hid hn
  have h12 := n12 hn
  have WC := hid (fun u => within9_at b (6 * n * n) u (by omega))
  have WO := hid (fun u => within9_at c 4 u (by omega))
  have hk := wi9_lt b (n := 6 * n * n) (by omega)
  have hs := wi9_lt c (n := 4) (by omega)
  generalize wi9 b (6 * n * n) = k at *
  generalize wi9 c 4 = s at *
  obtain ⟨bc, bs⟩ := bs_lt hn.1 hk hs
  have hd := t_dec (c := k) hs
  have em : mt n (4 * k + s) = 4 * bsC n k s + bsS n k s := by unfold mt; rw [hd.1, hd.2]
  have AR1 := hid (fun (gb : Nat) (v : World) (g : GridOf n gb v) => gAround_n hn hk hs g)
  have AR2 := hid (fun (gb : Nat) (v : World) (g : GridOf n gb v) => gAround_n hn bc bs g)
  rw [← em, (eE_mt hn.1 (t_lt hk hs)).1, (eE_mt hn.1 (t_lt hk hs)).2] at AR2
  have AK1 := hid (fun (gb : Nat) (v : World) (j : Nat) (hj : j < 4) (g : GridOf n gb v) => gAround_n hn hk hj g)
  have AK2 := hid (fun (gb : Nat) (v : World) (j : Nat) (hj : j < 4) (g : GridOf n gb v) => gAround_n hn bc hj g)
  have NE1 := hid (fun j (hj : j < 4) => eE_cell hn.1 hk hs hj)
  have NE2 := hid (fun j (hj : j < 4) => eE_cell2 hn.1 hk hs hj)
  have EQ2 : Hid (eE n (4 * bsC n k s + bsS n k s) = eE n (4 * k + s)) := by show _ = _; rw [← em]; exact (eE_mt hn.1 (t_lt hk hs)).1
  have ED1 := hid (fun (gb : Nat) (v : World) (g : GridOf n gb v) => (gEdgeE hn hk hs g).1)
  have ED2 := hid (fun (gb : Nat) (v : World) (g : GridOf n gb v) => (gEdgeE hn hk hs g).2)
  have BE : Hid (∀ v, Ab w v → Calls Tryd.prog 14 #[.int .i64 n, .int .i64 k, .int .i64 s] v fun e w' => e = .returned (.tuple #[.int .i64 (bsC n k s), .int .i64 (bsS n k s)]) ∧ Below v.heap.size v w') := fun v hv => beside_at n k s v hn hk hs (hF.to hv)
  have hsi : (s : Int) < 4 := by omega
  generalize bsC n k s = d at *
  generalize bsS n k s = o at *
  have hoi : (o : Int) < 4 := by omega
  have hE : (eE n (4 * k + s) : Nat) = (eE n (4 * k + s) : Nat) := rfl
  clear em hd hE bc hk
  have HSO := hid (And.intro hs bs)
  clear hs bs
  have hle : Hid (isL n (4 * k + s) = true ∧ eS n (4 * k + s) = 1 ∨ isL n (4 * k + s) = false ∧ eS n (4 * k + s) = -1) := by
    show _ ∨ _
    unfold eS
    cases isL n (4 * k + s) <;> simp
  obtain ⟨E, hEE⟩ : ∃ E, eE n (4 * k + s) = E := ⟨_, rfl⟩
  rw [hEE] at AR1 AR2 NE1 NE2 EQ2 ED1 ED2
  have HEE := hid hEE
  clear hEE
  have hl : isL n (4 * k + s) = false := hL
  have hsg : eS n (4 * k + s) = -1 := by rcases hle.out with h | h <;> simp_all
  rw [hsg] at AR1 AR2
  have ED := hid (fun gb v g => ED2.out gb v g hl)
  clear hle hsg hl ED1 ED2
  clear hF hnx hn
  go_enter Tryd.func4, Tryd.ntmps4
  go_wp2_with fail
  refine AWK.out.mono ?_
  rintro e v1 ⟨rfl, b1⟩
  have AW1 : Hid (Ab w v1) := b1
  clear b1
  go_wp2_with fail
  refine (NE.out v1 AW1.out).mono ?_
  rintro e v2 ⟨gb, rfl, b2, g2⟩
  have AW2 : Hid (Ab w v2) := AW1.out.trans b2
  have G2 : Hid (GridOf n gb v2) := g2
  clear b2 g2 AW1 AWK NE
  go_wp2_with fail
  refine Calls.mono (gCells_at G2.out) ?_
  rintro e vv ⟨rfl, hvv⟩
  have hvw := hvv.symm
  subst hvw
  go_wp2_with fail
  refine Calls.mono (WC.out _) ?_
  rintro e vv ⟨rfl, hvv⟩
  have hvw := hvv.symm
  subst hvw
  go_wp2_with fail
  refine Calls.mono (WO.out _) ?_
  rintro e vv ⟨rfl, hvv⟩
  have hvw := hvv.symm
  subst hvw
  go_wp2_with fail
  refine Calls.mono (AR1.out gb _ G2.out) ?_
  rintro e v3 ⟨rfl, b3⟩
  have ST : Hid (Ab v2 v3) := b3
  have AW3 : Hid (Ab w v3) := (AW2.out).trans ST.out
  have G3 : Hid (GridOf n gb v3) := G2.out.to ST.out
  clear ST G2 AW2
  clear b3
  go_wp2_with fail
  refine Calls.mono (ED.out gb _ G3.out) ?_
  rintro e v4 ⟨rfl, b4⟩
  have ST : Hid (Ab v3 (v4.alloc (.cells #[.int .i64 d, .int .i64 o, .int .i64 k, .int .i64 s] 28))) := Ab.call (show Ab _ _ from b4) (bl1 v4 (.cells #[.int .i64 d, .int .i64 o, .int .i64 k, .int .i64 s] 28))
  have AW4 : Hid (Ab w (v4.alloc (.cells #[.int .i64 d, .int .i64 o, .int .i64 k, .int .i64 s] 28))) := (AW3.out).trans ST.out
  have G4 : Hid (GridOf n gb (v4.alloc (.cells #[.int .i64 d, .int .i64 o, .int .i64 k, .int .i64 s] 28))) := G3.out.to ST.out
  have RX4 : Hid ((v4.alloc (.cells #[.int .i64 d, .int .i64 o, .int .i64 k, .int .i64 s] 28)).heap[v4.heap.size]? = some (.cells #[.int .i64 d, .int .i64 o, .int .i64 k, .int .i64 s] 28)) := heap_alloc_new _ _
  clear ST G3 AW3
  clear b4
  go_wp2_with fail
  refine Calls.mono (gSide_at G4.out) ?_
  rintro e vv ⟨rfl, hvv⟩
  have hvw := hvv.symm
  subst hvw
  go_wp2_with fail
  refine Calls.mono (BE.out _ AW4.out) ?_
  rintro e v5 ⟨rfl, b5⟩
  have ST : Hid (Ab (v4.alloc (.cells #[.int .i64 d, .int .i64 o, .int .i64 k, .int .i64 s] 28)) v5) := b5
  have AW5 : Hid (Ab w v5) := (AW4.out).trans ST.out
  have RX5 : Hid (v5.heap[v4.heap.size]? = some (.cells #[.int .i64 d, .int .i64 o, .int .i64 k, .int .i64 s] 28)) := Ab.heap ST.out RX4.out
  have G5 : Hid (GridOf n gb v5) := G4.out.to ST.out
  clear ST RX4 G4 AW4
  clear b5
  go_wp2_with fail
  refine Calls.mono (AR2.out gb _ G5.out) ?_
  rintro e v6 ⟨rfl, b6⟩
  have ST : Hid (Ab v5 v6) := b6
  have AW6 : Hid (Ab w v6) := (AW5.out).trans ST.out
  have RX6 : Hid (v6.heap[v4.heap.size]? = some (.cells #[.int .i64 d, .int .i64 o, .int .i64 k, .int .i64 s] 28)) := Ab.heap ST.out RX5.out
  have G6 : Hid (GridOf n gb v6) := G5.out.to ST.out
  clear ST RX5 G5 AW5
  clear b6
  have xX0 := cell_of_row _ _ 0 _ _ _ RX6.out
  have xX1 := cell_of_row _ _ 1 _ _ _ RX6.out
  have xX2 := cell_of_row _ _ 2 _ _ _ RX6.out
  have xX3 := cell_of_row _ _ 3 _ _ _ RX6.out
  have lX := lt_of_block RX6.out
  go_wp2
  go_loopw [18] (fun iv wr => ∃ j : Nat, j ≤ 4 ∧ iv = .int .i64 (j : Nat) ∧ Ab w wr ∧ GridOf n gb wr) (fun iv _ => 4 - (intOf iv).toNat)
  case atStart => exact ⟨0, by omega, rfl, AW6.out, G6.out⟩
  case round =>
    obtain ⟨j, hj, rfl, aw, gg⟩ := hrel
    clear xX0 xX1 xX2 xX3 lX
    clear AW6 G6 RX6
    have AW0 := hid aw
    have G0 := hid gg
    clear aw gg
    by_cases hj4 : j < 4
    · have hj4' : (j : Int) < 4 := by omega
      have HJ := hid hj4
      by_cases js : j = s
      · by_cases jo : j = o
        · have K1 := hid (fun (v : World) (g : GridOf n gb v) => AK1.out gb v j HJ.out g)
          have K2 := hid (fun (v : World) (g : GridOf n gb v) => AK2.out gb v j HJ.out g)
          subst js
          rw [HEE.out] at K1
          subst jo
          rw [EQ2.out] at K2
          clear HEE EQ2 NE1 NE2 AK1 AK2 hj4 hj AR1 AR2 ED
          go_wp2_with fail
          refine Calls.mono (K1.out _ G0.out) ?_
          rintro e v1 ⟨rfl, b1⟩
          have ST : Hid (Ab wr v1) := b1
          have AW1 : Hid (Ab w v1) := (AW0.out).trans ST.out
          have G1 : Hid (GridOf n gb v1) := G0.out.to ST.out
          clear ST G0 AW0
          clear b1
          go_wp2_with fail
          refine Calls.mono (K2.out _ G1.out) ?_
          rintro e v2 ⟨rfl, b2⟩
          have ST : Hid (Ab v1 v2) := b2
          have AW2 : Hid (Ab w v2) := (AW1.out).trans ST.out
          have G2 : Hid (GridOf n gb v2) := G1.out.to ST.out
          clear ST G1 AW1
          clear b2
          go_wp2
          go_roundw
          case rel => exact ⟨j + 1, by have := HJ.out; omega, by simp, AW2.out, G2.out⟩
          case measure => have := HJ.out; simp [intOf]; omega
        · have K1 := hid (fun (v : World) (g : GridOf n gb v) => AK1.out gb v j HJ.out g)
          have K2 := hid (fun (v : World) (g : GridOf n gb v) => AK2.out gb v j HJ.out g)
          subst js
          rw [HEE.out] at K1
          have f2 : ¬ ((eE n (4 * d + j) : Nat) : Int) = E := by have := NE2.out j HJ.out jo; omega
          have f2' : ¬ (j : Int) = o := by omega
          generalize eE n (4 * d + j) = F2 at *
          clear HEE EQ2 NE1 NE2 AK1 AK2 hj4 hj AR1 AR2 ED
          go_wp2_with fail
          refine Calls.mono (K1.out _ G0.out) ?_
          rintro e v1 ⟨rfl, b1⟩
          have ST : Hid (Ab wr v1) := b1
          have AW1 : Hid (Ab w v1) := (AW0.out).trans ST.out
          have G1 : Hid (GridOf n gb v1) := G0.out.to ST.out
          clear ST G0 AW0
          clear b1
          go_wp2_with fail
          refine Calls.mono (K2.out _ G1.out) ?_
          rintro e v2 ⟨rfl, b2⟩
          have ST : Hid (Ab v1 v2) := b2
          have AW2 : Hid (Ab w v2) := (AW1.out).trans ST.out
          have G2 : Hid (GridOf n gb v2) := G1.out.to ST.out
          clear ST G1 AW1
          clear b2
          go_wp2
          go_roundw
          case rel => exact ⟨j + 1, by have := HJ.out; omega, by simp, AW2.out, G2.out⟩
          case measure => have := HJ.out; simp [intOf]; omega
      · by_cases jo : j = o
        · have K1 := hid (fun (v : World) (g : GridOf n gb v) => AK1.out gb v j HJ.out g)
          have K2 := hid (fun (v : World) (g : GridOf n gb v) => AK2.out gb v j HJ.out g)
          have f1 : ¬ ((eE n (4 * k + j) : Nat) : Int) = E := by have := NE1.out j HJ.out js; omega
          have f1' : ¬ (j : Int) = s := by omega
          generalize eE n (4 * k + j) = F1 at *
          subst jo
          rw [EQ2.out] at K2
          clear HEE EQ2 NE1 NE2 AK1 AK2 hj4 hj AR1 AR2 ED
          go_wp2_with fail
          refine Calls.mono (K1.out _ G0.out) ?_
          rintro e v1 ⟨rfl, b1⟩
          have ST : Hid (Ab wr v1) := b1
          have AW1 : Hid (Ab w v1) := (AW0.out).trans ST.out
          have G1 : Hid (GridOf n gb v1) := G0.out.to ST.out
          clear ST G0 AW0
          clear b1
          go_wp2_with fail
          refine Calls.mono (K2.out _ G1.out) ?_
          rintro e v2 ⟨rfl, b2⟩
          have ST : Hid (Ab v1 v2) := b2
          have AW2 : Hid (Ab w v2) := (AW1.out).trans ST.out
          have G2 : Hid (GridOf n gb v2) := G1.out.to ST.out
          clear ST G1 AW1
          clear b2
          go_wp2
          go_roundw
          case rel => exact ⟨j + 1, by have := HJ.out; omega, by simp, AW2.out, G2.out⟩
          case measure => have := HJ.out; simp [intOf]; omega
        · have K1 := hid (fun (v : World) (g : GridOf n gb v) => AK1.out gb v j HJ.out g)
          have K2 := hid (fun (v : World) (g : GridOf n gb v) => AK2.out gb v j HJ.out g)
          have f1 : ¬ ((eE n (4 * k + j) : Nat) : Int) = E := by have := NE1.out j HJ.out js; omega
          have f1' : ¬ (j : Int) = s := by omega
          generalize eE n (4 * k + j) = F1 at *
          have f2 : ¬ ((eE n (4 * d + j) : Nat) : Int) = E := by have := NE2.out j HJ.out jo; omega
          have f2' : ¬ (j : Int) = o := by omega
          generalize eE n (4 * d + j) = F2 at *
          clear HEE EQ2 NE1 NE2 AK1 AK2 hj4 hj AR1 AR2 ED
          go_wp2_with fail
          refine Calls.mono (K1.out _ G0.out) ?_
          rintro e v1 ⟨rfl, b1⟩
          have ST : Hid (Ab wr v1) := b1
          have AW1 : Hid (Ab w v1) := (AW0.out).trans ST.out
          have G1 : Hid (GridOf n gb v1) := G0.out.to ST.out
          clear ST G0 AW0
          clear b1
          go_wp2_with fail
          refine Calls.mono (K2.out _ G1.out) ?_
          rintro e v2 ⟨rfl, b2⟩
          have ST : Hid (Ab v1 v2) := b2
          have AW2 : Hid (Ab w v2) := (AW1.out).trans ST.out
          have G2 : Hid (GridOf n gb v2) := G1.out.to ST.out
          clear ST G1 AW1
          clear b2
          go_wp2
          go_roundw
          case rel => exact ⟨j + 1, by have := HJ.out; omega, by simp, AW2.out, G2.out⟩
          case measure => have := HJ.out; simp [intOf]; omega
    · obtain rfl : j = 4 := by omega
      go_wp2
      go_ret
      exact ⟨rfl, AW0.out⟩
theorem gridAround_walk (a b c : Int) (w : World) (hF : Fr w) :
    Calls Tryd.prog 4 #[.int .i64 a, .int .i64 b, .int .i64 c] w fun e w' => e = .returned (.bool true) ∧ Below w.heap.size w w' := by
  cases h : isL (1 + wi9 a 32) (4 * wi9 b (6 * (1 + wi9 a 32) * (1 + wi9 a 32)) + wi9 c 4) with
  | true => exact gridAround_l a b c w hF h
  | false => exact gridAround_r a b c w hF h
end Go.Proofs.YtnklgfmemelcpaaDoor

/-
  Four cells in a row: walk over the program.
-/
namespace Go.Proofs.YtnklgfmemelcpaaDoor
open Go.RowKit Cu Tf
/-- the edge of a side: its number, the sign, its cells -/
theorem aroundE {n c s : Nat} (hn : 1 ≤ n ∧ n ≤ 32) (hc : c < 6 * n * n) (hs : s < 4) : ∃ (F : Nat) (sg : Int) (y0 y1 y2 y3 : Nat),
    (∀ (gb : Nat) (v : World), GridOf n gb v → Calls Tryd.prog 16 #[.pointer (some ⟨gb, 0, none⟩), .int .i64 c, .int .i64 s] v fun e w' => e = .returned (.tuple #[.int .i64 F, .int .i64 sg]) ∧ Below v.heap.size v w') ∧
    (∀ (gb : Nat) (v : World), GridOf n gb v → Calls Tryd.prog 13 #[.pointer (some ⟨gb, 0, none⟩), .int .i64 F] v fun e w' => e = .returned (.tuple #[.agg #[.int .i64 y0, .int .i64 y1, .int .i64 y2, .int .i64 y3], .bool true]) ∧ Below v.heap.size v w') ∧
    (sg = 1 ∧ y2 = bsC n c s ∨ sg = -1 ∧ y0 = bsC n c s) := by
  have AR := fun (gb : Nat) (v : World) (g : GridOf n gb v) => gAround_n hn hc hs g
  cases hl : isL n (4 * c + s) with
  | true =>
    have e : eS n (4 * c + s) = 1 := by unfold eS; rw [hl]; rfl
    rw [e] at AR
    exact ⟨_, 1, c, s, _, _, AR, fun gb v g => (gEdgeE hn hc hs g).1 hl, .inl ⟨rfl, rfl⟩⟩
  | false =>
    have e : eS n (4 * c + s) = -1 := by unfold eS; rw [hl]; rfl
    rw [e] at AR
    exact ⟨_, -1, _, _, c, s, AR, fun gb v g => (gEdgeE hn hc hs g).2 hl, .inr ⟨rfl, rfl⟩⟩
set_option maxRecDepth 100000 in
set_option maxHeartbeats 16000000 in
theorem gridBehind_walk (a b : Int) (w : World) (hF : Fr w) :
    Calls Tryd.prog 5 #[.int .i64 a, .int .i64 b] w fun e w' => e = .returned (.bool true) ∧ Below w.heap.size w w' := by
  obtain ⟨n, hnx⟩ : ∃ n, 1 + wi9 a 32 = n := ⟨_, rfl⟩
  have hn : 1 ≤ n ∧ n ≤ 32 := by have := wi9_lt a (n := 32) (by omega); omega
  have AWK := hid (awake9_at w hF)
  have NE : Hid (∀ v, Ab w v → Calls Tryd.prog 9 #[.int .i64 a] v fun e w' => ∃ gb, e = .returned (.pointer (some ⟨gb, 0, none⟩)) ∧ Ab v w' ∧ GridOf n gb w') := fun v hv => by rw [← hnx]; exact net9_at a v (hF.to hv)
  have HF := hid hF
  have Hn := hid hn
  have h12 := n12 hn
  have WE := hid (fun u => within9_at b (12 * n * n) u (by omega))
  have hr := wi9_lt b (n := 12 * n * n) (by omega)
  obtain ⟨e1, e2, e3⟩ := edT_spec hn.1 hr
  have EDG := hid (fun (gb : Nat) (v : World) (g : GridOf n gb v) => gEdge_ok hn e1 e2 g)
  have BHD := hid (fun (gb : Nat) (v : World) (g : GridOf n gb v) => gBehind_ok hn e1 e2 g)
  rw [e3] at EDG BHD
  have hc := t_cell e1
  have hs : edT n (wi9 b (12 * n * n)) % 4 < 4 := by omega
  generalize wi9 b (12 * n * n) = r at *
  clear e1 e2 e3 hr
  generalize edT n r / 4 = q at *
  generalize edT n r % 4 = s at *
  obtain ⟨bc, bs⟩ := bs_lt hn.1 hc hs
  have k1 := (bs_back hn.1 hc hs).1
  have hs' : (s + 2) % 4 < 4 := by omega
  have ho' : (bsS n q s + 2) % 4 < 4 := by omega
  have n1 := bs_self hn.1 hc hs'
  have n2 := bs_self hn.1 bc ho'
  have n3 := bs_unlike hn.1 hc hs' hs (by omega)
  have n4 := bs_unlike hn.1 bc ho' bs (by omega)
  rw [k1] at n4
  obtain ⟨F1, sg1, y0, y1, y2, y3, AR1, ED1, EY1⟩ := aroundE hn hc hs'
  obtain ⟨F2, sg2, z0, z1, z2, z3, AR2, ED2, EY2⟩ := aroundE hn bc ho'
  have e4 : ((s : Int) + 2).tmod 4 = (((s + 2) % 4 : Nat) : Int) := by rw [Int.tmod_eq_emod_of_nonneg (by omega)]; omega
  have e5 : (((bsS n q s : Nat) : Int) + 2).tmod 4 = (((bsS n q s + 2) % 4 : Nat) : Int) := by rw [Int.tmod_eq_emod_of_nonneg (by omega)]; omega
  have hsi : (s : Int) < 4 := by omega
  have hoi : ((bsS n q s : Nat) : Int) < 4 := by omega
  generalize bsC n (bsC n q s) ((bsS n q s + 2) % 4) = a2 at *
  generalize bsC n q ((s + 2) % 4) = a1 at *
  generalize (bsS n q s + 2) % 4 = o' at *
  generalize (s + 2) % 4 = s' at *
  generalize bsC n q s = d at *
  generalize bsS n q s = o at *
  have m1 : ¬ (a1 : Int) = q := by omega
  have m2 : ¬ (a2 : Int) = d := by omega
  have m3 : ¬ (a1 : Int) = d := by omega
  have m4 : ¬ (a2 : Int) = q := by omega
  have MM := hid (And.intro m1 (And.intro m2 (And.intro m3 m4)))
  have HAR1 := hid AR1
  have HAR2 := hid AR2
  have HED1 := hid ED1
  have HED2 := hid ED2
  clear n1 n2 n3 n4 m1 m2 m3 m4 k1 bc bs hs' ho' hc hs AR1 AR2 ED1 ED2
  clear hF hnx hn
  rcases EY1 with ⟨rfl, E1⟩ | ⟨rfl, E1⟩ <;> rcases EY2 with ⟨rfl, E2⟩ | ⟨rfl, E2⟩ <;> have EQ1 := hid E1 <;> have EQ2 := hid E2 <;> clear E1 E2
  all_goals
    go_enter Tryd.func5, Tryd.ntmps5
    go_wp2_with fail
    refine AWK.out.mono ?_
    rintro e v1 ⟨rfl, b1⟩
    have AW1 : Hid (Ab w v1) := b1
    clear b1
    go_wp2_with fail
    refine (NE.out v1 AW1.out).mono ?_
    rintro e v2 ⟨gb, rfl, b2, g2⟩
    have AW2 : Hid (Ab w v2) := AW1.out.trans b2
    have G2 : Hid (GridOf n gb v2) := g2
    clear b2 g2 AW1 AWK NE
    go_wp2_with fail
    refine Calls.mono (gEdges_at G2.out) ?_
    rintro e vv ⟨rfl, hvv⟩
    have hvw := hvv.symm
    subst hvw
    go_wp2_with fail
    refine Calls.mono (WE.out _) ?_
    rintro e vv ⟨rfl, hvv⟩
    have hvw := hvv.symm
    subst hvw
    go_wp2_with fail
    refine Calls.mono (EDG.out gb _ G2.out) ?_
    rintro e v3 ⟨rfl, b3⟩
    have ST : Hid (Ab v2 (v3.alloc (.cells #[.int .i64 q, .int .i64 s, .int .i64 d, .int .i64 o] 28))) := Ab.call (show Ab _ _ from b3) (bl1 v3 (.cells #[.int .i64 q, .int .i64 s, .int .i64 d, .int .i64 o] 28))
    have AW3 : Hid (Ab w (v3.alloc (.cells #[.int .i64 q, .int .i64 s, .int .i64 d, .int .i64 o] 28))) := (AW2.out).trans ST.out
    have G3 : Hid (GridOf n gb (v3.alloc (.cells #[.int .i64 q, .int .i64 s, .int .i64 d, .int .i64 o] 28))) := G2.out.to ST.out
    have RX3 : Hid ((v3.alloc (.cells #[.int .i64 q, .int .i64 s, .int .i64 d, .int .i64 o] 28)).heap[v3.heap.size]? = some (.cells #[.int .i64 q, .int .i64 s, .int .i64 d, .int .i64 o] 28)) := heap_alloc_new _ _
    clear ST G2 AW2
    clear b3
    go_wp2_with fail
    refine Calls.mono (BHD.out gb _ G3.out) ?_
    rintro e v4 ⟨rfl, b4⟩
    have ST : Hid (Ab (v3.alloc (.cells #[.int .i64 q, .int .i64 s, .int .i64 d, .int .i64 o] 28)) v4) := b4
    have AW4 : Hid (Ab w v4) := (AW3.out).trans ST.out
    have RX4 : Hid (v4.heap[v3.heap.size]? = some (.cells #[.int .i64 q, .int .i64 s, .int .i64 d, .int .i64 o] 28)) := Ab.heap ST.out RX3.out
    have G4 : Hid (GridOf n gb v4) := G3.out.to ST.out
    clear ST RX3 G3 AW3
    clear b4
    have xX0 := cell_of_row _ _ 0 _ _ _ RX4.out
    have xX1 := cell_of_row _ _ 1 _ _ _ RX4.out
    have xX2 := cell_of_row _ _ 2 _ _ _ RX4.out
    have xX3 := cell_of_row _ _ 3 _ _ _ RX4.out
    have lX := lt_of_block RX4.out
    go_wp2_with fail
    refine Calls.mono (HAR1.out gb _ G4.out) ?_
    rintro e v5 ⟨rfl, b5⟩
    clear xX0 xX1 xX2 xX3 lX
    have ST : Hid (Ab v4 v5) := b5
    have AW5 : Hid (Ab w v5) := (AW4.out).trans ST.out
    have RX5 : Hid (v5.heap[v3.heap.size]? = some (.cells #[.int .i64 q, .int .i64 s, .int .i64 d, .int .i64 o] 28)) := Ab.heap ST.out RX4.out
    have G5 : Hid (GridOf n gb v5) := G4.out.to ST.out
    clear ST RX4 G4 AW4
    clear b5
    go_wp2_with fail
    refine Calls.mono (HED1.out gb _ G5.out) ?_
    rintro e v6 ⟨rfl, b6⟩
    have ST : Hid (Ab v5 (v6.alloc (.cells #[.int .i64 y0, .int .i64 y1, .int .i64 y2, .int .i64 y3] 28))) := Ab.call (show Ab _ _ from b6) (bl1 v6 (.cells #[.int .i64 y0, .int .i64 y1, .int .i64 y2, .int .i64 y3] 28))
    have AW6 : Hid (Ab w (v6.alloc (.cells #[.int .i64 y0, .int .i64 y1, .int .i64 y2, .int .i64 y3] 28))) := (AW5.out).trans ST.out
    have RX6 : Hid ((v6.alloc (.cells #[.int .i64 y0, .int .i64 y1, .int .i64 y2, .int .i64 y3] 28)).heap[v3.heap.size]? = some (.cells #[.int .i64 q, .int .i64 s, .int .i64 d, .int .i64 o] 28)) := Ab.heap ST.out RX5.out
    have G6 : Hid (GridOf n gb (v6.alloc (.cells #[.int .i64 y0, .int .i64 y1, .int .i64 y2, .int .i64 y3] 28))) := G5.out.to ST.out
    have RY6 : Hid ((v6.alloc (.cells #[.int .i64 y0, .int .i64 y1, .int .i64 y2, .int .i64 y3] 28)).heap[v6.heap.size]? = some (.cells #[.int .i64 y0, .int .i64 y1, .int .i64 y2, .int .i64 y3] 28)) := heap_alloc_new _ _
    clear ST RX5 G5 AW5
    clear b6
    have xX0 := cell_of_row _ _ 0 _ _ _ RX6.out
    have xX1 := cell_of_row _ _ 1 _ _ _ RX6.out
    have xX2 := cell_of_row _ _ 2 _ _ _ RX6.out
    have xX3 := cell_of_row _ _ 3 _ _ _ RX6.out
    have lX := lt_of_block RX6.out
    have xY0 := cell_of_row _ _ 0 _ _ _ RY6.out
    have xY1 := cell_of_row _ _ 1 _ _ _ RY6.out
    have xY2 := cell_of_row _ _ 2 _ _ _ RY6.out
    have xY3 := cell_of_row _ _ 3 _ _ _ RY6.out
    have lY := lt_of_block RY6.out
    go_wp2_with fail
    refine Calls.mono (HAR2.out gb _ G6.out) ?_
    rintro e v7 ⟨rfl, b7⟩
    clear xX0 xX1 xX2 xX3 lX xY0 xY1 xY2 xY3 lY
    have ST : Hid (Ab (v6.alloc (.cells #[.int .i64 y0, .int .i64 y1, .int .i64 y2, .int .i64 y3] 28)) v7) := b7
    have AW7 : Hid (Ab w v7) := (AW6.out).trans ST.out
    have RX7 : Hid (v7.heap[v3.heap.size]? = some (.cells #[.int .i64 q, .int .i64 s, .int .i64 d, .int .i64 o] 28)) := Ab.heap ST.out RX6.out
    have RY7 : Hid (v7.heap[v6.heap.size]? = some (.cells #[.int .i64 y0, .int .i64 y1, .int .i64 y2, .int .i64 y3] 28)) := Ab.heap ST.out RY6.out
    have G7 : Hid (GridOf n gb v7) := G6.out.to ST.out
    clear ST RX6 RY6 G6 AW6
    clear b7
    go_wp2_with fail
    refine Calls.mono (HED2.out gb _ G7.out) ?_
    rintro e v8 ⟨rfl, b8⟩
    have ST : Hid (Ab v7 (v8.alloc (.cells #[.int .i64 z0, .int .i64 z1, .int .i64 z2, .int .i64 z3] 28))) := Ab.call (show Ab _ _ from b8) (bl1 v8 (.cells #[.int .i64 z0, .int .i64 z1, .int .i64 z2, .int .i64 z3] 28))
    have AW8 : Hid (Ab w (v8.alloc (.cells #[.int .i64 z0, .int .i64 z1, .int .i64 z2, .int .i64 z3] 28))) := (AW7.out).trans ST.out
    have RX8 : Hid ((v8.alloc (.cells #[.int .i64 z0, .int .i64 z1, .int .i64 z2, .int .i64 z3] 28)).heap[v3.heap.size]? = some (.cells #[.int .i64 q, .int .i64 s, .int .i64 d, .int .i64 o] 28)) := Ab.heap ST.out RX7.out
    have RY8 : Hid ((v8.alloc (.cells #[.int .i64 z0, .int .i64 z1, .int .i64 z2, .int .i64 z3] 28)).heap[v6.heap.size]? = some (.cells #[.int .i64 y0, .int .i64 y1, .int .i64 y2, .int .i64 y3] 28)) := Ab.heap ST.out RY7.out
    have G8 : Hid (GridOf n gb (v8.alloc (.cells #[.int .i64 z0, .int .i64 z1, .int .i64 z2, .int .i64 z3] 28))) := G7.out.to ST.out
    have RZ8 : Hid ((v8.alloc (.cells #[.int .i64 z0, .int .i64 z1, .int .i64 z2, .int .i64 z3] 28)).heap[v8.heap.size]? = some (.cells #[.int .i64 z0, .int .i64 z1, .int .i64 z2, .int .i64 z3] 28)) := heap_alloc_new _ _
    clear ST RX7 RY7 G7 AW7
    clear b8
    have xX0 := cell_of_row _ _ 0 _ _ _ RX8.out
    have xX1 := cell_of_row _ _ 1 _ _ _ RX8.out
    have xX2 := cell_of_row _ _ 2 _ _ _ RX8.out
    have xX3 := cell_of_row _ _ 3 _ _ _ RX8.out
    have lX := lt_of_block RX8.out
    have xZ0 := cell_of_row _ _ 0 _ _ _ RZ8.out
    have xZ1 := cell_of_row _ _ 1 _ _ _ RZ8.out
    have xZ2 := cell_of_row _ _ 2 _ _ _ RZ8.out
    have xZ3 := cell_of_row _ _ 3 _ _ _ RZ8.out
    have lZ := lt_of_block RZ8.out
    obtain ⟨m1, m2, m3, m4⟩ := MM.out
    have q1 := EQ1.out
    subst q1
    have q2 := EQ2.out
    subst q2
    go_wp2
    go_ret
    exact ⟨by first | rfl | (simp [*]; done), AW8.out⟩
end Go.Proofs.YtnklgfmemelcpaaDoor

/-
  What the law's condition on the table of frames gives the walks; a struct of eight whole numbers.
-/
namespace Go.Proofs.YtnklgfmemelcpaaDoor
open Go.ChangeShapes Go.WideShapes Go.ChangeAt Go.WideMaps Go.WideElems Go.RowKit Cu

theorem own : ownKnob Tryd.prog.godebug = none := by kernel_rfl
theorem gFrames : Tryd.prog.globalNamed "tarn/cube.frames" = some 0 := by kernel_rfl
theorem tFrames : (Tryd.prog.globals[0]?).map (·.type) = some 66 := by kernel_rfl
theorem door_met (os : Os) (args : Array Value) : laidMetH Tryd.prog [("tarn/cube.frames", Rows.laid_tarn_cube_frames)] ((World.doorLaid Tryd.prog 400 os).forCall (fun _ _ => 0) ⟨#[], args, []⟩).memory :=
  laidMetH_of_parts3 (fuel := 8) (laidMet_of_run' 8 (by kernel_rfl) (by kernel_rfl)) (by kernel_rfl) (by kernel_rfl)
set_option maxRecDepth 100000 in
theorem pt_data {H : Type} {enc : TypeId × Value → H} {w : World} {base fuel : Nat} {spare : Nat → Bool} {held : Bool} {cs : List Value} {x : DataW H × List MemPlace} (h : DataW.trod enc Tryd.prog w base spare held fuel 58 cs = some x)
    (a b c : Int) (e : x.1 = .agg [.lit (.int .i64 a), .lit (.int .i64 b), .lit (.int .i64 c)]) : cs = [.int .i64 a, .int .i64 b, .int .i64 c] := by
  have k3 : Tryd.prog.cellsOf 3 = 1 := by kernel_rfl
  have kp : Tryd.prog.cellsOf 58 = 3 := by kernel_rfl
  obtain ⟨xs, m, _, hx, hlen, hn, hel⟩ := DataW.trod_array Tryd.underlying58 h
  rw [hx] at e
  match xs, hn, cs, hlen.trans kp with
  | [x0, x1, x2], _, [c0, c1, c2], _ =>
    have h0 := hel 0 (by decide)
    have h1 := hel 1 (by decide)
    have h2 := hel 2 (by decide)
    simp [k3] at h0 h1 h2
    obtain ⟨n0, e0, f0, _⟩ := DataW.trod_int Tryd.underlying3 h0
    obtain ⟨n1, e1, f1, _⟩ := DataW.trod_int Tryd.underlying3 h1
    obtain ⟨n2, e2, f2, _⟩ := DataW.trod_int Tryd.underlying3 h2
    simp at e0 e1 e2
    simp [f0, f1, f2] at e
    rw [e0, e1, e2, e.1, e.2.1, e.2.2]
set_option maxRecDepth 100000 in
theorem frame_data {H : Type} {enc : TypeId × Value → H} {w : World} {base fuel : Nat} {spare : Nat → Bool} {held : Bool} {cs : List Value} {x : DataW H × List MemPlace} (h : DataW.trod enc Tryd.prog w base spare held fuel 65 cs = some x)
    (p q r : P3) (e : x.1 = .agg [.agg [.lit (.int .i64 p.1), .lit (.int .i64 p.2.1), .lit (.int .i64 p.2.2)], .agg [.lit (.int .i64 q.1), .lit (.int .i64 q.2.1), .lit (.int .i64 q.2.2)], .agg [.lit (.int .i64 r.1), .lit (.int .i64 r.2.1), .lit (.int .i64 r.2.2)]]) :
    cs = [.int .i64 p.1, .int .i64 p.2.1, .int .i64 p.2.2, .int .i64 q.1, .int .i64 q.2.1, .int .i64 q.2.2, .int .i64 r.1, .int .i64 r.2.1, .int .i64 r.2.2] := by
  have kp : Tryd.prog.cellsOf 58 = 3 := by kernel_rfl
  have kf : Tryd.prog.cellsOf 65 = 9 := by kernel_rfl
  obtain ⟨xs, m, _, hx, hlen, hn, hel⟩ := DataW.trod_struct Tryd.underlying65 h
  rw [hx] at e
  match xs, hn, cs, hlen.trans kf with
  | [x0, x1, x2], _, [c0, c1, c2, c3, c4, c5, c6, c7, c8], _ =>
    have h0 := hel 0 _ rfl
    have h1 := hel 1 _ rfl
    have h2 := hel 2 _ rfl
    simp [kp] at h0 h1 h2
    simp at e
    have e0 := pt_data h0 _ _ _ e.1
    have e1 := pt_data h1 _ _ _ e.2.1
    have e2 := pt_data h2 _ _ _ e.2.2
    simp at e0 e1 e2
    simp [e0, e1, e2]
set_option maxRecDepth 100000 in
theorem table_data {H : Type} {enc : TypeId × Value → H} {w : World} {base fuel : Nat} {spare : Nat → Bool} {held : Bool} {cs : List Value} {x : DataW H × List MemPlace} (h : DataW.trod enc Tryd.prog w base spare held fuel 66 cs = some x)
    (e : x.1 = Rows.laid_tarn_cube_frames) : ∀ f, f < 6 → (cs.drop (f * 9)).take 9 = [.int .i64 (cC f).1, .int .i64 (cC f).2.1, .int .i64 (cC f).2.2, .int .i64 (cR f).1, .int .i64 (cR f).2.1, .int .i64 (cR f).2.2, .int .i64 (cU f).1, .int .i64 (cU f).2.1, .int .i64 (cU f).2.2] := by
  have kf : Tryd.prog.cellsOf 65 = 9 := by kernel_rfl
  obtain ⟨xs, m, _, hx, hlen, hn, hel⟩ := DataW.trod_array Tryd.underlying66 h
  rw [hx] at e
  intro f hf
  have h0 := hel f hf
  rw [kf] at h0
  match xs, hn with
  | [x0, x1, x2, x3, x4, x5], _ =>
    simp only [List.map_cons, List.map_nil, Rows.laid_tarn_cube_frames, DataW.agg.injEq, List.cons.injEq] at e
    rcases six hf with rfl | rfl | rfl | rfl | rfl | rfl
    · exact frame_data h0 (cC 0) (cR 0) (cU 0) e.1
    · exact frame_data h0 (cC 1) (cR 1) (cU 1) e.2.1
    · exact frame_data h0 (cC 2) (cR 2) (cU 2) e.2.2.1
    · exact frame_data h0 (cC 3) (cR 3) (cU 3) e.2.2.2.1
    · exact frame_data h0 (cC 4) (cR 4) (cU 4) e.2.2.2.2.1
    · exact frame_data h0 (cC 5) (cR 5) (cU 5) e.2.2.2.2.2.1
/-- WHAT THE CONDITION GIVES THE WALKS -/
theorem of_laid {W : World} (h : laidMetH Tryd.prog [("tarn/cube.frames", Rows.laid_tarn_cube_frames)] W) : Fr W := by
  rw [MakeChecks.laidMetH_plain _ _ _ (by kernel_rfl)] at h
  obtain ⟨ps, ⟨g0, t0, cs0, f0, p0, q0, hg0, ht0, hv0, hd0, _⟩, _⟩ := h
  obtain rfl := Option.some.inj (gFrames.symm.trans hg0)
  obtain rfl := Option.some.inj (tFrames.symm.trans ht0)
  have T := table_data hd0 rfl
  have C := World.var?_cell hg0 hv0
  have K : ∀ f, f < 6 → ∀ k, k < 9 → W.cell? ⟨0, f * 9 + k, none⟩ = ((cs0.toList.drop (f * 9)).take 9)[k]? := by
    intro f hf k hk
    rw [C, List.getElem?_take, if_pos hk, List.getElem?_drop]
    simp
  have N : ∀ f, f < 6 → Fr9 W f := by
    intro f hf
    have K := K f hf
    rw [T f hf] at K
    exact ⟨⟨K 0 (by omega), K 1 (by omega), K 2 (by omega)⟩, ⟨K 3 (by omega), K 4 (by omega), K 5 (by omega)⟩, ⟨K 6 (by omega), K 7 (by omega), K 8 (by omega)⟩⟩
  refine ⟨?_, N⟩
  have c0 := (N 0 (by omega)).1.1
  rcases Nat.lt_or_ge 0 W.heap.size with h1 | h1
  · exact h1
  · rw [World.cell?, Array.getElem?_eq_none h1] at c0; cases c0
end Go.Proofs.YtnklgfmemelcpaaDoor
