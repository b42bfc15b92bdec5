/-
  Some of the texts of this proof, one behind the other.
-/
import Derived.Laws.StructEq
import Derived.WalkKit
import Derived.Test.YtcmpiohiganliaaGreatDoorSb07
namespace Go.Proofs.YtcmpiohiganliaaGreatDoor
open Go.RowKit Cu Tf
/-- the Left's side of the edge of a number -/
def edT (n k : Nat) : Nat := ((List.range (24 * n * n)).find? (fun t => isL n t && eN n t == k)).getD 0
theorem edT_spec {n k : Nat} (hn : 1 ≤ n) (hk : k < 12 * n * n) : edT n k < 24 * n * n ∧ isL n (edT n k) = true ∧ eN n (edT n k) = k := by
  obtain ⟨t, h1, h2, h3⟩ := ed_ex hn hk
  unfold edT
  cases h : (List.range (24 * n * n)).find? (fun t => isL n t && eN n t == k) with
  | none =>
    have := List.find?_eq_none.1 h t (List.mem_range.2 h1)
    simp [h2, h3] at this
  | some u =>
    have h4 := List.find?_some h
    have h5 := List.mem_range.1 (List.mem_of_find?_eq_some h)
    simp at h4
    exact ⟨h5, h4.1, h4.2⟩
theorem edT_eN {n t : Nat} (hn : 1 ≤ n) (ht : t < 24 * n * n) (hl : isL n t = true) : edT n (eN n t) = t := by
  obtain ⟨h1, h2, h3⟩ := edT_spec hn (ed_lt hn ht hl)
  exact eN_inj h2 hl h3
theorem made_two (w : World) (N : Nat) : (w.alloc (.cells (madeCells #[.int .i64 0, .int .i64 0] (N * 2)) 83)).rowIs w.heap.size 83 (N * 2) (fun _ => .int .i64 0) := by
  refine ⟨_, heap_alloc_new _ _, size_madeCells _ _, fun i hi => ?_⟩
  have h2 : i % 2 = 0 ∨ i % 2 = 1 := by omega
  rcases h2 with h2 | h2 <;> simp [madeCells, hi, h2]
set_option maxHeartbeats 4000000 in
theorem listed_two (N gb : Nat) (f g : Nat → Int) (w : World) (hN : (N : Int) ≤ 12288)
    (H : Hid (∀ k : Nat, k < N → ∀ w', Ab w w' → Calls Tryz.prog 40 #[.pointer (some ⟨gb, 0, none⟩), .int .i64 k] w' fun e w'' => e = .returned (.agg #[.int .i64 (f k), .int .i64 (g k)]) ∧ Below w'.heap.size w' w'')) :
    Calls Tryz.prog 39 #[.int .i64 N, .func (.func 40) #[.pointer (some ⟨gb, 0, none⟩)] #[]] w fun e w' => e = .returned (.slice (some ⟨w.heap.size, 0, none⟩) N N) ∧ Below w.heap.size w w' ∧ w'.rowIs w.heap.size 83 (N * 2) (fun i => .int .i64 (if i % 2 = 0 then f (i / 2) else g (i / 2))) := by
  obtain ⟨i0, hi, hz0, hz1, hz2⟩ := info_parts infoTwo
  have MK := run_make (P := Tryz.prog) w 76 83 i0 (.agg #[.int .i64 0, .int .i64 0]) Tryz.underlying76 hi hz0 .i64 .i64 N N (by omega) (Int.le_refl _) (by rw [hz2]; omega) (by omega)
  rw [hz1] at MK
  simp only [Int.toNat_natCast] at MK
  have e0 : (Value.agg #[.int .i64 0, .int .i64 0]).cells = #[.int .i64 0, .int .i64 0] := rfl
  rw [e0] at MK
  clear hi hz0 hz1 hz2 e0
  obtain ⟨ob, hob⟩ : ∃ b, w.heap.size = b := ⟨_, rfl⟩
  have RW : Hid ((w.alloc (.cells (madeCells #[.int .i64 0, .int .i64 0] (N * 2)) 83)).rowIs ob 83 (N * 2) (fun _ => .int .i64 0)) := by rw [← hob]; exact made_two _ _
  have A0 : Hid (Ab w (w.alloc (.cells (madeCells #[.int .i64 0, .int .i64 0] (N * 2)) 83))) := bl1 w _
  have HO : Hid (w.heap.size ≤ ob) := Nat.le_of_eq hob
  generalize w.alloc (.cells (madeCells #[.int .i64 0, .int .i64 0] (N * 2)) 83) = wm at *
  go_enter Tryz.func39, Tryz.ntmps39
  go_wp2
  have HB := hid hob
  clear MK hob
  go_loopw [11] (fun iv wr => ∃ k : Nat, k ≤ N ∧ iv = .int .i64 (k : Nat) ∧ Ab w wr ∧ wr.rowIs ob 83 (N * 2) (fun i => .int .i64 (if i / 2 < k then (if i % 2 = 0 then f (i / 2) else g (i / 2)) else 0))) (fun iv _ => N - (intOf iv).toNat)
  case atStart => exact ⟨0, by omega, rfl, A0.out, RW.out.congr (fun i _ => by simp)⟩
  case round =>
    obtain ⟨k, hk, rfl, A, R⟩ := hrel
    have A1 := hid A
    have R1 := hid R
    clear A R A0 RW
    by_cases hkN : k < N
    · have hkN' : (k : Int) < N := by omega
      have C := hid (H.out k hkN wr A1.out)
      have HK := hid hkN
      go_wp2_with fail
      refine C.out.mono ?_
      rintro e w1 ⟨rfl, b1⟩
      have A2 : Hid (Ab w w1) := A1.out.call b1
      have R2 := hid (rowIs.ab R1.out b1)
      have x1 := R2.out.cell (i := k * 2) (by omega)
      have x2 := R2.out.frozen (k * 2)
      have x3 := R2.out.cell (i := k * 2 + 1) (by omega)
      have x4 := R2.out.frozen (k * 2 + 1)
      clear b1 C A1 R1 hkN
      go_wp2
      go_roundw
      case rel =>
        refine ⟨k + 1, by omega, by simp, Ab.setk (Ab.setk A2.out HO.out _) HO.out _, ((R2.out.set (k * 2) (.int .i64 (f k))).set (k * 2 + 1) (.int .i64 (g k))).congr (fun i _ => ?_)⟩
        have q1 : (k * 2) / 2 = k := by omega
        have q2 : (k * 2 + 1) / 2 = k := by omega
        by_cases e1 : i = k * 2 + 1
        · subst e1
          simp [q2]
        · by_cases e2 : i = k * 2
          · subst e2; simp [q1]
          · have e3 : (i / 2 < k + 1) ↔ i / 2 < k := by omega
            simp [e1, e2, e3]
      case measure => have := HK.out; simp [intOf]; omega
    · obtain rfl : k = N := by omega
      go_wp2
      go_ret
      rw [HB.out]
      refine ⟨rfl, by have h := A1.out; unfold Ab at h; rw [HB.out] at h; exact h, R1.out.congr (fun i hi => ?_)⟩
      have : i / 2 < k := by omega
      simp [this]
end Go.Proofs.YtcmpiohiganliaaGreatDoor

namespace Go.Proofs.YtcmpiohiganliaaGreatDoor
open Go.RowKit Cu Tf
def bhC (n i : Nat) : Int := if i % 2 = 0 then (bsC n (edT n (i / 2) / 4) ((edT n (i / 2) % 4 + 2) % 4) : Nat) else (bsC n (bsC n (edT n (i / 2) / 4) (edT n (i / 2) % 4)) ((bsS n (edT n (i / 2) / 4) (edT n (i / 2) % 4) + 2) % 4) : Nat)
/-- a net of side n lies in block gb -/
def GridOf (n gb : Nat) (w : World) : Prop :=
  ∃ mb eb cap m bb ab lb pb, GX n gb mb eb cap m (.slice (some ⟨bb, 0, none⟩) (12 * n * n) (12 * n * n)) (.slice (some ⟨ab, 0, none⟩) (6 * n * n) (6 * n * n)) (.slice (some ⟨lb, 0, none⟩) (12 * n * n) (12 * n * n)) (.slice (some ⟨pb, 0, none⟩) (12 * n * n) (12 * n * n)) w ∧
    w.rowIs bb 83 (12 * n * n * 2) (fun i => .int .i64 (bhC n i)) ∧ w.rowIs ab 2 (6 * n * n) (fun k => .int .i64 (arI (ArC n k))) ∧
    w.rowIs lb 44 (12 * n * n) (fun k => .float .f64 (LnC n (edT n k / 4) (edT n k % 4))) ∧ w.rowIs pb 44 (12 * n * n) (fun k => .float .f64 (GpC n (edT n k / 4) (edT n k % 4)))
theorem GridOf.to {n gb : Nat} {w w' : World} (h : GridOf n gb w) (a : Ab w w') : GridOf n gb w' := by
  obtain ⟨mb, eb, cap, m, bb, ab, lb, pb, h1, h2, h3, h4, h5⟩ := h
  exact ⟨mb, eb, cap, m, bb, ab, lb, pb, h1.to a, rowIs.ab h2 a, rowIs.ab h3 a, rowIs.ab h4 a, rowIs.ab h5 a⟩
theorem EG.set {w : World} {n eb gb k : Nat} {v : Value} (h : EG w n eb) (hne : gb ≠ eb) : EG (w.setCell ⟨gb, k, none⟩ v) n eb := by
  have hb : (w.setCell ⟨gb, k, none⟩ v).heap[eb]? = w.heap[eb]? := Below.heap_setCell _ _ _ _ (fun e => hne e.symm)
  refine ⟨by simpa [World.setCell] using h.1, fun t ht hl => ?_⟩
  have hc : ∀ j, (w.setCell ⟨gb, k, none⟩ v).cell? ⟨eb, j, none⟩ = w.cell? ⟨eb, j, none⟩ := fun j => World.cell?_of_block (by exact hb)
  simp only [hc]
  exact h.2 t ht hl
theorem GX.put3 {n gb mb eb cap m : Nat} {v3 v4 v5 v6 : Value} {w : World} (h : GX n gb mb eb cap m v3 v4 v5 v6 w) (v : Value) : GX n gb mb eb cap m v v4 v5 v6 (w.setCell ⟨gb, 3, none⟩ v) := by
  obtain ⟨h1, h2, h3, h4, h5, h6, h7⟩ := h
  refine ⟨?_, h2.set h7, h3.block (Below.heap_setCell _ _ _ _ (fun e => h6 e.symm)), h4, h5, h6, h7⟩
  have := one_set (v := v) (k := 3) h1
  simpa using this
theorem GX.put4 {n gb mb eb cap m : Nat} {v3 v4 v5 v6 : Value} {w : World} (h : GX n gb mb eb cap m v3 v4 v5 v6 w) (v : Value) : GX n gb mb eb cap m v3 v v5 v6 (w.setCell ⟨gb, 4, none⟩ v) := by
  obtain ⟨h1, h2, h3, h4, h5, h6, h7⟩ := h
  refine ⟨?_, h2.set h7, h3.block (Below.heap_setCell _ _ _ _ (fun e => h6 e.symm)), h4, h5, h6, h7⟩
  have := one_set (v := v) (k := 4) h1
  simpa using this
theorem GX.put5 {n gb mb eb cap m : Nat} {v3 v4 v5 v6 : Value} {w : World} (h : GX n gb mb eb cap m v3 v4 v5 v6 w) (v : Value) : GX n gb mb eb cap m v3 v4 v v6 (w.setCell ⟨gb, 5, none⟩ v) := by
  obtain ⟨h1, h2, h3, h4, h5, h6, h7⟩ := h
  refine ⟨?_, h2.set h7, h3.block (Below.heap_setCell _ _ _ _ (fun e => h6 e.symm)), h4, h5, h6, h7⟩
  have := one_set (v := v) (k := 5) h1
  simpa using this
theorem GX.put6 {n gb mb eb cap m : Nat} {v3 v4 v5 v6 : Value} {w : World} (h : GX n gb mb eb cap m v3 v4 v5 v6 w) (v : Value) : GX n gb mb eb cap m v3 v4 v5 v  (w.setCell ⟨gb, 6, none⟩ v) := by
  obtain ⟨h1, h2, h3, h4, h5, h6, h7⟩ := h
  refine ⟨?_, h2.set h7, h3.block (Below.heap_setCell _ _ _ _ (fun e => h6 e.symm)), h4, h5, h6, h7⟩
  have := one_set (v := v) (k := 6) h1
  simpa using this
theorem GX.fr {n gb mb eb cap m : Nat} {v3 v4 v5 v6 : Value} {w : World} (h : GX n gb mb eb cap m v3 v4 v5 v6 w) (k : Nat) : w.frozen? ⟨gb, k, none⟩ = false := free_row h.1 k
theorem makeMap_at (k : Int) (w : World) : (Instr.makeMap 74 (some (.int .i64 k))).run Tryz.prog w = .ok (.map (some w.heap.size)) (w.alloc (.map #[] 0)) := by
  simp [Instr.makeMap, run_underlying Tryz.underlying74, asInt, asIntOf]
theorem ge_start (n : Nat) (w : World) : GE w.heap.size n 0 (w.heap.size + 1) w.heap.size (.slice none 0 0) (.slice none 0 0) (.slice none 0 0) (.slice none 0 0) (.slice none 0 0) ((w.alloc (.map #[] 0)).alloc (.cells #[.int .i64 n, .slice none 0 0, .map (some w.heap.size), .slice none 0 0, .slice none 0 0, .slice none 0 0, .slice none 0 0] 78)) := by
  refine ⟨heap_alloc2_new _ _ _, World.ownsRow_nil _ _ _ _, ?_, ⟨by omega, by omega, by omega⟩, by simp [Value.ownBlock], by simp [Value.ownBlock]⟩
  have h := (MapIs.made w).congr (g' := gT n 0) (fun c s _ _ => (gT_zero n c s).symm)
  exact h.block (Below.heap_alloc _ _ _ (by simp))
theorem ge_start_ab (n : Nat) (w : World) : Ab w ((w.alloc (.map #[] 0)).alloc (.cells #[.int .i64 n, .slice none 0 0, .map (some w.heap.size), .slice none 0 0, .slice none 0 0, .slice none 0 0, .slice none 0 0] 78)) := bl2 _ _ _
set_option maxRecDepth 100000 in
set_option maxHeartbeats 8000000 in
theorem new_at (n : Nat) (w : World) (hn : 1 ≤ n ∧ n ≤ 32) (hF : Fr w) :
    Calls Tryz.prog 11 #[.int .i64 n] w fun e w' => ∃ gb, e = .returned (.tuple #[.pointer (some ⟨gb, 0, none⟩), .int .i64 0]) ∧ Ab w w' ∧ w.heap.size ≤ gb ∧ GridOf n gb w' := by
  have CE := hid (fun u => cells_nat n hn u)
  have h12 := n12 hn
  obtain ⟨N, hN⟩ : ∃ N, 6 * n * n = N := ⟨_, rfl⟩
  rw [hN] at CE
  have hN1 : (N : Int) ≤ 6144 := by omega
  have hN0 : (N : Int) ≠ 0 := by omega
  have HF := hid hF
  have Hn := hid hn
  have HN := hid hN
  have H12 := hid h12
  have hmm := makeMap_at (4 * (N : Int))
  have AE := hid (addEdges_at n N (w.heap.size + 1) w.heap.size (.slice none 0 0) (.slice none 0 0) (.slice none 0 0) (.slice none 0 0) w _ hn hN.symm hF (ge_start_ab n w) (ge_start n w))
  clear hn hF hN h12
  go_enter Tryz.func11, Tryz.ntmps11
  go_wp2_with (go_at_call 23; refine (CE.out _).mono ?_; rintro e w' ⟨rfl, hw⟩; have hw2 := hw.symm; subst hw2)
  refine AE.out.mono ?_
  rintro e w1 ⟨rfl, A1, es, G1⟩
  obtain ⟨eb, cap, -, rfl, G2⟩ := G1.all Hn.out.1
  have G := hid G2
  have A := hid A1
  obtain ⟨M, hM⟩ : ∃ M, 12 * n * n = M := ⟨_, rfl⟩
  have HM := hid hM
  have hM1 : (M : Int) ≤ 12288 := by have := H12.out.1; omega
  clear A1 G1 G2 AE CE hmm hM
  have LL := hid (listed_area N (w.heap.size + 1) (fun k => arI (ArC n k)) w1 (by omega) (fun k hk u hu => areaOf_at n (w.heap.size + 1) k u Hn.out (by rw [HN.out]; exact hk) (G.out.to hu).cells.1))
  go_wp2_with fail
  refine LL.out.mono ?_
  rintro e w2 ⟨rfl, b2, R2⟩
  obtain ⟨bA, hbA⟩ : ∃ b, w1.heap.size = b := ⟨_, rfl⟩
  have hlt := lt_of_block G.out.1
  have HA : Hid (bA ≠ w.heap.size + 1) := by show _ ≠ _; omega
  rw [hbA] at R2
  rw [hbA]
  have x1 := (G.out.to b2).cells.2.2.2.2.1
  have x2 := (G.out.to b2).fr 4
  go_upto_region 7 with fail
  obtain ⟨uA, huA⟩ : ∃ v, w2.setCell ⟨w.heap.size + 1, 4, none⟩ (.slice (some ⟨bA, 0, none⟩) N N) = v := ⟨_, rfl⟩
  rw [huA]
  have G' := hid ((G.out.to b2).put4 (.slice (some ⟨bA, 0, none⟩) N N))
  have RA := hid (R2.setOther (a := ⟨w.heap.size + 1, 4, none⟩) HA.out (.slice (some ⟨bA, 0, none⟩) N N))
  have A' := hid (Ab.setk (A.out.call b2) (g := w.heap.size + 1) (k := 4) (by omega) (.slice (some ⟨bA, 0, none⟩) N N))
  rw [huA] at G' RA A'
  clear LL R2 hlt G A hbA x1 x2 b2 huA
  clear w2 w1
  have G := G'
  have A := A'
  clear G' A'
  have c1 := G.out.cells.2.1
  rw [HM.out] at c1
  have LL := hid (listed_two M (w.heap.size + 1) (fun k => (bsC n (edT n k / 4) ((edT n k % 4 + 2) % 4) : Nat)) (fun k => (bsC n (bsC n (edT n k / 4) (edT n k % 4)) ((bsS n (edT n k / 4) (edT n k % 4) + 2) % 4) : Nat)) uA (by omega) (fun k hk u hu => by obtain ⟨e1, e2, e3⟩ := edT_spec Hn.out.1 (k := k) (by rw [HM.out]; exact hk); have h := cellsBehind_at n _ _ _ _ _ (edT n k) _ _ _ _ u Hn.out e1 e2 (G.out.to hu); rw [e3] at h; exact h))
  go_wp2_with fail
  refine LL.out.mono ?_
  rintro e w2 ⟨rfl, b2, R2⟩
  clear c1
  obtain ⟨bB, hbB⟩ : ∃ b, uA.heap.size = b := ⟨_, rfl⟩
  have hlt := lt_of_block G.out.1
  have HB : Hid (bB ≠ w.heap.size + 1) := by show _ ≠ _; omega
  rw [hbB] at R2
  rw [hbB]
  have x1 := (G.out.to b2).cells.2.2.2.1
  have x2 := (G.out.to b2).fr 3
  go_upto_region 8 with fail
  obtain ⟨uB, huB⟩ : ∃ v, w2.setCell ⟨w.heap.size + 1, 3, none⟩ (.slice (some ⟨bB, 0, none⟩) M M) = v := ⟨_, rfl⟩
  rw [huB]
  have G' := hid ((G.out.to b2).put3 (.slice (some ⟨bB, 0, none⟩) M M))
  have RB := hid (R2.setOther (a := ⟨w.heap.size + 1, 3, none⟩) HB.out (.slice (some ⟨bB, 0, none⟩) M M))
  have RA' := hid ((rowIs.ab RA.out b2).setOther (a := ⟨w.heap.size + 1, 3, none⟩) HA.out (.slice (some ⟨bB, 0, none⟩) M M))
  have A' := hid (Ab.setk (A.out.call b2) (g := w.heap.size + 1) (k := 3) (by omega) (.slice (some ⟨bB, 0, none⟩) M M))
  rw [huB] at G' RB A' RA'
  clear LL R2 hlt G A hbB x1 x2 b2 huB RA
  clear w2 uA
  have G := G'
  have A := A'
  have RA := RA'
  clear G' A' RA'
  have c1 := G.out.cells.2.1
  rw [HM.out] at c1
  have LL := hid (listed_len M (w.heap.size + 1) (fun k => LnC n (edT n k / 4) (edT n k % 4)) uB (by omega) (fun k hk u hu => by obtain ⟨e1, e2, e3⟩ := edT_spec Hn.out.1 (k := k) (by rw [HM.out]; exact hk); have h := lengthOf_at n _ _ _ _ _ (edT n k) _ _ _ _ u Hn.out e1 e2 (HF.out.to (A.out.trans hu)) (G.out.to hu); rw [e3] at h; exact h))
  go_wp2_with fail
  refine LL.out.mono ?_
  rintro e w2 ⟨rfl, b2, R2⟩
  clear c1
  obtain ⟨bL, hbL⟩ : ∃ b, uB.heap.size = b := ⟨_, rfl⟩
  have hlt := lt_of_block G.out.1
  have HL : Hid (bL ≠ w.heap.size + 1) := by show _ ≠ _; omega
  rw [hbL] at R2
  rw [hbL]
  have x1 := (G.out.to b2).cells.2.2.2.2.2.1
  have x2 := (G.out.to b2).fr 5
  go_upto_region 9 with fail
  obtain ⟨uL, huL⟩ : ∃ v, w2.setCell ⟨w.heap.size + 1, 5, none⟩ (.slice (some ⟨bL, 0, none⟩) M M) = v := ⟨_, rfl⟩
  rw [huL]
  have G' := hid ((G.out.to b2).put5 (.slice (some ⟨bL, 0, none⟩) M M))
  have RL := hid (R2.setOther (a := ⟨w.heap.size + 1, 5, none⟩) HL.out (.slice (some ⟨bL, 0, none⟩) M M))
  have RA' := hid ((rowIs.ab RA.out b2).setOther (a := ⟨w.heap.size + 1, 5, none⟩) HA.out (.slice (some ⟨bL, 0, none⟩) M M))
  have RB' := hid ((rowIs.ab RB.out b2).setOther (a := ⟨w.heap.size + 1, 5, none⟩) HB.out (.slice (some ⟨bL, 0, none⟩) M M))
  have A' := hid (Ab.setk (A.out.call b2) (g := w.heap.size + 1) (k := 5) (by omega) (.slice (some ⟨bL, 0, none⟩) M M))
  rw [huL] at G' RL A' RA' RB'
  clear LL R2 hlt G A hbL x1 x2 b2 huL RA RB
  clear w2 uB
  have G := G'
  have A := A'
  have RA := RA'
  have RB := RB'
  clear G' A' RA' RB'
  have c1 := G.out.cells.2.1
  rw [HM.out] at c1
  have LL := hid (listed_gap M (w.heap.size + 1) (fun k => GpC n (edT n k / 4) (edT n k % 4)) uL (by omega) (fun k hk u hu => by obtain ⟨e1, e2, e3⟩ := edT_spec Hn.out.1 (k := k) (by rw [HM.out]; exact hk); have h := gapOf_at n _ _ _ _ _ (edT n k) _ _ _ _ u Hn.out e1 e2 (HF.out.to (A.out.trans hu)) (G.out.to hu); rw [e3] at h; exact h))
  go_wp2_with fail
  refine LL.out.mono ?_
  rintro e w2 ⟨rfl, b2, R2⟩
  clear c1
  obtain ⟨bP, hbP⟩ : ∃ b, uL.heap.size = b := ⟨_, rfl⟩
  have hlt := lt_of_block G.out.1
  have HP : Hid (bP ≠ w.heap.size + 1) := by show _ ≠ _; omega
  rw [hbP] at R2
  rw [hbP]
  have x1 := (G.out.to b2).cells.2.2.2.2.2.2
  have x2 := (G.out.to b2).fr 6
  go_upto_region 10 with fail
  obtain ⟨uP, huP⟩ : ∃ v, w2.setCell ⟨w.heap.size + 1, 6, none⟩ (.slice (some ⟨bP, 0, none⟩) M M) = v := ⟨_, rfl⟩
  rw [huP]
  have G' := hid ((G.out.to b2).put6 (.slice (some ⟨bP, 0, none⟩) M M))
  have RP := hid (R2.setOther (a := ⟨w.heap.size + 1, 6, none⟩) HP.out (.slice (some ⟨bP, 0, none⟩) M M))
  have RA' := hid ((rowIs.ab RA.out b2).setOther (a := ⟨w.heap.size + 1, 6, none⟩) HA.out (.slice (some ⟨bP, 0, none⟩) M M))
  have RB' := hid ((rowIs.ab RB.out b2).setOther (a := ⟨w.heap.size + 1, 6, none⟩) HB.out (.slice (some ⟨bP, 0, none⟩) M M))
  have RL' := hid ((rowIs.ab RL.out b2).setOther (a := ⟨w.heap.size + 1, 6, none⟩) HL.out (.slice (some ⟨bP, 0, none⟩) M M))
  have A' := hid (Ab.setk (A.out.call b2) (g := w.heap.size + 1) (k := 6) (by omega) (.slice (some ⟨bP, 0, none⟩) M M))
  rw [huP] at G' RP A' RA' RB' RL'
  clear LL R2 hlt G A hbP x1 x2 b2 huP RA RB RL
  clear w2 uL
  have G := G'
  have A := A'
  have RA := RA'
  have RB := RB'
  have RL := RL'
  clear G' A' RA' RB' RL'
  go_wp2
  go_ret2
  refine ⟨w.heap.size + 1, rfl, A.out, by omega, ?_⟩
  have hN := HN.out
  have hM := HM.out
  subst hN hM
  exact ⟨w.heap.size, eb, cap, _, bB, bA, bL, bP, G.out, RB.out.congr (fun i _ => by unfold bhC; rfl), RA.out, RL.out, RP.out⟩
end Go.Proofs.YtcmpiohiganliaaGreatDoor

namespace Go.Proofs.YtcmpiohiganliaaGreatDoor
open Go.RowKit Cu Tf
attribute [local go_sem] run_store_float
theorem gcounts_at (k n : Int) (w : World) : Calls Tryz.prog 80 #[.int .i64 k, .int .i64 n] w fun e w' => e = .returned (.bool (inR k n)) ∧ w' = w := by
  by_cases h : 0 ≤ k
  · go_enter Tryz.func80, Tryz.ntmps80
    go_wp2
    go_ret
    exact ⟨by simp [inR, h], rfl⟩
  · go_enter Tryz.func80, Tryz.ntmps80
    go_wp2
    go_ret
    exact ⟨by simp [inR]; omega, rfl⟩
theorem gSide_at {n gb : Nat} {w : World} (g : GridOf n gb w) : Calls Tryz.prog 60 #[.pointer (some ⟨gb, 0, none⟩)] w fun e w' => e = .returned (.int .i64 n) ∧ w' = w := by
  obtain ⟨mb, eb, cap, m, bb, ab, lb, pb, h1, -⟩ := g
  obtain ⟨c0, -⟩ := h1.cells
  clear h1
  go_enter Tryz.func60, Tryz.ntmps60
  go_wp2
  go_ret
  exact ⟨rfl, rfl⟩
theorem gCells_at {n gb : Nat} {w : World} (g : GridOf n gb w) : Calls Tryz.prog 12 #[.pointer (some ⟨gb, 0, none⟩)] w fun e w' => e = .returned (.int .i64 (6 * n * n : Nat)) ∧ w' = w := by
  obtain ⟨mb, eb, cap, m, bb, ab, lb, pb, h1, -⟩ := g
  obtain ⟨-, -, -, -, c4, -⟩ := h1.cells
  generalize 6 * n * n = N at *
  clear h1
  go_enter Tryz.func12, Tryz.ntmps12
  go_wp2
  go_ret
  exact ⟨rfl, rfl⟩
theorem gEdges_at {n gb : Nat} {w : World} (g : GridOf n gb w) : Calls Tryz.prog 55 #[.pointer (some ⟨gb, 0, none⟩)] w fun e w' => e = .returned (.int .i64 (12 * n * n : Nat)) ∧ w' = w := by
  obtain ⟨mb, eb, cap, m, bb, ab, lb, pb, h1, -⟩ := g
  obtain ⟨-, c1, -⟩ := h1.cells
  clear h1
  generalize 12 * n * n = M at *
  go_enter Tryz.func55, Tryz.ntmps55
  go_wp2
  go_ret
  exact ⟨rfl, rfl⟩
theorem inR_true {k N : Nat} (h : k < N) : inR (k : Int) (N : Int) = true := by rw [inR_iff]; omega
set_option maxHeartbeats 2000000 in
theorem gEdge_ok {n gb t : Nat} {w : World} (hn : 1 ≤ n ∧ n ≤ 32) (ht : t < 24 * n * n) (hl : isL n t = true) (g : GridOf n gb w) :
    Calls Tryz.prog 59 #[.pointer (some ⟨gb, 0, none⟩), .int .i64 (eN n t : Nat)] w fun e w' => e = .returned (.tuple #[.agg #[.int .i64 (t / 4 : Nat), .int .i64 (t % 4 : Nat), .int .i64 (bsC n (t / 4) (t % 4) : Nat), .int .i64 (bsS n (t / 4) (t % 4) : Nat)], .bool true]) ∧ Below w.heap.size w w' := by
  have E1 := hid (gEdges_at (g.to (bl1 w (.cells #[.int .i64 0, .int .i64 0, .int .i64 0, .int .i64 0] 107))))
  have C1 := hid (fun u => gcounts_at (eN n t : Nat) (12 * n * n : Nat) u)
  rw [inR_true (ed_lt hn.1 ht hl)] at C1
  obtain ⟨mb, eb, cap, m, bb, ab, lb, pb, h1, -⟩ := g
  obtain ⟨-, c1, -⟩ := h1.cells
  obtain ⟨y0, y1, y2, y3⟩ := h1.2.1.2 t ht hl
  have lg := lt_of_block h1.1
  have le := h1.2.1.1
  have kN := ed_lt hn.1 ht hl
  have R0 := hid (heap_alloc_new w (.cells #[.int .i64 0, .int .i64 0, .int .i64 0, .int .i64 0] 107))
  have A0 := hid (bl1 w (.cells #[.int .i64 0, .int .i64 0, .int .i64 0, .int .i64 0] 107))
  generalize bsC n (t / 4) (t % 4) = d at *
  generalize bsS n (t / 4) (t % 4) = b at *
  generalize t / 4 = c at *
  generalize t % 4 = s at *
  generalize eN n t = k at *
  generalize 12 * n * n = M at *
  have hk1 : (k : Int) < M := by omega
  clear h1 hn ht hl
  go_enter Tryz.func59, Tryz.ntmps59
  go_wp2_with (first
    | (go_at_call 55; refine (E1.out).mono ?_; rintro e w' ⟨rfl, hw⟩; have hw2 := hw.symm; subst hw2)
    | (go_at_call 80; refine (C1.out _).mono ?_; rintro e w' ⟨rfl, hw⟩; have hw2 := hw.symm; subst hw2))
  refine bodyPost_ret ?_ rfl ⟨rfl, ?_⟩
  · exact res_two Tryz.results59 _ _ w.heap.size _ _ (0, 0) _ _ rfl rfl (heap_alloc_new w _) Tryz.underlying107 rfl (by kernel_rfl)
  · exact bl1 w _
set_option maxHeartbeats 2000000 in
theorem gAround_at {n gb : Nat} {c s : Int} {w : World} (hc : W64 c) (hs : W64 s) (g : GridOf n gb w) :
    Calls Tryz.prog 15 #[.pointer (some ⟨gb, 0, none⟩), .int .i64 c, .int .i64 s] w fun e w' => e = .returned (.tuple #[.int .i64 (gT n (24 * n * n) c s).1, .int .i64 (gT n (24 * n * n) c s).2]) ∧ Below w.heap.size w w' := by
  obtain ⟨mb, eb, cap, m, bb, ab, lb, pb, h1, -⟩ := g
  obtain ⟨-, -, c2, -⟩ := h1.cells
  have LK := h1.2.2.1.look hc hs
  generalize (gT n (24 * n * n) c s).1 = x at *
  generalize (gT n (24 * n * n) c s).2 = y at *
  clear h1 hc hs
  go_enter Tryz.func15, Tryz.ntmps15
  go_upto_region 4 with fail
  go_region
  go_wp2
  go_ret2
  exact ⟨rfl, by first | exact bl1 w _ | exact Below.drew (bl1 w _)⟩
set_option maxHeartbeats 2000000 in
theorem gArea_ok {n gb k : Nat} {w : World} (hn : 1 ≤ n ∧ n ≤ 32) (hk : k < 6 * n * n) (g : GridOf n gb w) :
    Calls Tryz.prog 77 #[.pointer (some ⟨gb, 0, none⟩), .int .i64 k] w fun e w' => e = .returned (.int .i64 (arI (ArC n k))) ∧ Below w.heap.size w w' := by
  have E1 := hid (gCells_at g)
  have C1 := hid (fun u => gcounts_at (k : Nat) (6 * n * n : Nat) u)
  have hN := (n12 hn)
  rw [inR_true hk] at C1
  obtain ⟨mb, eb, cap, m, bb, ab, lb, pb, h1, -, hr, -⟩ := g
  have c0 := h1.cells.2.2.2.2.1
  have y0 := hr.cell hk

  have lg := lt_of_block h1.1
  have le := hr.lt
  clear hr
  generalize arI (ArC n k) = V at *
  have hk2 : ((6 * n * n : Nat) : Int) ≤ 12288 := by omega
  generalize 6 * n * n = M at *
  have hk1 : (k : Int) < M := by omega
  clear h1 hn hN hk
  go_enter Tryz.func77, Tryz.ntmps77
  go_wp2_with (first
    | (go_at_call 12; refine (E1.out).mono ?_; rintro e w' ⟨rfl, hw⟩; have hw2 := hw.symm; subst hw2)
    | (go_at_call 80; refine (C1.out _).mono ?_; rintro e w' ⟨rfl, hw⟩; have hw2 := hw.symm; subst hw2))
  go_ret
  exact ⟨rfl, Below.refl _ _⟩
end Go.Proofs.YtcmpiohiganliaaGreatDoor

namespace Go.Proofs.YtcmpiohiganliaaGreatDoor
open Go.RowKit Cu Tf
theorem W64_of {a : Int} (h : -9223372036854775808 ≤ a ∧ a ≤ 9223372036854775807) : W64 a := h
end Go.Proofs.YtcmpiohiganliaaGreatDoor

namespace Go.Proofs.YtcmpiohiganliaaGreatDoor.Sh
/-- a quotient against its parts -/
theorem div_two {a z : Int} (hz : 0 < z) : z * (a / z) ≤ a ∧ a < z * (a / z) + z := by
  have h1 := Int.mul_ediv_add_emod a z
  have h2 := Int.emod_nonneg a (show z ≠ 0 by omega)
  have h3 := Int.emod_lt_of_pos a hz
  constructor <;> omega
/-- all of them together -/
def sumN (f : Nat → Int) : Nat → Int
  | 0 => 0
  | n + 1 => sumN f n + f n
theorem sumN_nn {f : Nat → Int} : ∀ {n : Nat}, (∀ i, i < n → 0 ≤ f i) → 0 ≤ sumN f n
  | 0, _ => by show (0 : Int) ≤ 0; omega
  | n + 1, h => by
    show 0 ≤ sumN f n + f n
    have a := sumN_nn (n := n) (fun i hi => h i (by omega))
    have b := h n (by omega)
    omega
theorem sumN_mono {f : Nat → Int} {n : Nat} (h : ∀ i, i < n → 0 ≤ f i) : ∀ {m : Nat}, m ≤ n → sumN f m ≤ sumN f n := by
  intro m hm
  induction n with
  | zero => obtain rfl : m = 0 := by omega
            omega
  | succ n ih =>
    by_cases e : m = n + 1
    · subst e; omega
    · have a := ih (fun i hi => h i (by omega)) (by omega)
      have b := h n (by omega)
      show sumN f m ≤ sumN f n + f n
      omega
end Go.Proofs.YtcmpiohiganliaaGreatDoor.Sh

namespace Go.Proofs.YtcmpiohiganliaaGreatDoor
namespace Rv
open Sh
/-! ### the order -/
/-! ### a step of rivers -/
/-- waters or tracers that can be -/
def okV (n : Nat) (f : Nat → Int) : Prop := (∀ c, c < n → 0 ≤ f c) ∧ sumN f n ≤ 4503599627370496
theorem elem_le {f : Nat → Int} {n c : Nat} (h : ∀ i, i < n → 0 ≤ f i) (hc : c < n) : f c ≤ sumN f n := by
  have a := sumN_mono h (m := c + 1) (by omega)
  have b := sumN_nn (f := f) (n := c) (fun i hi => h i (by omega))
  have e : sumN f (c + 1) = sumN f c + f c := rfl
  omega
theorem okV.b {n : Nat} {f : Nat → Int} (h : okV n f) {c : Nat} (hc : c < n) : 0 ≤ f c ∧ f c ≤ 4503599627370496 := ⟨h.1 c hc, by have := elem_le h.1 hc; have := h.2; omega⟩
section
variable {n : Nat} {dn : Nat → Int} {sh : Int → Nat → Bool} {X : (Nat → Int) × (Nat → Int)}
end
end Rv
end Go.Proofs.YtcmpiohiganliaaGreatDoor

namespace Go.Proofs.YtcmpiohiganliaaGreatDoor
open Tf Ieee
def Hi (h x : Nat) : Prop := mg x = 0 ∨ (238690780250636288 ≤ mg x ∧ mg x ≤ h)
theorem Hi.md {h x : Nat} (k : Hi h x) (hh : h + 4503599627370496 < 9218868437227405312) : Md x := by
  rcases k with k | k
  · exact .inl k
  · exact .inr ⟨by omega, by omega⟩
theorem mv_52 {r : Nat} (h : 238690780250636288 ≤ r) : ∃ q, mv r = q * 4503599627370496 := by
  unfold mv mag
  have e : (2 : Nat) ^ 52 = 4503599627370496 := by decide
  rw [if_neg (by omega), e]
  obtain ⟨j, hj⟩ : ∃ j, r / 4503599627370496 - 1 = 52 + j := ⟨r / 4503599627370496 - 1 - 52, by omega⟩
  rw [hj, Nat.pow_add, e]
  exact ⟨(4503599627370496 + r % 4503599627370496) * 2 ^ j, by rw [← Nat.mul_assoc, Nat.mul_right_comm]⟩
theorem Hi.sv {h x : Nat} (k : Hi h x) : ∃ q : Int, sv x = q * 4503599627370496 := by
  unfold Tf.sv
  rcases k with k | k
  · rw [k, mv_zero]; exact ⟨0, by cases ng x <;> rfl⟩
  · obtain ⟨q, hq⟩ := mv_52 k.1
    rw [hq]
    cases ng x
    · exact ⟨q, by simp⟩
    · exact ⟨-q, by simp; omega⟩
/-- a number that is no less than nothing -/
def Ps (h x : Nat) : Prop := Hi h x ∧ x < 9223372036854775808
theorem Ps.lt {h x : Nat} (k : Ps h x) : x < 18446744073709551616 := by have := k.2; omega
theorem Ps.ng {h x : Nat} (k : Ps h x) : Tf.ng x = false := ng_of_lt k.2
theorem Ps.mg {h x : Nat} (k : Ps h x) : Tf.mg x = x := mg_of_lt k.2
/-- from 1e-100 to 1e100, or nought -/
def In1 (x : Nat) : Prop := mg x = 0 ∨ (3110860544497550640 ≤ mg x ∧ mg x ≤ 6103021453049119613)
theorem In1.hi {x : Nat} (k : In1 x) : Hi 6103021453049119613 x := by
  rcases k with k | k
  · exact .inl k
  · exact .inr ⟨by omega, k.2⟩
theorem In1.md {x : Nat} (k : In1 x) : Md x := k.hi.md (by omega)
theorem pr_lo : mv 1599789920352257571 * 2 ^ K ≤ mv 3110860544497550640 * mv 3110860544497550640 := by decide +kernel
theorem pr_hi : mv 6103021453049119613 * mv 6103021453049119613 ≤ mv 7613934262404594417 * 2 ^ K := by decide +kernel
theorem pr_lg : 2 ^ (52 + K) ≤ mv 3110860544497550640 * mv 3110860544497550640 := by decide +kernel
theorem rung_ge' {d r V : Nat} (h : mv r * 2 ^ d ≤ V) : r ≤ rung 52 d V := rung_ge (by omega) h
theorem rung_le' {d r V : Nat} (h : V ≤ mv r * 2 ^ d) : rung 52 d V ≤ r := rung_le (by omega) h
theorem pr_rung {V : Nat} (h1 : mv 3110860544497550640 * mv 3110860544497550640 ≤ V) (h2 : V ≤ mv 6103021453049119613 * mv 6103021453049119613) :
    52 + 1074 ≤ V.log2 ∧ 1599789920352257571 ≤ rung 52 1074 V ∧ rung 52 1074 V ≤ 7613934262404594417 := by
  have hV : 2 ^ (52 + K) ≤ V := Nat.le_trans pr_lg h1
  have h0 : V ≠ 0 := by have := Nat.two_pow_pos (52 + K); omega
  refine ⟨?_, ?_, ?_⟩
  · have := (Nat.le_log2 h0).2 hV
    exact this
  · exact rung_ge' (d := K) (Nat.le_trans pr_lo h1)
  · exact rung_le' (d := K) (Nat.le_trans h2 pr_hi)
theorem In1.far {x y : Nat} (kx : In1 x) (ky : In1 y) : Far x y := by
  rcases kx with kx | kx
  · exact .inl (.inl kx)
  · rcases ky with ky | ky
    · exact .inl (.inr ky)
    · obtain ⟨a, b, c⟩ := pr_rung (Nat.mul_le_mul (mv_le.2 kx.1) (mv_le.2 ky.1)) (Nat.mul_le_mul (mv_le.2 kx.2) (mv_le.2 ky.2))
      exact .inr ⟨a, by omega⟩
end Go.Proofs.YtcmpiohiganliaaGreatDoor

namespace Go.Proofs.YtcmpiohiganliaaGreatDoor
open Tf Ieee
/-- a product of two floats that aren't below nothing -/
theorem ml_word {a b : Nat} (ha : a < 9218868437227405312) (hb : b < 9218868437227405312) : mlB a b = min (rung 52 1074 (mv a * mv b)) 9218868437227405312 := by
  have ma : mg a = a := mg_of_lt (by omega)
  have mb : mg b = b := mg_of_lt (by omega)
  rw [mul_w (by omega) (by omega) (by omega) (by omega), ng_of_lt (by omega), ng_of_lt (by omega), ma, mb]
  simp only [Bool.xor_self, Bool.false_eq_true, if_false]
end Go.Proofs.YtcmpiohiganliaaGreatDoor

namespace Go.Proofs.YtcmpiohiganliaaGreatDoor
open Tf

/-- the places between the least of 16 bits and the least of 64 -/
def H2 : Nat := 1050
/-! how the code makes the bits of 16 -/
end Go.Proofs.YtcmpiohiganliaaGreatDoor

namespace Go.Proofs.YtcmpiohiganliaaGreatDoor
open Tf

theorem rne_near (n g : Nat) (hg : 0 < g) : 2 * n ≤ 2 * (rne n g * g) + g ∧ 2 * (rne n g * g) ≤ 2 * n + g ∧ ((2 * n = 2 * (rne n g * g) + g ∨ 2 * (rne n g * g) = 2 * n + g) → rne n g % 2 = 0) := by
  have h := Nat.div_add_mod n g
  have hm := Nat.mod_lt n hg
  rw [Nat.mul_comm] at h
  unfold rne
  by_cases c : g < 2 * (n % g) ∨ (g = 2 * (n % g) ∧ n / g % 2 = 1)
  · rw [if_pos c, Nat.add_mul, Nat.one_mul]
    generalize n / g * g = P at *
    omega
  · rw [if_neg c, Nat.add_zero]
    generalize n / g * g = P at *
    omega
/-- at most a half away, at a half even -/
theorem even_near (x : Nat) : 2 * (sv x - cq .even x * one) ≤ one ∧ -(one : Int) ≤ 2 * (sv x - cq .even x * one) ∧ ((2 * (sv x - cq .even x * one) = one ∨ 2 * (sv x - cq .even x * one) = -(one : Int)) → cq .even x % 2 = 0) := by
  have h := rne_near (mv (mg x)) one one_pos
  unfold sv cq
  rw [cutq_even]
  generalize hq : rne (mv (mg x)) one = q at *
  have hp : ((q * one : Nat) : Int) = (q : Int) * (one : Int) := Int.natCast_mul ..
  cases ng x
  · simp only [Bool.false_eq_true, if_false]
    rw [← hp]
    generalize q * one = Q at *
    omega
  · simp only [if_true, Int.neg_mul]
    rw [← hp]
    generalize q * one = Q at *
    omega
theorem R_exact (v : Int) (r : Nat) (h : mv r = v.natAbs) (hr : r ≤ 9218868437227405312) : R v = if v < 0 then -(r : Int) else (r : Int) := by
  unfold R
  rw [← h, rung_mv, Nat.min_eq_left hr]
theorem R_mv (r : Nat) (hr : r ≤ 9218868437227405312) : R (mv r : Int) = r ∧ R (-(mv r : Int)) = -(r : Int) := by
  refine ⟨?_, ?_⟩
  · rw [R_exact _ r (by rw [Int.natAbs_natCast]) hr, if_neg (by omega)]
  · rw [R_exact _ r (by rw [Int.natAbs_neg, Int.natAbs_natCast]) hr]
    by_cases c : r = 0
    · subst c; rw [mv_zero]; simp
    · have := (@mv_lt 0 r).2 (by omega)
      rw [mv_zero] at this
      rw [if_pos (by omega)]

/-- both are of 64 bits just where x is -/
theorem cOk_wOk (way : Ieee.Toward) (x : Nat) (hx : x < 18446744073709551616) : cOk way x = wOk x := by
  cases n : isN x
  · by_cases c : 4841369599423283200 ≤ mg x
    · by_cases fx : mg x < 9218868437227405312
      · obtain ⟨q, hq⟩ := whole_great (mg x) c
        rw [← wOk_itV way x hx n]
        have h := itV_fin way x hx fx
        have e : itV way x = x := by
          have h3 := h.2.2
          rw [hq, cutq_mul _ _ _ _ one_pos, ← hq] at h3
          have h4 := mv_inj.1 h3
          have w1 := word_eq x hx
          have w2 := word_eq (itV way x) (itV_lt way x)
          rw [h4, h.1] at w2
          rw [w2]; exact w1.symm
        rw [e]
      · rw [← wOk_itV way x hx n, itV_inf way x hx (by have := isN_false.1 n; omega)]
    · have h1 : wOk x = true := by
        rw [wOk_rk x hx, n]
        have hr : rk x = mg x ∨ rk x = -(mg x : Int) := by unfold rk; split <;> simp
        rw [decide_eq_true (by omega), decide_eq_true (by omega)]; rfl
      have e : mv 4841369599423283200 = 2 ^ 52 * one := mv_from_one 52 _ (by decide)
      have hl : mv (mg x) < 2 ^ 52 * one := by rw [← e]; exact mv_lt.2 (by omega)
      have hq : mv (mg x) / one < 2 ^ 52 := (Nat.div_lt_iff_lt_mul one_pos).2 hl
      have hc := cutq_le way (ng x) (mv (mg x)) one
      have h2 : cOk way x = true := by
        unfold cOk fin
        have h3 : -9223372036854775808 ≤ cq way x ∧ cq way x < 9223372036854775808 := by
          unfold cq
          generalize cutq way (ng x) (mv (mg x)) one = Q at *
          split <;> omega
        rw [decide_eq_true (by omega), decide_eq_true h3.1, decide_eq_true h3.2]; rfl
      rw [h1, h2]
  · rw [(cOk_nan way n).1, (wOk_nan hx n).1]
end Go.Proofs.YtcmpiohiganliaaGreatDoor

namespace Go.Proofs.YtcmpiohiganliaaGreatDoor
open Go.RowKit Tf
attribute [local go_sem] run_bits run_from raw_feq raw_fne raw_flt raw_fgt run_neg

/-- the ends; the answer -/
def clampM (most : Int) : Int := if most < 0 then 0 else most
def clampB (x : Nat) (most : Int) : Int :=
  if isN x then 0 else if cOk .even x then min (max (cI .even x) (-clampM most)) (clampM most) else if fgt x 0 then clampM most else -clampM most

set_option maxHeartbeats 1000000 in
theorem clamp_nan (x : Nat) (most : Int) (n : isN x = true) (w : World) (hx : x < 18446744073709551616) :
    Calls Tryz.prog 90 #[.float .f64 x, .int .i64 most] w fun e w' => e = .returned (.int .i64 (0)) ∧ ∃ n, w' = w.drewN n := by
  go_enter Tryz.func90, Tryz.ntmps90
  go_wp2_with fail
  refine (cIsNaN_any x _ hx).mono ?_
  rintro e w' ⟨rfl, rfl⟩
  go_wp2
  go_ret
  exact ⟨rfl, 0, rfl⟩
set_option maxHeartbeats 1000000 in
theorem clamp_pos (x : Nat) (most : Int) (m : Int) (n : isN x = false) (hm : (if most < 0 then 0 else most) = m) (_m0 : 0 ≤ m) (_m1 : m ≤ 9223372036854775807) (hi : cI .even x = 0) (ho : cOk .even x = false) (g : fgt x 0 = true) (w : World) (hx : x < 18446744073709551616) :
    Calls Tryz.prog 90 #[.float .f64 x, .int .i64 most] w fun e w' => e = .returned (.int .i64 (m)) ∧ ∃ n, w' = w.drewN n := by
  go_enter Tryz.func90, Tryz.ntmps90
  go_wp2_with fail
  refine (cIsNaN_any x _ hx).mono ?_
  rintro e w' ⟨rfl, rfl⟩
  go_wp2_with fail
  refine (round_at x 0 false _ hx hi ho).mono ?_
  rintro e w' ⟨rfl, k, rfl⟩
  go_wp2
  go_ret
  exact ⟨rfl, k, rfl⟩
set_option maxHeartbeats 1000000 in
theorem clamp_neg (x : Nat) (most : Int) (m : Int) (n : isN x = false) (hm : (if most < 0 then 0 else most) = m) (m0 : 0 ≤ m) (m1 : m ≤ 9223372036854775807) (hi : cI .even x = 0) (ho : cOk .even x = false) (g : fgt x 0 = false) (w : World) (hx : x < 18446744073709551616) :
    Calls Tryz.prog 90 #[.float .f64 x, .int .i64 most] w fun e w' => e = .returned (.int .i64 (-m)) ∧ ∃ n, w' = w.drewN n := by
  go_enter Tryz.func90, Tryz.ntmps90
  go_wp2_with fail
  refine (cIsNaN_any x _ hx).mono ?_
  rintro e w' ⟨rfl, rfl⟩
  go_wp2_with fail
  refine (round_at x 0 false _ hx hi ho).mono ?_
  rintro e w' ⟨rfl, k, rfl⟩
  go_wp2
  go_ret
  exact ⟨rfl, k, rfl⟩
set_option maxHeartbeats 1000000 in
theorem clamp_lo (x : Nat) (most : Int) (m : Int) (n : isN x = false) (hm : (if most < 0 then 0 else most) = m) (m0 : 0 ≤ m) (m1 : m ≤ 9223372036854775807) (i : Int) (hi : cI .even x = i) (ho : cOk .even x = true) (c : i < -m) (w : World) (hx : x < 18446744073709551616) :
    Calls Tryz.prog 90 #[.float .f64 x, .int .i64 most] w fun e w' => e = .returned (.int .i64 (-m)) ∧ ∃ n, w' = w.drewN n := by
  go_enter Tryz.func90, Tryz.ntmps90
  go_wp2_with fail
  refine (cIsNaN_any x _ hx).mono ?_
  rintro e w' ⟨rfl, rfl⟩
  go_wp2_with fail
  refine (round_at x i true _ hx hi ho).mono ?_
  rintro e w' ⟨rfl, k, rfl⟩
  go_wp2
  go_ret
  exact ⟨rfl, k, rfl⟩
set_option maxHeartbeats 1000000 in
theorem clamp_hi (x : Nat) (most : Int) (m : Int) (n : isN x = false) (hm : (if most < 0 then 0 else most) = m) (m0 : 0 ≤ m) (m1 : m ≤ 9223372036854775807) (i : Int) (hi : cI .even x = i) (ho : cOk .even x = true) (c : m < i) (w : World) (hx : x < 18446744073709551616) :
    Calls Tryz.prog 90 #[.float .f64 x, .int .i64 most] w fun e w' => e = .returned (.int .i64 (m)) ∧ ∃ n, w' = w.drewN n := by
  go_enter Tryz.func90, Tryz.ntmps90
  go_wp2_with fail
  refine (cIsNaN_any x _ hx).mono ?_
  rintro e w' ⟨rfl, rfl⟩
  go_wp2_with fail
  refine (round_at x i true _ hx hi ho).mono ?_
  rintro e w' ⟨rfl, k, rfl⟩
  go_wp2
  go_ret
  exact ⟨rfl, k, rfl⟩
set_option maxHeartbeats 1000000 in
theorem clamp_in (x : Nat) (most : Int) (m : Int) (n : isN x = false) (hm : (if most < 0 then 0 else most) = m) (m0 : 0 ≤ m) (m1 : m ≤ 9223372036854775807) (i : Int) (hi : cI .even x = i) (ho : cOk .even x = true) (c : -m ≤ i) (c' : i ≤ m) (w : World) (hx : x < 18446744073709551616) :
    Calls Tryz.prog 90 #[.float .f64 x, .int .i64 most] w fun e w' => e = .returned (.int .i64 (i)) ∧ ∃ n, w' = w.drewN n := by
  go_enter Tryz.func90, Tryz.ntmps90
  go_wp2_with fail
  refine (cIsNaN_any x _ hx).mono ?_
  rintro e w' ⟨rfl, rfl⟩
  go_wp2_with fail
  refine (round_at x i true _ hx hi ho).mono ?_
  rintro e w' ⟨rfl, k, rfl⟩
  go_wp2
  go_ret
  exact ⟨rfl, k, rfl⟩

theorem clamp_at (x : Nat) (most r : Int) (w : World) (hx : x < 18446744073709551616) (hm : most ≤ 9223372036854775807) (hr : clampB x most = r) :
    Calls Tryz.prog 90 #[.float .f64 x, .int .i64 most] w fun e w' => e = .returned (.int .i64 r) ∧ ∃ n, w' = w.drewN n := by
  subst hr
  unfold clampB
  have hm' : (if most < 0 then 0 else most) = clampM most := rfl
  have m0 : 0 ≤ clampM most := by unfold clampM; split <;> omega
  have m1 : clampM most ≤ 9223372036854775807 := by unfold clampM; split <;> omega
  generalize clampM most = m at *
  cases n : isN x
  · rw [if_neg (by decide)]
    cases ho : cOk .even x
    · have hi : cI .even x = 0 := by unfold cI; rw [ho]; rfl
      rw [if_neg (by decide)]
      cases g : fgt x 0
      · rw [if_neg (by decide)]; exact clamp_neg x most m n hm' m0 m1 hi ho g w hx
      · rw [if_pos rfl]; exact clamp_pos x most m n hm' m0 m1 hi ho g w hx
    · rw [if_pos rfl]
      by_cases c : cI .even x < -m
      · rw [show min (max (cI .even x) (-m)) m = -m by omega]
        exact clamp_lo x most m n hm' m0 m1 _ rfl ho c w hx
      · by_cases c2 : m < cI .even x
        · rw [show min (max (cI .even x) (-m)) m = m by omega]
          exact clamp_hi x most m n hm' m0 m1 _ rfl ho c2 w hx
        · rw [show min (max (cI .even x) (-m)) m = cI .even x by omega]
          exact clamp_in x most m n hm' m0 m1 _ rfl ho (by omega) (by omega) w hx
  · rw [if_pos rfl]; exact clamp_nan x most n w hx
end Go.Proofs.YtcmpiohiganliaaGreatDoor

namespace Go.Proofs.YtcmpiohiganliaaGreatDoor
open Tf

theorem sv_le_iff (x y : Nat) : sv x ≤ sv y ↔ rk x ≤ rk y := by
  have := sv_lt_iff y x
  omega
theorem cq_even_mono {x y : Nat} (h : sv x ≤ sv y) : cq .even x ≤ cq .even y := by
  by_cases c : cq .even x ≤ cq .even y
  · exact c
  · exfalso
    obtain ⟨a1, a2, a3⟩ := even_near x
    obtain ⟨b1, b2, b3⟩ := even_near y
    have o := onep
    have e : (cq .even y + 1) * one ≤ cq .even x * one := Int.mul_le_mul_of_nonneg_right (by omega) (by omega)
    rw [Int.add_mul, Int.one_mul] at e
    have p1 := a3 (.inr (by omega))
    have p2 := b3 (.inl (by omega))
    have e2 : cq .even x * one = (cq .even y + 1) * one := by rw [Int.add_mul, Int.one_mul]; omega
    have := Int.eq_of_mul_eq_mul_right (by omega) e2
    omega

/-- what has no rank below the least whole number of 64 bits, and none above the greatest -/
theorem cOk_rk (way : Ieee.Toward) (x : Nat) (hx : x < 18446744073709551616) (n : isN x = false) : cOk way x = (decide (-4890909195324358656 ≤ rk x) && decide (rk x < 4890909195324358656)) := by
  rw [cOk_wOk way x hx, wOk_rk x hx, n]; simp
theorem fgt_zero (x : Nat) (hx : x < 18446744073709551616) (n : isN x = false) : fgt x 0 = decide (0 < rk x) := by
  have e : rk 0 = 0 := by decide
  have n0 : isN 0 = false := by decide
  rw [fgt_rk x 0 hx (by decide), n, n0, e]; simp
theorem cI_eq (way : Ieee.Toward) (x : Nat) (h : cOk way x = true) : cI way x = cq way x := by unfold cI; rw [h, if_pos rfl]

theorem clampM_nonneg (most : Int) : 0 ≤ clampM most := by unfold clampM; split <;> omega
theorem clampB_num (x : Nat) (most : Int) (hx : x < 18446744073709551616) (n : isN x = false) :
    clampB x most = if rk x < -4890909195324358656 then -clampM most else if rk x < 4890909195324358656 then min (max (cq .even x) (-clampM most)) (clampM most) else clampM most := by
  have hm := clampM_nonneg most
  have hk := cOk_rk .even x hx n
  have hg := fgt_zero x hx n
  unfold clampB
  rw [n, if_neg (by decide)]
  by_cases c1 : rk x < -4890909195324358656
  · have o : cOk .even x = false := by rw [hk, decide_eq_false (by omega)]; rfl
    rw [if_pos c1, o, hg, if_neg (by decide), decide_eq_false (by omega), if_neg (by decide)]
  · rw [if_neg c1]
    by_cases c2 : rk x < 4890909195324358656
    · have o : cOk .even x = true := by rw [hk, decide_eq_true (by omega), decide_eq_true c2]; rfl
      rw [if_pos c2, o, if_pos rfl, cI_eq .even x o]
    · have o : cOk .even x = false := by rw [hk, decide_eq_false c2, Bool.and_false]
      rw [if_neg c2, o, hg, if_neg (by decide), decide_eq_true (by omega), if_pos rfl]
theorem clampB_mono (x y : Nat) (most : Int) (hx : x < 18446744073709551616) (hy : y < 18446744073709551616) (nx : isN x = false) (ny : isN y = false) (h : rk x ≤ rk y) : clampB x most ≤ clampB y most := by
  have hm := clampM_nonneg most
  have hc := cq_even_mono ((sv_le_iff x y).2 h)
  rw [clampB_num x most hx nx, clampB_num y most hy ny]
  repeat' split
  all_goals omega

end Go.Proofs.YtcmpiohiganliaaGreatDoor

namespace Go.Proofs.YtcmpiohiganliaaGreatDoor
open Tf Ieee
/-- a whole number as a float -/
def fw (n : Int) : Nat := rn false (n * one)
theorem R_one : R one = 4607182418800017408 := (R_mv 4607182418800017408 (by decide)).1
theorem mv_2_63 : mv 4890909195324358656 = 9223372036854775808 * one := by
  have h := mv_from_one 63 4890909195324358656 (by decide)
  have e : (2 : Nat) ^ 63 = 9223372036854775808 := by decide
  rw [e] at h
  exact h
theorem R_max : R (9223372036854775808 * one) = 4890909195324358656 := by
  have h := (R_mv 4890909195324358656 (by decide)).1
  rw [mv_2_63, Int.natCast_mul] at h
  exact h
theorem rn_nn {v : Int} (h : 0 ≤ v) : rn false v = (R v).toNat := by
  unfold rn R
  generalize min (rung 52 0 v.natAbs) 9218868437227405312 = m
  by_cases z : v = 0
  · rw [if_pos z, if_neg (by decide), if_neg (by omega), Int.toNat_natCast]
  · rw [if_neg z, decide_eq_false (by omega), if_neg (by decide), if_neg (by omega), Int.toNat_natCast]
theorem fw_R {n : Int} (h : 0 ≤ n) : fw n = (R (n * one)).toNat := rn_nn (Int.mul_nonneg h (Int.le_of_lt onep))
theorem fw_in {n : Int} (h1 : 1 ≤ n) (h2 : n ≤ 9223372036854775807) : 4607182418800017408 ≤ fw n ∧ fw n ≤ 4890909195324358656 := by
  have a := R_mono (Int.mul_le_mul_of_nonneg_right h1 (Int.le_of_lt onep))
  have b := R_mono (Int.mul_le_mul_of_nonneg_right (show n ≤ 9223372036854775808 by omega) (Int.le_of_lt onep))
  rw [Int.one_mul, R_one] at a
  rw [R_max] at b
  rw [fw_R (by omega)]
  omega
end Go.Proofs.YtcmpiohiganliaaGreatDoor

namespace Go.Proofs.YtcmpiohiganliaaGreatDoor
open Tf Ieee
theorem fle_of {x y : Nat} (hx : x < 18446744073709551616) (hy : y < 18446744073709551616) (nx : isN x = false) (ny : isN y = false) : (flt x y || feq x y) = decide (rk x ≤ rk y) := by
  rw [flt_rk x y hx hy, feq_rk x y hx hy, nx, ny]
  by_cases c : rk x < rk y
  · rw [decide_eq_true c, decide_eq_true (p := rk x ≤ rk y) (by omega)]; rfl
  · rw [decide_eq_false c]
    by_cases d : rk x = rk y
    · rw [decide_eq_true d, decide_eq_true (p := rk x ≤ rk y) (by omega)]; rfl
    · rw [decide_eq_false d, decide_eq_false (p := rk x ≤ rk y) (by omega)]; rfl
theorem fge_of {x y : Nat} (hx : x < 18446744073709551616) (hy : y < 18446744073709551616) (nx : isN x = false) (ny : isN y = false) : (fgt x y || feq x y) = decide (rk y ≤ rk x) := by
  rw [fgt_rk x y hx hy, feq_rk x y hx hy, nx, ny]
  by_cases c : rk y < rk x
  · rw [decide_eq_true c, decide_eq_true (p := rk y ≤ rk x) (by omega)]; rfl
  · rw [decide_eq_false c]
    by_cases d : rk x = rk y
    · rw [decide_eq_true d, decide_eq_true (p := rk y ≤ rk x) (by omega)]; rfl
    · rw [decide_eq_false d, decide_eq_false (p := rk y ≤ rk x) (by omega)]; rfl
end Go.Proofs.YtcmpiohiganliaaGreatDoor

namespace Go.Proofs.YtcmpiohiganliaaGreatDoor
open Tf
namespace Ss
/-- a float that lies from lo to hi, and isn't -0 -/
def btw (x lo hi : Nat) : Bool := (fgt x lo || feq x lo) && (flt x hi || feq x hi) && decide (x ≠ 9223372036854775808)
/-- the first of n places at which p is true; -1 -/
def fp (p : Nat → Bool) (n : Nat) : Int := match (List.range n).find? p with
  | some i => (i : Int)
  | none => -1
theorem fp_hit {p : Nat → Bool} {n k : Nat} (h : ∀ i, i < k → p i = false) (hk : p k = true) (hn : k < n) : fp p n = (k : Nat) := by
  have e : (List.range n).find? p = some k := by
    rw [List.find?_range_eq_some]
    exact ⟨hk, List.mem_range.2 hn, fun j hj => by rw [h j hj]; rfl⟩
  unfold fp
  rw [e]
theorem fp_none {p : Nat → Bool} {n : Nat} (h : ∀ i, i < n → p i = false) : fp p n = -1 := by
  have e : (List.range n).find? p = none := by
    rw [List.find?_eq_none]
    intro x hx
    rw [h x (List.mem_range.1 hx)]
    decide
  unfold fp
  rw [e]
theorem fp_cases (p : Nat → Bool) (n : Nat) : (fp p n = -1 ∧ ∀ i, i < n → p i = false) ∨ ∃ k, k < n ∧ fp p n = (k : Nat) ∧ p k = true ∧ ∀ i, i < k → p i = false := by
  cases e : (List.range n).find? p with
  | none =>
    refine .inl ⟨by unfold fp; rw [e], fun i hi => ?_⟩
    have := List.find?_eq_none.1 e i (List.mem_range.2 hi)
    cases q : p i with
    | false => rfl
    | true => exact absurd q this
  | some k =>
    obtain ⟨h1, h2, h3⟩ := List.find?_range_eq_some.1 e
    refine .inr ⟨k, List.mem_range.1 h2, by unfold fp; rw [e], h1, fun i hi => ?_⟩
    have := h3 i hi
    cases q : p i with
    | false => rfl
    | true => rw [q] at this; cases this
theorem fp_neg {p : Nat → Bool} {n : Nat} (h : fp p n < 0) : ∀ i, i < n → p i = false := by
  rcases fp_cases p n with ⟨_, q⟩ | ⟨k, _, e, _⟩
  · exact q
  · omega
theorem fp_ge (p : Nat → Bool) (n : Nat) : -1 ≤ fp p n ∧ fp p n < n := by
  rcases fp_cases p n with ⟨e, _⟩ | ⟨k, hk, e, _⟩ <;> omega
/-- a bed, a speed that can't be -/
def bB (B : Nat → Nat) (i : Nat) : Bool := !btw (B i) 13920626448202203136 4697254411347427328
def bS (S : Nat → Nat) (i : Nat) : Bool := !btw (S i) 13875590451928498176 4652218415073722368
/-- water that can't be, with what is there already -/
def bQ (W : Nat → Int) (th : Int) (i : Nat) : Bool := decide (W i < 0) || decide (4503599627370496 - (th + Sh.sumN W i) < W i)
/-- the place of the first fault of a sea of N cells, and its error -/
def chN (N : Nat) (lb lw lt ls : Nat) (B : Nat → Nat) (W T : Nat → Int) (S : Nat → Nat) (sky st : Int) : Int × Int :=
  if lb ≠ N then (0, 12) else if lw ≠ N then (1, 12) else if lt ≠ N then (2, 12) else if ls ≠ 2 * N then (3, 12)
  else if 0 ≤ fp (bB B) N then (fp (bB B) N, 13)
  else if sky < 0 ∨ 4503599627370496 < sky then (0, 17)
  else if 0 ≤ fp (bQ W sky) N then (fp (bQ W sky) N, 14)
  else if 0 ≤ fp (bQ T 0) N then (fp (bQ T 0) N, 15)
  else if 0 ≤ fp (bS S) (2 * N) then (fp (bS S) (2 * N), 16)
  else if st < 0 ∨ 4611686018427387904 < st then (0, 1) else (0, 0)
/-- what Check answers -/
def chk (side : Int) (lb lw lt ls : Nat) (B : Nat → Nat) (W T : Nat → Int) (S : Nat → Nat) (sky st : Int) : Int × Int :=
  if 1 ≤ side ∧ side ≤ 32 then chN (6 * side.toNat * side.toNat) lb lw lt ls B W T S sky st else (0, 10)
/-- numbers that can be a sea of N cells -/
def okN (N : Nat) (B : Nat → Nat) (W T : Nat → Int) (S : Nat → Nat) (sky st : Int) : Prop :=
  (∀ i, i < N → bB B i = false) ∧ (0 ≤ sky ∧ sky ≤ 4503599627370496) ∧ ((∀ i, i < N → 0 ≤ W i) ∧ sky + Sh.sumN W N ≤ 4503599627370496) ∧ Rv.okV N T ∧ (∀ i, i < 2 * N → bS S i = false) ∧ 0 ≤ st ∧ st ≤ 4611686018427387904
theorem bQ_none {W : Nat → Int} {th : Int} {n : Nat} (ht : th ≤ 4503599627370496) : (∀ i, i < n → bQ W th i = false) ↔ (∀ i, i < n → 0 ≤ W i) ∧ th + Sh.sumN W n ≤ 4503599627370496 := by
  constructor
  · intro h
    have f : ∀ i, i < n → 0 ≤ W i ∧ th + Sh.sumN W i + W i ≤ 4503599627370496 := fun i hi => by
      have := h i hi
      unfold bQ at this
      rw [Bool.or_eq_false_iff, decide_eq_false_iff_not, decide_eq_false_iff_not] at this
      omega
    refine ⟨fun i hi => (f i hi).1, ?_⟩
    cases n with
    | zero => show th + 0 ≤ _; omega
    | succ m =>
      have := (f m (by omega)).2
      show th + (Sh.sumN W m + W m) ≤ _
      omega
  · rintro ⟨h1, h2⟩ i hi
    have m := Sh.sumN_mono h1 (m := i + 1) (by omega)
    have e : Sh.sumN W (i + 1) = Sh.sumN W i + W i := rfl
    have := h1 i hi
    unfold bQ
    rw [Bool.or_eq_false_iff, decide_eq_false_iff_not, decide_eq_false_iff_not]
    omega
/-- a sea can be just if Check finds nothing -/
theorem chN_ok {N lb lw lt ls : Nat} {B : Nat → Nat} {W T : Nat → Int} {S : Nat → Nat} {sky st : Int} :
    (chN N lb lw lt ls B W T S sky st).2 = 0 ↔ (lb = N ∧ lw = N ∧ lt = N ∧ ls = 2 * N) ∧ okN N B W T S sky st := by
  unfold chN
  by_cases h1 : lb = N
  · rw [if_neg (by omega)]
    by_cases h2 : lw = N
    · rw [if_neg (by omega)]
      by_cases h3 : lt = N
      · rw [if_neg (by omega)]
        by_cases h4 : ls = 2 * N
        · rw [if_neg (by omega)]
          by_cases h5 : 0 ≤ fp (bB B) N
          · rw [if_pos h5]
            refine ⟨fun q => by simp at q, fun q => ?_⟩
            rw [fp_none q.2.1] at h5
            omega
          · rw [if_neg h5]
            have k5 := fp_neg (p := bB B) (n := N) (by omega)
            by_cases h6 : sky < 0 ∨ 4503599627370496 < sky
            · rw [if_pos h6]
              refine ⟨fun q => by simp at q, fun q => ?_⟩
              have := q.2.2.1
              omega
            · rw [if_neg h6]
              by_cases h7 : 0 ≤ fp (bQ W sky) N
              · rw [if_pos h7]
                refine ⟨fun q => by simp at q, fun q => ?_⟩
                rw [fp_none ((bQ_none (by omega)).2 q.2.2.2.1)] at h7
                omega
              · rw [if_neg h7]
                have k7 := (bQ_none (by omega)).1 (fp_neg (p := bQ W sky) (n := N) (by omega))
                by_cases h8 : 0 ≤ fp (bQ T 0) N
                · rw [if_pos h8]
                  refine ⟨fun q => by simp at q, fun q => ?_⟩
                  rw [fp_none ((bQ_none (by omega)).2 ⟨q.2.2.2.2.1.1, by have := q.2.2.2.2.1.2; omega⟩)] at h8
                  omega
                · rw [if_neg h8]
                  have k8 := (bQ_none (th := 0) (by omega)).1 (fp_neg (p := bQ T 0) (n := N) (by omega))
                  by_cases h9 : 0 ≤ fp (bS S) (2 * N)
                  · rw [if_pos h9]
                    refine ⟨fun q => by simp at q, fun q => ?_⟩
                    rw [fp_none q.2.2.2.2.2.1] at h9
                    omega
                  · rw [if_neg h9]
                    have k9 := fp_neg (p := bS S) (n := 2 * N) (by omega)
                    by_cases h10 : st < 0 ∨ 4611686018427387904 < st
                    · rw [if_pos h10]
                      refine ⟨fun q => by simp at q, fun q => ?_⟩
                      have := q.2.2.2.2.2.2
                      omega
                    · rw [if_neg h10]
                      exact ⟨fun _ => ⟨⟨h1, h2, h3, h4⟩, k5, ⟨by omega, by omega⟩, k7, ⟨k8.1, by have := k8.2; omega⟩, k9, by omega, by omega⟩, fun _ => rfl⟩
        · rw [if_pos h4]
          exact ⟨fun q => by simp at q, fun q => absurd q.1.2.2.2 h4⟩
      · rw [if_pos h3]
        exact ⟨fun q => by simp at q, fun q => absurd q.1.2.2.1 h3⟩
    · rw [if_pos h2]
      exact ⟨fun q => by simp at q, fun q => absurd q.1.2.1 h2⟩
  · rw [if_pos h1]
    exact ⟨fun q => by simp at q, fun q => absurd q.1.1 h1⟩
theorem chN_zero {N lb lw lt ls : Nat} {B : Nat → Nat} {W T : Nat → Int} {S : Nat → Nat} {sky st : Int} (h : (lb = N ∧ lw = N ∧ lt = N ∧ ls = 2 * N) ∧ okN N B W T S sky st) : chN N lb lw lt ls B W T S sky st = (0, 0) := by
  obtain ⟨⟨rfl, rfl, rfl, rfl⟩, o1, o2, o3, o4, o5, o6⟩ := h
  unfold chN
  rw [if_neg (by omega), if_neg (by omega), if_neg (by omega), if_neg (by omega), if_neg (by rw [fp_none o1]; omega), if_neg (by omega), if_neg (by rw [fp_none ((bQ_none (by omega)).2 o3)]; omega), if_neg (by rw [fp_none ((bQ_none (by omega)).2 ⟨o4.1, by have := o4.2; omega⟩)]; omega), if_neg (by rw [fp_none o5]; omega), if_neg (by omega)]
/-- whether a rain can be, in n cells -/
def rB (n : Int) (r : Int × Int × Int × Int) : Bool := decide (0 ≤ r.1) && decide (r.1 < n) && decide (-4503599627370496 ≤ r.2.1) && decide (r.2.1 ≤ 4503599627370496) && decide (0 ≤ r.2.2.1) && decide (r.2.2.1 ≤ r.2.2.2)
/-- what Plan answers -/
def plE (sd : Int) (dt gr dr : Nat) (lim : Int) (lr : Nat) (R : Nat → Int × Int × Int × Int) : Int :=
  if ¬ (1 ≤ sd ∧ sd ≤ 32) then 10
  else if ¬ (btw dt 0 4652218415073722368 = true ∧ feq dt 0 = false ∧ btw gr 0 4652218415073722368 = true ∧ btw dr 0 4652218415073722368 = true ∧ (0 ≤ lim ∧ lim ≤ 3)) then 11
  else if ¬ (lr ≤ 1024 ∧ ∀ k, k < lr → rB ((6 * sd.toNat * sd.toNat : Nat) : Int) (R k) = true) then 18 else 0
/-- the same numbers -/
def eqL {α : Type} [DecidableEq α] (n m : Nat) (f g : Nat → α) : Bool := decide (n = m ∧ ∀ i, i < n → f i = g i)
end Ss
end Go.Proofs.YtcmpiohiganliaaGreatDoor

namespace Go.Proofs.YtcmpiohiganliaaGreatDoor
open Tf Ieee
/-- Leer above nothing, ahead of the look whether it is finite -/
def leer (a b : Nat) : Nat := dvB (mlB (mlB 4611686018427387904 a) b) (plB a b)
end Go.Proofs.YtcmpiohiganliaaGreatDoor

namespace Go.Proofs.YtcmpiohiganliaaGreatDoor
open Tf Ieee
theorem canon_nn {r : Nat} (h : r ≤ 9218868437227405312) : canonB r = r := by
  have mr : mg r = r := mg_of_lt (by omega)
  unfold canonB
  rw [mr, if_neg (by unfold isN; rw [mr]; simp; omega)]
  split <;> omega
theorem ml_nn {x y : Nat} (hx : x ≤ 9218868437227405312) (hy : y ≤ 9218868437227405312) (x0 : 0 < x) (y0 : 0 < y) : mlB x y ≤ 9218868437227405312 := by
  have mx : mg x = x := mg_of_lt (by omega)
  have my : mg y = y := mg_of_lt (by omega)
  have nx : ng x = false := ng_of_lt (by omega)
  have ny : ng y = false := ng_of_lt (by omega)
  have hi : infW (false ^^ false) = 9218868437227405312 := by decide
  by_cases cx : x = 9218868437227405312
  · by_cases cy : y = 9218868437227405312
    · have e := mul_ii x y (by omega) (by omega) (by omega) (by omega)
      rw [mlB_some e, nx, ny, hi]
      exact Nat.le_refl _
    · have e := mul_if x y (by omega) (by omega) (by omega) (by omega)
      rw [if_neg (by omega)] at e
      rw [mlB_some e, nx, ny, hi]
      exact Nat.le_refl _
  · by_cases cy : y = 9218868437227405312
    · have e := mul_fi x y (by omega) (by omega) (by omega) (by omega)
      rw [if_neg (by omega)] at e
      rw [mlB_some e, nx, ny, hi]
      exact Nat.le_refl _
    · rw [ml_word (by omega) (by omega)]
      exact Nat.min_le_right _ _
end Go.Proofs.YtcmpiohiganliaaGreatDoor
