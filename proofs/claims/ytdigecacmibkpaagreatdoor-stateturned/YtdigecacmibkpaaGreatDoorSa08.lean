/-
  Some of the texts of this proof, one behind the other.
-/
import Derived.Test.YtdigecacmibkpaaGreatDoorSa07
namespace Go.Proofs.YtdigecacmibkpaaGreatDoor
open Go.RowKit Cu Tf
/-- the Left's side of the edge of a number -/
def edT (n k : Nat) : Nat := ((List.range (24 * n * n)).find? (fun t => isL n t && eN n t == k)).getD 0
theorem edT_spec {n k : Nat} (hn : 1 ≤ n) (hk : k < 12 * n * n) : edT n k < 24 * n * n ∧ isL n (edT n k) = true ∧ eN n (edT n k) = k := by
  obtain ⟨t, h1, h2, h3⟩ := ed_ex hn hk
  unfold edT
  cases h : (List.range (24 * n * n)).find? (fun t => isL n t && eN n t == k) with
  | none =>
    have := List.find?_eq_none.1 h t (List.mem_range.2 h1)
    simp [h2, h3] at this
  | some u =>
    have h4 := List.find?_some h
    have h5 := List.mem_range.1 (List.mem_of_find?_eq_some h)
    simp at h4
    exact ⟨h5, h4.1, h4.2⟩
theorem edT_eN {n t : Nat} (hn : 1 ≤ n) (ht : t < 24 * n * n) (hl : isL n t = true) : edT n (eN n t) = t := by
  obtain ⟨h1, h2, h3⟩ := edT_spec hn (ed_lt hn ht hl)
  exact eN_inj h2 hl h3
theorem made_two (w : World) (N : Nat) : (w.alloc (.cells (madeCells #[.int .i64 0, .int .i64 0] (N * 2)) 97)).rowIs w.heap.size 97 (N * 2) (fun _ => .int .i64 0) := by
  refine ⟨_, heap_alloc_new _ _, size_madeCells _ _, fun i hi => ?_⟩
  have h2 : i % 2 = 0 ∨ i % 2 = 1 := by omega
  rcases h2 with h2 | h2 <;> simp [madeCells, hi, h2]
set_option maxHeartbeats 4000000 in
theorem listed_two (N gb : Nat) (f g : Nat → Int) (w : World) (hN : (N : Int) ≤ 12288)
    (H : Hid (∀ k : Nat, k < N → ∀ w', Ab w w' → Calls Tryz.prog 68 #[.pointer (some ⟨gb, 0, none⟩), .int .i64 k] w' fun e w'' => e = .returned (.agg #[.int .i64 (f k), .int .i64 (g k)]) ∧ Below w'.heap.size w' w'')) :
    Calls Tryz.prog 67 #[.int .i64 N, .func (.func 68) #[.pointer (some ⟨gb, 0, none⟩)] #[]] w fun e w' => e = .returned (.slice (some ⟨w.heap.size, 0, none⟩) N N) ∧ Below w.heap.size w w' ∧ w'.rowIs w.heap.size 97 (N * 2) (fun i => .int .i64 (if i % 2 = 0 then f (i / 2) else g (i / 2))) := by
  obtain ⟨i0, hi, hz0, hz1, hz2⟩ := info_parts infoTwo
  have MK := run_make (P := Tryz.prog) w 91 97 i0 (.agg #[.int .i64 0, .int .i64 0]) Tryz.underlying91 hi hz0 .i64 .i64 N N (by omega) (Int.le_refl _) (by rw [hz2]; omega) (by omega)
  rw [hz1] at MK
  simp only [Int.toNat_natCast] at MK
  have e0 : (Value.agg #[.int .i64 0, .int .i64 0]).cells = #[.int .i64 0, .int .i64 0] := rfl
  rw [e0] at MK
  clear hi hz0 hz1 hz2 e0
  obtain ⟨ob, hob⟩ : ∃ b, w.heap.size = b := ⟨_, rfl⟩
  have RW : Hid ((w.alloc (.cells (madeCells #[.int .i64 0, .int .i64 0] (N * 2)) 97)).rowIs ob 97 (N * 2) (fun _ => .int .i64 0)) := by rw [← hob]; exact made_two _ _
  have A0 : Hid (Ab w (w.alloc (.cells (madeCells #[.int .i64 0, .int .i64 0] (N * 2)) 97))) := bl1 w _
  have HO : Hid (w.heap.size ≤ ob) := Nat.le_of_eq hob
  generalize w.alloc (.cells (madeCells #[.int .i64 0, .int .i64 0] (N * 2)) 97) = wm at *
  go_enter Tryz.func67, Tryz.ntmps67
  go_wp2
  have HB := hid hob
  clear MK hob
  go_loopw [11] (fun iv wr => ∃ k : Nat, k ≤ N ∧ iv = .int .i64 (k : Nat) ∧ Ab w wr ∧ wr.rowIs ob 97 (N * 2) (fun i => .int .i64 (if i / 2 < k then (if i % 2 = 0 then f (i / 2) else g (i / 2)) else 0))) (fun iv _ => N - (intOf iv).toNat)
  case atStart => exact ⟨0, by omega, rfl, A0.out, RW.out.congr (fun i _ => by simp)⟩
  case round =>
    obtain ⟨k, hk, rfl, A, R⟩ := hrel
    have A1 := hid A
    have R1 := hid R
    clear A R A0 RW
    by_cases hkN : k < N
    · have hkN' : (k : Int) < N := by omega
      have C := hid (H.out k hkN wr A1.out)
      have HK := hid hkN
      go_wp2_with fail
      refine C.out.mono ?_
      rintro e w1 ⟨rfl, b1⟩
      have A2 : Hid (Ab w w1) := A1.out.call b1
      have R2 := hid (rowIs.ab R1.out b1)
      have x1 := R2.out.cell (i := k * 2) (by omega)
      have x2 := R2.out.frozen (k * 2)
      have x3 := R2.out.cell (i := k * 2 + 1) (by omega)
      have x4 := R2.out.frozen (k * 2 + 1)
      clear b1 C A1 R1 hkN
      go_wp2
      go_roundw
      case rel =>
        refine ⟨k + 1, by omega, by simp, Ab.setk (Ab.setk A2.out HO.out _) HO.out _, ((R2.out.set (k * 2) (.int .i64 (f k))).set (k * 2 + 1) (.int .i64 (g k))).congr (fun i _ => ?_)⟩
        have q1 : (k * 2) / 2 = k := by omega
        have q2 : (k * 2 + 1) / 2 = k := by omega
        by_cases e1 : i = k * 2 + 1
        · subst e1
          simp [q2]
        · by_cases e2 : i = k * 2
          · subst e2; simp [q1]
          · have e3 : (i / 2 < k + 1) ↔ i / 2 < k := by omega
            simp [e1, e2, e3]
      case measure => have := HK.out; simp [intOf]; omega
    · obtain rfl : k = N := by omega
      go_wp2
      go_ret
      rw [HB.out]
      refine ⟨rfl, by have h := A1.out; unfold Ab at h; rw [HB.out] at h; exact h, R1.out.congr (fun i hi => ?_)⟩
      have : i / 2 < k := by omega
      simp [this]
end Go.Proofs.YtdigecacmibkpaaGreatDoor

namespace Go.Proofs.YtdigecacmibkpaaGreatDoor
open Go.RowKit Cu Tf
def bhC (n i : Nat) : Int := if i % 2 = 0 then (bsC n (edT n (i / 2) / 4) ((edT n (i / 2) % 4 + 2) % 4) : Nat) else (bsC n (bsC n (edT n (i / 2) / 4) (edT n (i / 2) % 4)) ((bsS n (edT n (i / 2) / 4) (edT n (i / 2) % 4) + 2) % 4) : Nat)
/-- a net of side n lies in block gb -/
def GridOf (n gb : Nat) (w : World) : Prop :=
  ∃ mb eb cap m bb ab lb pb, GX n gb mb eb cap m (.slice (some ⟨bb, 0, none⟩) (12 * n * n) (12 * n * n)) (.slice (some ⟨ab, 0, none⟩) (6 * n * n) (6 * n * n)) (.slice (some ⟨lb, 0, none⟩) (12 * n * n) (12 * n * n)) (.slice (some ⟨pb, 0, none⟩) (12 * n * n) (12 * n * n)) w ∧
    w.rowIs bb 97 (12 * n * n * 2) (fun i => .int .i64 (bhC n i)) ∧ w.rowIs ab 2 (6 * n * n) (fun k => .int .i64 (arI (ArC n k))) ∧
    w.rowIs lb 22 (12 * n * n) (fun k => .float .f64 (LnC n (edT n k / 4) (edT n k % 4))) ∧ w.rowIs pb 22 (12 * n * n) (fun k => .float .f64 (GpC n (edT n k / 4) (edT n k % 4)))
theorem GridOf.to {n gb : Nat} {w w' : World} (h : GridOf n gb w) (a : Ab w w') : GridOf n gb w' := by
  obtain ⟨mb, eb, cap, m, bb, ab, lb, pb, h1, h2, h3, h4, h5⟩ := h
  exact ⟨mb, eb, cap, m, bb, ab, lb, pb, h1.to a, rowIs.ab h2 a, rowIs.ab h3 a, rowIs.ab h4 a, rowIs.ab h5 a⟩
theorem EG.set {w : World} {n eb gb k : Nat} {v : Value} (h : EG w n eb) (hne : gb ≠ eb) : EG (w.setCell ⟨gb, k, none⟩ v) n eb := by
  have hb : (w.setCell ⟨gb, k, none⟩ v).heap[eb]? = w.heap[eb]? := Below.heap_setCell _ _ _ _ (fun e => hne e.symm)
  refine ⟨by simpa [World.setCell] using h.1, fun t ht hl => ?_⟩
  have hc : ∀ j, (w.setCell ⟨gb, k, none⟩ v).cell? ⟨eb, j, none⟩ = w.cell? ⟨eb, j, none⟩ := fun j => World.cell?_of_block (by exact hb)
  simp only [hc]
  exact h.2 t ht hl
theorem GX.put3 {n gb mb eb cap m : Nat} {v3 v4 v5 v6 : Value} {w : World} (h : GX n gb mb eb cap m v3 v4 v5 v6 w) (v : Value) : GX n gb mb eb cap m v v4 v5 v6 (w.setCell ⟨gb, 3, none⟩ v) := by
  obtain ⟨h1, h2, h3, h4, h5, h6, h7⟩ := h
  refine ⟨?_, h2.set h7, h3.block (Below.heap_setCell _ _ _ _ (fun e => h6 e.symm)), h4, h5, h6, h7⟩
  have := one_set (v := v) (k := 3) h1
  simpa using this
theorem GX.put4 {n gb mb eb cap m : Nat} {v3 v4 v5 v6 : Value} {w : World} (h : GX n gb mb eb cap m v3 v4 v5 v6 w) (v : Value) : GX n gb mb eb cap m v3 v v5 v6 (w.setCell ⟨gb, 4, none⟩ v) := by
  obtain ⟨h1, h2, h3, h4, h5, h6, h7⟩ := h
  refine ⟨?_, h2.set h7, h3.block (Below.heap_setCell _ _ _ _ (fun e => h6 e.symm)), h4, h5, h6, h7⟩
  have := one_set (v := v) (k := 4) h1
  simpa using this
theorem GX.put5 {n gb mb eb cap m : Nat} {v3 v4 v5 v6 : Value} {w : World} (h : GX n gb mb eb cap m v3 v4 v5 v6 w) (v : Value) : GX n gb mb eb cap m v3 v4 v v6 (w.setCell ⟨gb, 5, none⟩ v) := by
  obtain ⟨h1, h2, h3, h4, h5, h6, h7⟩ := h
  refine ⟨?_, h2.set h7, h3.block (Below.heap_setCell _ _ _ _ (fun e => h6 e.symm)), h4, h5, h6, h7⟩
  have := one_set (v := v) (k := 5) h1
  simpa using this
theorem GX.put6 {n gb mb eb cap m : Nat} {v3 v4 v5 v6 : Value} {w : World} (h : GX n gb mb eb cap m v3 v4 v5 v6 w) (v : Value) : GX n gb mb eb cap m v3 v4 v5 v  (w.setCell ⟨gb, 6, none⟩ v) := by
  obtain ⟨h1, h2, h3, h4, h5, h6, h7⟩ := h
  refine ⟨?_, h2.set h7, h3.block (Below.heap_setCell _ _ _ _ (fun e => h6 e.symm)), h4, h5, h6, h7⟩
  have := one_set (v := v) (k := 6) h1
  simpa using this
theorem GX.fr {n gb mb eb cap m : Nat} {v3 v4 v5 v6 : Value} {w : World} (h : GX n gb mb eb cap m v3 v4 v5 v6 w) (k : Nat) : w.frozen? ⟨gb, k, none⟩ = false := free_row h.1 k
theorem makeMap_at (k : Int) (w : World) : (Instr.makeMap 89 (some (.int .i64 k))).run Tryz.prog w = .ok (.map (some w.heap.size)) (w.alloc (.map #[] 0)) := by
  simp [Instr.makeMap, run_underlying Tryz.underlying89, asInt, asIntOf]
theorem ge_start (n : Nat) (w : World) : GE w.heap.size n 0 (w.heap.size + 1) w.heap.size (.slice none 0 0) (.slice none 0 0) (.slice none 0 0) (.slice none 0 0) (.slice none 0 0) ((w.alloc (.map #[] 0)).alloc (.cells #[.int .i64 n, .slice none 0 0, .map (some w.heap.size), .slice none 0 0, .slice none 0 0, .slice none 0 0, .slice none 0 0] 93)) := by
  refine ⟨heap_alloc2_new _ _ _, World.ownsRow_nil _ _ _ _, ?_, ⟨by omega, by omega, by omega⟩, by simp [Value.ownBlock], by simp [Value.ownBlock]⟩
  have h := (MapIs.made w).congr (g' := gT n 0) (fun c s _ _ => (gT_zero n c s).symm)
  exact h.block (Below.heap_alloc _ _ _ (by simp))
theorem ge_start_ab (n : Nat) (w : World) : Ab w ((w.alloc (.map #[] 0)).alloc (.cells #[.int .i64 n, .slice none 0 0, .map (some w.heap.size), .slice none 0 0, .slice none 0 0, .slice none 0 0, .slice none 0 0] 93)) := bl2 _ _ _
set_option maxRecDepth 100000 in
set_option maxHeartbeats 8000000 in
theorem new_at (n : Nat) (w : World) (hn : 1 ≤ n ∧ n ≤ 32) (hF : Fr w) :
    Calls Tryz.prog 23 #[.int .i64 n] w fun e w' => ∃ gb, e = .returned (.tuple #[.pointer (some ⟨gb, 0, none⟩), .int .i64 0]) ∧ Ab w w' ∧ w.heap.size ≤ gb ∧ GridOf n gb w' := by
  have CE := hid (fun u => cells_nat n hn u)
  have h12 := n12 hn
  obtain ⟨N, hN⟩ : ∃ N, 6 * n * n = N := ⟨_, rfl⟩
  rw [hN] at CE
  have hN1 : (N : Int) ≤ 6144 := by omega
  have hN0 : (N : Int) ≠ 0 := by omega
  have HF := hid hF
  have Hn := hid hn
  have HN := hid hN
  have H12 := hid h12
  have hmm := makeMap_at (4 * (N : Int))
  have AE := hid (addEdges_at n N (w.heap.size + 1) w.heap.size (.slice none 0 0) (.slice none 0 0) (.slice none 0 0) (.slice none 0 0) w _ hn hN.symm hF (ge_start_ab n w) (ge_start n w))
  clear hn hF hN h12
  go_enter Tryz.func23, Tryz.ntmps23
  go_wp2_with (go_at_call 29; refine (CE.out _).mono ?_; rintro e w' ⟨rfl, hw⟩; have hw2 := hw.symm; subst hw2)
  refine AE.out.mono ?_
  rintro e w1 ⟨rfl, A1, es, G1⟩
  obtain ⟨eb, cap, -, rfl, G2⟩ := G1.all Hn.out.1
  have G := hid G2
  have A := hid A1
  obtain ⟨M, hM⟩ : ∃ M, 12 * n * n = M := ⟨_, rfl⟩
  have HM := hid hM
  have hM1 : (M : Int) ≤ 12288 := by have := H12.out.1; omega
  clear A1 G1 G2 AE CE hmm hM
  have LL := hid (listed_area N (w.heap.size + 1) (fun k => arI (ArC n k)) w1 (by omega) (fun k hk u hu => areaOf_at n (w.heap.size + 1) k u Hn.out (by rw [HN.out]; exact hk) (G.out.to hu).cells.1))
  go_wp2_with fail
  refine LL.out.mono ?_
  rintro e w2 ⟨rfl, b2, R2⟩
  obtain ⟨bA, hbA⟩ : ∃ b, w1.heap.size = b := ⟨_, rfl⟩
  have hlt := lt_of_block G.out.1
  have HA : Hid (bA ≠ w.heap.size + 1) := by show _ ≠ _; omega
  rw [hbA] at R2
  rw [hbA]
  have x1 := (G.out.to b2).cells.2.2.2.2.1
  have x2 := (G.out.to b2).fr 4
  go_upto_region 7 with fail
  obtain ⟨uA, huA⟩ : ∃ v, w2.setCell ⟨w.heap.size + 1, 4, none⟩ (.slice (some ⟨bA, 0, none⟩) N N) = v := ⟨_, rfl⟩
  rw [huA]
  have G' := hid ((G.out.to b2).put4 (.slice (some ⟨bA, 0, none⟩) N N))
  have RA := hid (R2.setOther (a := ⟨w.heap.size + 1, 4, none⟩) HA.out (.slice (some ⟨bA, 0, none⟩) N N))
  have A' := hid (Ab.setk (A.out.call b2) (g := w.heap.size + 1) (k := 4) (by omega) (.slice (some ⟨bA, 0, none⟩) N N))
  rw [huA] at G' RA A'
  clear LL R2 hlt G A hbA x1 x2 b2 huA
  clear w2 w1
  have G := G'
  have A := A'
  clear G' A'
  have c1 := G.out.cells.2.1
  rw [HM.out] at c1
  have LL := hid (listed_two M (w.heap.size + 1) (fun k => (bsC n (edT n k / 4) ((edT n k % 4 + 2) % 4) : Nat)) (fun k => (bsC n (bsC n (edT n k / 4) (edT n k % 4)) ((bsS n (edT n k / 4) (edT n k % 4) + 2) % 4) : Nat)) uA (by omega) (fun k hk u hu => by obtain ⟨e1, e2, e3⟩ := edT_spec Hn.out.1 (k := k) (by rw [HM.out]; exact hk); have h := cellsBehind_at n _ _ _ _ _ (edT n k) _ _ _ _ u Hn.out e1 e2 (G.out.to hu); rw [e3] at h; exact h))
  go_wp2_with fail
  refine LL.out.mono ?_
  rintro e w2 ⟨rfl, b2, R2⟩
  clear c1
  obtain ⟨bB, hbB⟩ : ∃ b, uA.heap.size = b := ⟨_, rfl⟩
  have hlt := lt_of_block G.out.1
  have HB : Hid (bB ≠ w.heap.size + 1) := by show _ ≠ _; omega
  rw [hbB] at R2
  rw [hbB]
  have x1 := (G.out.to b2).cells.2.2.2.1
  have x2 := (G.out.to b2).fr 3
  go_upto_region 8 with fail
  obtain ⟨uB, huB⟩ : ∃ v, w2.setCell ⟨w.heap.size + 1, 3, none⟩ (.slice (some ⟨bB, 0, none⟩) M M) = v := ⟨_, rfl⟩
  rw [huB]
  have G' := hid ((G.out.to b2).put3 (.slice (some ⟨bB, 0, none⟩) M M))
  have RB := hid (R2.setOther (a := ⟨w.heap.size + 1, 3, none⟩) HB.out (.slice (some ⟨bB, 0, none⟩) M M))
  have RA' := hid ((rowIs.ab RA.out b2).setOther (a := ⟨w.heap.size + 1, 3, none⟩) HA.out (.slice (some ⟨bB, 0, none⟩) M M))
  have A' := hid (Ab.setk (A.out.call b2) (g := w.heap.size + 1) (k := 3) (by omega) (.slice (some ⟨bB, 0, none⟩) M M))
  rw [huB] at G' RB A' RA'
  clear LL R2 hlt G A hbB x1 x2 b2 huB RA
  clear w2 uA
  have G := G'
  have A := A'
  have RA := RA'
  clear G' A' RA'
  have c1 := G.out.cells.2.1
  rw [HM.out] at c1
  have LL := hid (listed_len M (w.heap.size + 1) (fun k => LnC n (edT n k / 4) (edT n k % 4)) uB (by omega) (fun k hk u hu => by obtain ⟨e1, e2, e3⟩ := edT_spec Hn.out.1 (k := k) (by rw [HM.out]; exact hk); have h := lengthOf_at n _ _ _ _ _ (edT n k) _ _ _ _ u Hn.out e1 e2 (HF.out.to (A.out.trans hu)) (G.out.to hu); rw [e3] at h; exact h))
  go_wp2_with fail
  refine LL.out.mono ?_
  rintro e w2 ⟨rfl, b2, R2⟩
  clear c1
  obtain ⟨bL, hbL⟩ : ∃ b, uB.heap.size = b := ⟨_, rfl⟩
  have hlt := lt_of_block G.out.1
  have HL : Hid (bL ≠ w.heap.size + 1) := by show _ ≠ _; omega
  rw [hbL] at R2
  rw [hbL]
  have x1 := (G.out.to b2).cells.2.2.2.2.2.1
  have x2 := (G.out.to b2).fr 5
  go_upto_region 9 with fail
  obtain ⟨uL, huL⟩ : ∃ v, w2.setCell ⟨w.heap.size + 1, 5, none⟩ (.slice (some ⟨bL, 0, none⟩) M M) = v := ⟨_, rfl⟩
  rw [huL]
  have G' := hid ((G.out.to b2).put5 (.slice (some ⟨bL, 0, none⟩) M M))
  have RL := hid (R2.setOther (a := ⟨w.heap.size + 1, 5, none⟩) HL.out (.slice (some ⟨bL, 0, none⟩) M M))
  have RA' := hid ((rowIs.ab RA.out b2).setOther (a := ⟨w.heap.size + 1, 5, none⟩) HA.out (.slice (some ⟨bL, 0, none⟩) M M))
  have RB' := hid ((rowIs.ab RB.out b2).setOther (a := ⟨w.heap.size + 1, 5, none⟩) HB.out (.slice (some ⟨bL, 0, none⟩) M M))
  have A' := hid (Ab.setk (A.out.call b2) (g := w.heap.size + 1) (k := 5) (by omega) (.slice (some ⟨bL, 0, none⟩) M M))
  rw [huL] at G' RL A' RA' RB'
  clear LL R2 hlt G A hbL x1 x2 b2 huL RA RB
  clear w2 uB
  have G := G'
  have A := A'
  have RA := RA'
  have RB := RB'
  clear G' A' RA' RB'
  have c1 := G.out.cells.2.1
  rw [HM.out] at c1
  have LL := hid (listed_gap M (w.heap.size + 1) (fun k => GpC n (edT n k / 4) (edT n k % 4)) uL (by omega) (fun k hk u hu => by obtain ⟨e1, e2, e3⟩ := edT_spec Hn.out.1 (k := k) (by rw [HM.out]; exact hk); have h := gapOf_at n _ _ _ _ _ (edT n k) _ _ _ _ u Hn.out e1 e2 (HF.out.to (A.out.trans hu)) (G.out.to hu); rw [e3] at h; exact h))
  go_wp2_with fail
  refine LL.out.mono ?_
  rintro e w2 ⟨rfl, b2, R2⟩
  clear c1
  obtain ⟨bP, hbP⟩ : ∃ b, uL.heap.size = b := ⟨_, rfl⟩
  have hlt := lt_of_block G.out.1
  have HP : Hid (bP ≠ w.heap.size + 1) := by show _ ≠ _; omega
  rw [hbP] at R2
  rw [hbP]
  have x1 := (G.out.to b2).cells.2.2.2.2.2.2
  have x2 := (G.out.to b2).fr 6
  go_upto_region 10 with fail
  obtain ⟨uP, huP⟩ : ∃ v, w2.setCell ⟨w.heap.size + 1, 6, none⟩ (.slice (some ⟨bP, 0, none⟩) M M) = v := ⟨_, rfl⟩
  rw [huP]
  have G' := hid ((G.out.to b2).put6 (.slice (some ⟨bP, 0, none⟩) M M))
  have RP := hid (R2.setOther (a := ⟨w.heap.size + 1, 6, none⟩) HP.out (.slice (some ⟨bP, 0, none⟩) M M))
  have RA' := hid ((rowIs.ab RA.out b2).setOther (a := ⟨w.heap.size + 1, 6, none⟩) HA.out (.slice (some ⟨bP, 0, none⟩) M M))
  have RB' := hid ((rowIs.ab RB.out b2).setOther (a := ⟨w.heap.size + 1, 6, none⟩) HB.out (.slice (some ⟨bP, 0, none⟩) M M))
  have RL' := hid ((rowIs.ab RL.out b2).setOther (a := ⟨w.heap.size + 1, 6, none⟩) HL.out (.slice (some ⟨bP, 0, none⟩) M M))
  have A' := hid (Ab.setk (A.out.call b2) (g := w.heap.size + 1) (k := 6) (by omega) (.slice (some ⟨bP, 0, none⟩) M M))
  rw [huP] at G' RP A' RA' RB' RL'
  clear LL R2 hlt G A hbP x1 x2 b2 huP RA RB RL
  clear w2 uL
  have G := G'
  have A := A'
  have RA := RA'
  have RB := RB'
  have RL := RL'
  clear G' A' RA' RB' RL'
  go_wp2
  go_ret2
  refine ⟨w.heap.size + 1, rfl, A.out, by omega, ?_⟩
  have hN := HN.out
  have hM := HM.out
  subst hN hM
  exact ⟨w.heap.size, eb, cap, _, bB, bA, bL, bP, G.out, RB.out.congr (fun i _ => by unfold bhC; rfl), RA.out, RL.out, RP.out⟩
end Go.Proofs.YtdigecacmibkpaaGreatDoor

namespace Go.Proofs.YtdigecacmibkpaaGreatDoor
open Go.RowKit Cu Tf
attribute [local go_sem] run_store_float
theorem gcounts_at (k n : Int) (w : World) : Calls Tryz.prog 74 #[.int .i64 k, .int .i64 n] w fun e w' => e = .returned (.bool (inR k n)) ∧ w' = w := by
  by_cases h : 0 ≤ k
  · go_enter Tryz.func74, Tryz.ntmps74
    go_wp2
    go_ret
    exact ⟨by simp [inR, h], rfl⟩
  · go_enter Tryz.func74, Tryz.ntmps74
    go_wp2
    go_ret
    exact ⟨by simp [inR]; omega, rfl⟩
theorem gSide_at {n gb : Nat} {w : World} (g : GridOf n gb w) : Calls Tryz.prog 91 #[.pointer (some ⟨gb, 0, none⟩)] w fun e w' => e = .returned (.int .i64 n) ∧ w' = w := by
  obtain ⟨mb, eb, cap, m, bb, ab, lb, pb, h1, -⟩ := g
  obtain ⟨c0, -⟩ := h1.cells
  clear h1
  go_enter Tryz.func91, Tryz.ntmps91
  go_wp2
  go_ret
  exact ⟨rfl, rfl⟩
theorem gCells_at {n gb : Nat} {w : World} (g : GridOf n gb w) : Calls Tryz.prog 24 #[.pointer (some ⟨gb, 0, none⟩)] w fun e w' => e = .returned (.int .i64 (6 * n * n : Nat)) ∧ w' = w := by
  obtain ⟨mb, eb, cap, m, bb, ab, lb, pb, h1, -⟩ := g
  obtain ⟨-, -, -, -, c4, -⟩ := h1.cells
  generalize 6 * n * n = N at *
  clear h1
  go_enter Tryz.func24, Tryz.ntmps24
  go_wp2
  go_ret
  exact ⟨rfl, rfl⟩
theorem gEdges_at {n gb : Nat} {w : World} (g : GridOf n gb w) : Calls Tryz.prog 60 #[.pointer (some ⟨gb, 0, none⟩)] w fun e w' => e = .returned (.int .i64 (12 * n * n : Nat)) ∧ w' = w := by
  obtain ⟨mb, eb, cap, m, bb, ab, lb, pb, h1, -⟩ := g
  obtain ⟨-, c1, -⟩ := h1.cells
  clear h1
  generalize 12 * n * n = M at *
  go_enter Tryz.func60, Tryz.ntmps60
  go_wp2
  go_ret
  exact ⟨rfl, rfl⟩
theorem inR_true {k N : Nat} (h : k < N) : inR (k : Int) (N : Int) = true := by rw [inR_iff]; omega
set_option maxHeartbeats 2000000 in
theorem gEdge_ok {n gb t : Nat} {w : World} (hn : 1 ≤ n ∧ n ≤ 32) (ht : t < 24 * n * n) (hl : isL n t = true) (g : GridOf n gb w) :
    Calls Tryz.prog 90 #[.pointer (some ⟨gb, 0, none⟩), .int .i64 (eN n t : Nat)] w fun e w' => e = .returned (.tuple #[.agg #[.int .i64 (t / 4 : Nat), .int .i64 (t % 4 : Nat), .int .i64 (bsC n (t / 4) (t % 4) : Nat), .int .i64 (bsS n (t / 4) (t % 4) : Nat)], .bool true]) ∧ Below w.heap.size w w' := by
  have E1 := hid (gEdges_at (g.to (bl1 w (.cells #[.int .i64 0, .int .i64 0, .int .i64 0, .int .i64 0] 84))))
  have C1 := hid (fun u => gcounts_at (eN n t : Nat) (12 * n * n : Nat) u)
  rw [inR_true (ed_lt hn.1 ht hl)] at C1
  obtain ⟨mb, eb, cap, m, bb, ab, lb, pb, h1, -⟩ := g
  obtain ⟨-, c1, -⟩ := h1.cells
  obtain ⟨y0, y1, y2, y3⟩ := h1.2.1.2 t ht hl
  have lg := lt_of_block h1.1
  have le := h1.2.1.1
  have kN := ed_lt hn.1 ht hl
  have R0 := hid (heap_alloc_new w (.cells #[.int .i64 0, .int .i64 0, .int .i64 0, .int .i64 0] 84))
  have A0 := hid (bl1 w (.cells #[.int .i64 0, .int .i64 0, .int .i64 0, .int .i64 0] 84))
  generalize bsC n (t / 4) (t % 4) = d at *
  generalize bsS n (t / 4) (t % 4) = b at *
  generalize t / 4 = c at *
  generalize t % 4 = s at *
  generalize eN n t = k at *
  generalize 12 * n * n = M at *
  have hk1 : (k : Int) < M := by omega
  clear h1 hn ht hl
  go_enter Tryz.func90, Tryz.ntmps90
  go_wp2_with (first
    | (go_at_call 60; refine (E1.out).mono ?_; rintro e w' ⟨rfl, hw⟩; have hw2 := hw.symm; subst hw2)
    | (go_at_call 74; refine (C1.out _).mono ?_; rintro e w' ⟨rfl, hw⟩; have hw2 := hw.symm; subst hw2))
  refine bodyPost_ret ?_ rfl ⟨rfl, ?_⟩
  · exact res_two Tryz.results90 _ _ w.heap.size _ _ (0, 0) _ _ rfl rfl (heap_alloc_new w _) Tryz.underlying84 rfl (by kernel_rfl)
  · exact bl1 w _
set_option maxHeartbeats 2000000 in
theorem gAround_at {n gb : Nat} {c s : Int} {w : World} (hc : W64 c) (hs : W64 s) (g : GridOf n gb w) :
    Calls Tryz.prog 92 #[.pointer (some ⟨gb, 0, none⟩), .int .i64 c, .int .i64 s] w fun e w' => e = .returned (.tuple #[.int .i64 (gT n (24 * n * n) c s).1, .int .i64 (gT n (24 * n * n) c s).2]) ∧ Below w.heap.size w w' := by
  obtain ⟨mb, eb, cap, m, bb, ab, lb, pb, h1, -⟩ := g
  obtain ⟨-, -, c2, -⟩ := h1.cells
  have LK := h1.2.2.1.look hc hs
  generalize (gT n (24 * n * n) c s).1 = x at *
  generalize (gT n (24 * n * n) c s).2 = y at *
  clear h1 hc hs
  go_enter Tryz.func92, Tryz.ntmps92
  go_upto_region 4 with fail
  go_region
  go_wp2
  go_ret2
  exact ⟨rfl, by first | exact bl1 w _ | exact Below.drew (bl1 w _)⟩
set_option maxHeartbeats 2000000 in
theorem gArea_ok {n gb k : Nat} {w : World} (hn : 1 ≤ n ∧ n ≤ 32) (hk : k < 6 * n * n) (g : GridOf n gb w) :
    Calls Tryz.prog 26 #[.pointer (some ⟨gb, 0, none⟩), .int .i64 k] w fun e w' => e = .returned (.int .i64 (arI (ArC n k))) ∧ Below w.heap.size w w' := by
  have E1 := hid (gCells_at g)
  have C1 := hid (fun u => gcounts_at (k : Nat) (6 * n * n : Nat) u)
  have hN := (n12 hn)
  rw [inR_true hk] at C1
  obtain ⟨mb, eb, cap, m, bb, ab, lb, pb, h1, -, hr, -⟩ := g
  have c0 := h1.cells.2.2.2.2.1
  have y0 := hr.cell hk

  have lg := lt_of_block h1.1
  have le := hr.lt
  clear hr
  generalize arI (ArC n k) = V at *
  have hk2 : ((6 * n * n : Nat) : Int) ≤ 12288 := by omega
  generalize 6 * n * n = M at *
  have hk1 : (k : Int) < M := by omega
  clear h1 hn hN hk
  go_enter Tryz.func26, Tryz.ntmps26
  go_wp2_with (first
    | (go_at_call 24; refine (E1.out).mono ?_; rintro e w' ⟨rfl, hw⟩; have hw2 := hw.symm; subst hw2)
    | (go_at_call 74; refine (C1.out _).mono ?_; rintro e w' ⟨rfl, hw⟩; have hw2 := hw.symm; subst hw2))
  go_ret
  exact ⟨rfl, Below.refl _ _⟩
end Go.Proofs.YtdigecacmibkpaaGreatDoor

namespace Go.Proofs.YtdigecacmibkpaaGreatDoor
open Go.RowKit Cu
set_option maxHeartbeats 1000000 in
theorem rplus_ex (p : P3) (k : Int) (q : P3) (w : World) (hp : Sm p) (hr : Sm (sc k q)) :
    Calls Tryz.prog 129 #[.agg #[.int .i64 p.1, .int .i64 p.2.1, .int .i64 p.2.2], .int .i64 k, .agg #[.int .i64 q.1, .int .i64 q.2.1, .int .i64 q.2.2]] w fun e w' => e = .returned (.agg #[.int .i64 (pl p (sc k q)).1, .int .i64 (pl p (sc k q)).2.1, .int .i64 (pl p (sc k q)).2.2]) ∧ w' = ((w.alloc (.cells #[.int .i64 p.1, .int .i64 p.2.1, .int .i64 p.2.2] 123)).alloc (.cells #[.int .i64 q.1, .int .i64 q.2.1, .int .i64 q.2.2] 123)).alloc (.cells #[.int .i64 (pl p (sc k q)).1, .int .i64 (pl p (sc k q)).2.1, .int .i64 (pl p (sc k q)).2.2] 123) := by
  obtain ⟨x, y, z⟩ := p
  obtain ⟨a, b, c⟩ := q
  obtain ⟨hx, hy, hz⟩ := hp
  obtain ⟨ha, hb, hc⟩ := hr
  simp only [pl, sc] at *
  go_enter Tryz.func129, Tryz.ntmps129
  go_wp2
  refine bodyPost_ret ?_ rfl ⟨rfl, rfl⟩
  exact results_cell_row Tryz.results129 _ _ (w.heap.size + 2) _ _ (0, 0) _ rfl (heap_alloc3_new _ _ _ _) Tryz.underlying123 rfl (by kernel_rfl)
theorem rplus_at (p : P3) (k : Int) (q : P3) (w : World) (hp : Sm p) (hr : Sm (sc k q)) :
    Calls Tryz.prog 129 #[.agg #[.int .i64 p.1, .int .i64 p.2.1, .int .i64 p.2.2], .int .i64 k, .agg #[.int .i64 q.1, .int .i64 q.2.1, .int .i64 q.2.2]] w fun e w' => e = .returned (.agg #[.int .i64 (pl p (sc k q)).1, .int .i64 (pl p (sc k q)).2.1, .int .i64 (pl p (sc k q)).2.2]) ∧ Below w.heap.size w w' :=
  (rplus_ex p k q w hp hr).mono fun _ _ ⟨he, hw⟩ => ⟨he, hw ▸ bl3 _ _ _ _⟩
set_option maxHeartbeats 1000000 in
theorem rdot_at (p q : P3) (w : World) (hp : Sm p) (hq : Un q) :
    Calls Tryz.prog 101 #[.agg #[.int .i64 p.1, .int .i64 p.2.1, .int .i64 p.2.2], .agg #[.int .i64 q.1, .int .i64 q.2.1, .int .i64 q.2.2]] w fun e w' => e = .returned (.int .i64 (dt p q)) ∧ Below w.heap.size w w' := by
  obtain ⟨x, y, z⟩ := p
  obtain ⟨a, b, c⟩ := q
  have hx := (mul_un hq.1 10000 hp.1).1
  have hy := (mul_un hq.2.1 10000 hp.2.1).1
  have hz := (mul_un hq.2.2 10000 hp.2.2).1
  clear hp hq
  simp only [dt] at *
  go_enter Tryz.func101, Tryz.ntmps101
  go_wp2
  go_ret
  exact ⟨rfl, bl2 _ _ _⟩
set_option maxHeartbeats 1000000 in
theorem rcuCross_at (p q : P3) (w : World) (hp : Un p) (hq : Un q) :
    Calls Tryz.prog 154 #[.agg #[.int .i64 p.1, .int .i64 p.2.1, .int .i64 p.2.2], .agg #[.int .i64 q.1, .int .i64 q.2.1, .int .i64 q.2.2]] w fun e w' => e = .returned (.agg #[.int .i64 (cx p q).1, .int .i64 (cx p q).2.1, .int .i64 (cx p q).2.2]) ∧ Below w.heap.size w w' := by
  obtain ⟨x, y, z⟩ := p
  obtain ⟨a, b, c⟩ := q
  have h1 := (mul_un hq.2.2 1 hp.2.1).1
  have h2 := (mul_un hq.2.1 1 hp.2.2).1
  have h3 := (mul_un hq.1 1 hp.2.2).1
  have h4 := (mul_un hq.2.2 1 hp.1).1
  have h5 := (mul_un hq.2.1 1 hp.1).1
  have h6 := (mul_un hq.1 1 hp.2.1).1
  clear hp hq
  simp only [cx] at *
  go_enter Tryz.func154, Tryz.ntmps154
  go_wp2
  refine bodyPost_ret ?_ rfl ⟨rfl, bl3 _ _ _ _⟩
  exact results_cell_row Tryz.results154 _ _ (w.heap.size + 2) _ _ (0, 0) _ rfl (heap_alloc3_new _ _ _ _) Tryz.underlying123 rfl (by kernel_rfl)
theorem results_cell3 {P : Program} {fn : Func} {p q r : Tmp} {ty : TypeId} (h : fn.results = #[.cell p ty, .cell q ty, .cell r ty]) (tmps : Array Value) (w : World) (g0 g1 g2 : Nat) (t : TypeId) (c0 c1 c2 : Array Value) (d : TypeDesc)
    (hp : tmps.getD p undef = .pointer (some ⟨g0, 0, none⟩)) (hq : tmps.getD q undef = .pointer (some ⟨g1, 0, none⟩)) (hr : tmps.getD r undef = .pointer (some ⟨g2, 0, none⟩))
    (h0 : w.heap[g0]? = some (.cells c0 t)) (h1 : w.heap[g1]? = some (.cells c1 t)) (h2 : w.heap[g2]? = some (.cells c2 t))
    (hu : P.underlying ty = some d) (hd : (match d with | .struct _ | .array _ _ => true | _ => false) = true) (i0 : (P.info? ty).map (·.size) = some c0.size) (i1 : (P.info? ty).map (·.size) = some c1.size) (i2 : (P.info? ty).map (·.size) = some c2.size) :
    (results fn tmps).run P w = .ok (.tuple #[.agg c0, .agg c1, .agg c2]) w := by
  have hp' : tmps[p]?.getD undef = .pointer (some ⟨g0, 0, none⟩) := by simpa using hp
  have hq' : tmps[q]?.getD undef = .pointer (some ⟨g1, 0, none⟩) := by simpa using hq
  have hr' : tmps[r]?.getD undef = .pointer (some ⟨g2, 0, none⟩) := by simpa using hr
  simp [results, h, hp', hq', hr', asAddr, run_loadVar_row w g0 t ty c0 (0, 0) d h0 hu hd i0, run_loadVar_row w g1 t ty c1 (0, 0) d h1 hu hd i1, run_loadVar_row w g2 t ty c2 (0, 0) d h2 hu hd i2]
/-- as Ab, but for the three blocks from g on, which are points -/
def A3 (W : World) (g : Nat) (w : World) : Prop :=
  (w.os = W.os ∧ w.tape = W.tape ∧ w.output = W.output ∧ W.heap.size ≤ w.heap.size ∧ ∀ k, k < W.heap.size → (k < g ∨ g + 3 ≤ k) → w.heap[k]? = W.heap[k]?) ∧
  ∀ j, j < 3 → ∃ a b c : Value, w.heap[g + j]? = some (.cells #[a, b, c] 123)
theorem Ab.a3 {W w : World} (h : Ab W w) {g : Nat} (hg : ∀ j, j < 3 → ∃ a b c : Value, W.heap[g + j]? = some (.cells #[a, b, c] 123)) : A3 W g w :=
  ⟨⟨Below.os h, Below.tape h, Below.output h, Below.size h, fun k hk _ => Below.block h k hk⟩, fun j hj => by obtain ⟨a, b, c, e⟩ := hg j hj; exact ⟨a, b, c, h.heap e⟩⟩
theorem A3.drew {W w : World} {g : Nat} (a : A3 W g w) : A3 W g w.drew := a
theorem A3.call {W u w : World} {g : Nat} (a : A3 W g u) (b : Below u.heap.size u w) : A3 W g w := by
  obtain ⟨⟨h1, h2, h3, h4, h5⟩, h6⟩ := a
  refine ⟨⟨b.os.trans h1, b.tape.trans h2, b.output.trans h3, Nat.le_trans h4 b.size, fun k hk hne => (b.block k (by omega)).trans (h5 k hk hne)⟩, fun j hj => ?_⟩
  obtain ⟨x, y, z, e⟩ := h6 j hj
  exact ⟨x, y, z, (b.block _ (lt_of_block e)).trans e⟩
theorem A3.set {W w : World} {g : Nat} (a : A3 W g w) (i : Nat) (hi : i < 3) (k : Nat) (v : Value) : A3 W g (w.setCell ⟨g + i, k, none⟩ v) := by
  obtain ⟨⟨h1, h2, h3, h4, h5⟩, h6⟩ := a
  refine ⟨⟨h1, h2, h3, by simpa [World.setCell] using h4, fun l hl hne => (Below.heap_setCell _ _ _ _ (by show l ≠ g + i; omega)).trans (h5 l hl hne)⟩, fun j hj => ?_⟩
  obtain ⟨x, y, z, e⟩ := h6 j hj
  by_cases hji : j = i
  · subst hji
    obtain ⟨p, q, r, e2⟩ := set_k (a := x) (b := y) (c := z) (v := v) k
    have o := one_set (k := k) (v := v) e
    rw [e2] at o
    exact ⟨p, q, r, o⟩
  · exact ⟨x, y, z, (Below.heap_setCell _ _ _ _ (by show g + j ≠ g + i; omega)).trans e⟩
theorem A3.heap {W w : World} {g k : Nat} {o : Obj} (a : A3 W g w) (n1 : k < g ∨ g + 3 ≤ k) (hk : W.heap[k]? = some o) : w.heap[k]? = some o := by
  have hlt : k < W.heap.size := by
    rcases Nat.lt_or_ge k W.heap.size with h1 | h1
    · exact h1
    · rw [Array.getElem?_eq_none h1] at hk; cases hk
  exact (a.1.2.2.2.2 k hlt n1).trans hk
theorem A3.ab {w0 W w : World} {g : Nat} (a : A3 W g w) (b : Ab w0 W) (hg : w0.heap.size ≤ g) : Ab w0 w := by
  obtain ⟨⟨h1, h2, h3, h4, h5⟩, _⟩ := a
  exact ⟨h1.trans b.os, h2.trans b.tape, h3.trans b.output, Nat.le_trans (Below.size b) h4, fun k hk => (h5 k (Nat.lt_of_lt_of_le hk (Below.size b)) (by omega)).trans (b.block k hk)⟩
theorem A3.facts {W w : World} {g : Nat} (a : A3 W g w) (j : Nat) (hj : j < 3) : (w.frozen? ⟨g + j, 0, none⟩ = false ∧ w.frozen? ⟨g + j, 1, none⟩ = false ∧ w.frozen? ⟨g + j, 2, none⟩ = false) ∧ w.cell? ⟨g + j, 0, none⟩ = some (rv w (g + j) 0) ∧ w.cell? ⟨g + j, 1, none⟩ = some (rv w (g + j) 1) ∧ w.cell? ⟨g + j, 2, none⟩ = some (rv w (g + j) 2) := by
  obtain ⟨x, y, z, hg⟩ := a.2 j hj
  have e : ∀ k, w.cell? ⟨g + j, k, none⟩ = #[x, y, z][k]? := fun k => cell_of_row _ _ k _ _ _ hg
  refine ⟨⟨free_row hg 0, free_row hg 1, free_row hg 2⟩, ?_, ?_, ?_⟩ <;> simp [rv, e]
end Go.Proofs.YtdigecacmibkpaaGreatDoor
