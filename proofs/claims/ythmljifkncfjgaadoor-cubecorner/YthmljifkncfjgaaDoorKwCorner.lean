/-
  Round a corner of a cell: the walk.
-/
import Derived.Test.YthmljifkncfjgaaDoorKr
import Derived.Test.YthmljifkncfjgaaDoorKu
namespace Go.Proofs.YthmljifkncfjgaaDoor
open Go.RowKit Cu
/-- whether the corner behind side s is one of the cube's -/
def cnr (n c s : Nat) : Bool := decide (ah n s (ci n c) (cj n c) + 1 = n) && decide (lf n s (ci n c) (cj n c) + 1 = n)
theorem cnr_pure {n c s : Nat} (hn : 1 ≤ n) (hc : c < 6 * n * n) (hs : s < 4) :
    crn n c s (if cnr n c s = true then 3 else 4) = (c, s) ∧ ∀ k, 0 < k → k < (if cnr n c s = true then 3 else 4) → (crn n c s k).1 ≠ c := by
  obtain ⟨h1, h2, h3, _⟩ := dec_lt hn hc
  obtain ⟨f, a, b, hf, ha, hb, rfl⟩ := Pn_ex hn hc hs
  obtain ⟨e1, e2, e3⟩ := Pn_dec (f := f) hs ha hb
  obtain ⟨p, q⟩ := corner_pure hf hs ha hb
  unfold cnr
  rw [e2, e3]
  by_cases h : a + 1 = n ∧ b + 1 = n
  · rw [if_pos (by simp [h])]
    obtain ⟨p1, p2, p3⟩ := p h
    refine ⟨p1, fun k k0 k3 => ?_⟩
    rcases (show k = 1 ∨ k = 2 by omega) with rfl | rfl
    · exact p2
    · exact p3
  · rw [if_neg (by simpa using h)]
    obtain ⟨p1, p2, p3, p4⟩ := q h
    refine ⟨p1, fun k k0 k3 => ?_⟩
    rcases (show k = 1 ∨ k = 2 ∨ k = 3 by omega) with rfl | rfl | rfl
    · exact p2
    · exact p3
    · exact p4
set_option maxRecDepth 100000 in
set_option maxHeartbeats 4000000 in
theorem cubeCorner_walk (a0 a1 a2 a3 a4 a5 a6 a7 : Int) (w : World) (_i0 : I64 a0) (_i1 : I64 a1) (_i2 : I64 a2) (_i3 : I64 a3) (_i4 : I64 a4) (_i5 : I64 a5) (_i6 : I64 a6) (_i7 : I64 a7) (h : Fr w) :
    Calls Tryd.prog 4 #[.agg #[.int .i64 a0, .int .i64 a1, .int .i64 a2, .int .i64 a3, .int .i64 a4, .int .i64 a5, .int .i64 a6, .int .i64 a7]] w fun e w' => e = .returned (.bool true) ∧ Below w.heap.size w w' := by
  have A0 : Ab w (w.alloc (.cells #[.int .i64 a0, .int .i64 a1, .int .i64 a2, .int .i64 a3, .int .i64 a4, .int .i64 a5, .int .i64 a6, .int .i64 a7] 23)) := bl1 _ _
  have AWK := hid (awake_at (w.alloc (.cells #[.int .i64 a0, .int .i64 a1, .int .i64 a2, .int .i64 a3, .int .i64 a4, .int .i64 a5, .int .i64 a6, .int .i64 a7] 23)) (h.to A0))
  have RB : Hid (∀ u, Ab (w.alloc (.cells #[.int .i64 a0, .int .i64 a1, .int .i64 a2, .int .i64 a3, .int .i64 a4, .int .i64 a5, .int .i64 a6, .int .i64 a7] 23)) u → u.heap[w.heap.size]? = some (.cells #[.int .i64 a0, .int .i64 a1, .int .i64 a2, .int .i64 a3, .int .i64 a4, .int .i64 a5, .int .i64 a6, .int .i64 a7] 23)) := fun u hu => hu.heap (heap_alloc_new _ _)
  have HFR : Hid (∀ u, Ab (w.alloc (.cells #[.int .i64 a0, .int .i64 a1, .int .i64 a2, .int .i64 a3, .int .i64 a4, .int .i64 a5, .int .i64 a6, .int .i64 a7] 23)) u → Fr u) := fun u hu => h.to (A0.trans hu)
  obtain ⟨m0, hm0⟩ : ∃ m, wi a0 32 = m := ⟨_, rfl⟩
  have lm0 : m0 < 32 := by rw [← hm0]; exact wi_lt (by omega)
  have WI0 : Hid (∀ u, Calls Tryd.prog 8 #[.int .i64 a0, .int .i64 32] u fun e w' => e = .returned (.int .i64 m0) ∧ w' = u) := fun u => by rw [← hm0]; exact within_at a0 32 u (by omega)
  obtain ⟨n, hn⟩ : ∃ n : Nat, 1 + m0 = n := ⟨_, rfl⟩
  have hN : (1 : Int) + (m0 : Int) = (n : Int) := by omega
  have hn32 : 1 ≤ n ∧ n ≤ 32 := by omega
  obtain ⟨M, hM⟩ : ∃ M : Nat, 6 * n * n = M := ⟨_, rfl⟩
  have hMM : 6 * (n : Int) * (n : Int) = (M : Int) := by rw [← hM]; simp
  have hM2 : 1 ≤ M ∧ M ≤ 6144 := by have := sq_le (x := n) (by omega) (by omega); rw [hMM] at this; omega
  have hn1 : 1 ≤ (n : Int) := by omega
  have hn2 : (n : Int) ≤ 32 := by omega
  have hM3 : 1 ≤ (M : Int) := by omega
  have hM4 : (M : Int) ≤ 6144 := by omega
  have lm0' : (m0 : Int) < 32 := by omega
  obtain ⟨c, hc⟩ : ∃ m, wi a4 M = m := ⟨_, rfl⟩
  have lc : c < M := by rw [← hc]; exact wi_lt (by omega)
  have WIc : Hid (∀ u, Calls Tryd.prog 8 #[.int .i64 a4, .int .i64 M] u fun e w' => e = .returned (.int .i64 c) ∧ w' = u) := fun u => by rw [← hc]; exact within_at a4 M u (by omega)
  obtain ⟨s, hs⟩ : ∃ m, wi a5 4 = m := ⟨_, rfl⟩
  have ls : s < 4 := by rw [← hs]; exact wi_lt (by omega)
  have WIs : Hid (∀ u, Calls Tryd.prog 8 #[.int .i64 a5, .int .i64 4] u fun e w' => e = .returned (.int .i64 s) ∧ w' = u) := fun u => by rw [← hs]; exact within_at a5 4 u (by omega)
  have A0' := hid A0
  clear h A0 hm0 hc hs
  have hcM : c < 6 * n * n := hM ▸ lc
  obtain ⟨d1, d2, d3, _⟩ := dec_lt hn32.1 hcM
  have CP := cnr_pure hn32.1 hcM ls
  have CB : cnr n c s = (decide (ah n s (ci n c) (cj n c) + 1 = n) && decide (lf n s (ci n c) (cj n c) + 1 = n)) := rfl
  have CL := hid (crn_lt hn32.1 hcM ls)
  have PLc := place_ok n c hn32 hcM
  obtain ⟨i, hi⟩ : ∃ x, ci n c = x := ⟨_, rfl⟩
  obtain ⟨j, hj⟩ : ∃ x, cj n c = x := ⟨_, rfl⟩
  rw [hi] at d2 CB PLc
  rw [hj] at d3 CB PLc
  obtain ⟨cb, hcb⟩ : ∃ x, cnr n c s = x := ⟨_, rfl⟩
  rw [hcb] at CB CP
  have BS := hid (fun (x s : Nat) (hx : x < 6 * n * n) (hs : s < 4) u (hu : Ab (w.alloc (.cells #[.int .i64 a0, .int .i64 a1, .int .i64 a2, .int .i64 a3, .int .i64 a4, .int .i64 a5, .int .i64 a6, .int .i64 a7] 23)) u) => beside_at n x s u hn32 hx hs (HFR.out u hu))
  have PL := hid PLc
  have HCP := hid CP
  have HCB := hid CB
  have HLS := hid ls
  have HI := hid d2
  have HJ := hid d3
  have HMM := hid hM
  have LC := hid lc
  have r4 : (c : Int) < M := by omega
  have r5 : (s : Int) < 4 := by omega
  have r6 : (i : Int) < n := by omega
  have r7 : (j : Int) < n := by omega
  clear hM hn HFR lc lm0 hM2 hn32 d1 d2 d3 CP CB PLc hi hj hcb ls hcM
  go_enter Tryd.func4, Tryd.ntmps4
  go_wp2_with fail
  refine (AWK.out).mono ?_
  rintro e w1 ⟨rfl, b1⟩
  have A1 : Ab (w.alloc (.cells #[.int .i64 a0, .int .i64 a1, .int .i64 a2, .int .i64 a3, .int .i64 a4, .int .i64 a5, .int .i64 a6, .int .i64 a7] 23)) w1 := b1
  have f1_0 : w1.cell? ⟨w.heap.size, 0, none⟩ = some (.int .i64 a0) := cell_of_row _ _ 0 _ _ _ (RB.out _ A1)
  have f1_4 : w1.cell? ⟨w.heap.size, 4, none⟩ = some (.int .i64 a4) := cell_of_row _ _ 4 _ _ _ (RB.out _ A1)
  have f1_5 : w1.cell? ⟨w.heap.size, 5, none⟩ = some (.int .i64 a5) := cell_of_row _ _ 5 _ _ _ (RB.out _ A1)
  go_wp2_with fail
  refine (WI0.out _).mono ?_
  rintro e wq ⟨rfl, hwq⟩
  rw [hwq]
  clear hwq wq
  go_wp2_with fail
  refine (WIc.out _).mono ?_
  rintro e wq ⟨rfl, hwq⟩
  rw [hwq]
  clear hwq wq
  go_wp2_with fail
  refine (WIs.out _).mono ?_
  rintro e wq ⟨rfl, hwq⟩
  rw [hwq]
  clear hwq wq
  go_wp2_with fail
  refine (PL.out _).mono ?_
  rintro e w2 ⟨rfl, kk2, rfl⟩
  have A2 := A1.drewN kk2
  have AL := hid A2
  clear A1 A2 b1 f1_0 f1_4 f1_5
  go_upto_region 7 with fail
  go_cut [10] from 43 to 48 (fun s10 wx => s10 = .bool (decide (s = 0) || decide (s = 3)) ∧ wx = w1.drewN kk2)
  case first =>
    rcases four HLS.out with rfl | rfl | rfl | rfl <;> (go_wp2_with fail; go_meet; exact ⟨rfl, rfl⟩)
  case rest =>
  obtain ⟨rfl, rfl⟩ := hcut
  go_upto_region 8 with fail
  go_cut [11] from 49 to 54 (fun s11 wx => s11 = .bool (decide (s = 0) || decide (s = 1)) ∧ wx = w1.drewN kk2)
  case first =>
    rcases four HLS.out with rfl | rfl | rfl | rfl <;> (go_wp2_with fail; go_meet; exact ⟨rfl, rfl⟩)
  case rest =>
  obtain ⟨rfl, rfl⟩ := hcut
  go_upto_region 9 with fail
  go_cut [12] from 55 to 86 (fun s12 wx => s12 = .bool cb ∧ wx = w1.drewN kk2)
  case first =>
    have hI := HI.out
    have hJ := HJ.out
    clear HCP BS PL AL CL
    rcases four HLS.out with rfl | rfl | rfl | rfl
    · by_cases ei : i + 1 = n <;> by_cases ej : j + 1 = n
      · have gi : ((i : Int) == (n : Int) - 1) = true := by simp; omega
        have gj : ((j : Int) == (n : Int) - 1) = true := by simp; omega
        have HEI := hid ei
        have HEJ := hid ej
        clear ei ej
        go_wp2_with fail
        go_meet
        refine ⟨?_, rfl⟩
        rw [HCB.out]
        simp only [ah, lf]
        have ei := HEI.out
        have ej := HEJ.out
        clear gi gj
        congr 1
        symm
        first
          | (simp only [Bool.and_eq_true, decide_eq_true_eq]; omega)
          | (simp only [Bool.and_eq_false_iff, decide_eq_false_iff_not]; omega)
      · have gi : ((i : Int) == (n : Int) - 1) = true := by simp; omega
        have gj : ((j : Int) == (n : Int) - 1) = false := by simp; omega
        have HEI := hid ei
        have HEJ := hid ej
        clear ei ej
        go_wp2_with fail
        go_meet
        refine ⟨?_, rfl⟩
        rw [HCB.out]
        simp only [ah, lf]
        have ei := HEI.out
        have ej := HEJ.out
        clear gi gj
        congr 1
        symm
        first
          | (simp only [Bool.and_eq_true, decide_eq_true_eq]; omega)
          | (simp only [Bool.and_eq_false_iff, decide_eq_false_iff_not]; omega)
      · have gi : ((i : Int) == (n : Int) - 1) = false := by simp; omega
        have gj : ((j : Int) == (n : Int) - 1) = true := by simp; omega
        have HEI := hid ei
        have HEJ := hid ej
        clear ei ej
        go_wp2_with fail
        go_meet
        refine ⟨?_, rfl⟩
        rw [HCB.out]
        simp only [ah, lf]
        have ei := HEI.out
        have ej := HEJ.out
        clear gi gj
        congr 1
        symm
        first
          | (simp only [Bool.and_eq_true, decide_eq_true_eq]; omega)
          | (simp only [Bool.and_eq_false_iff, decide_eq_false_iff_not]; omega)
      · have gi : ((i : Int) == (n : Int) - 1) = false := by simp; omega
        have gj : ((j : Int) == (n : Int) - 1) = false := by simp; omega
        have HEI := hid ei
        have HEJ := hid ej
        clear ei ej
        go_wp2_with fail
        go_meet
        refine ⟨?_, rfl⟩
        rw [HCB.out]
        simp only [ah, lf]
        have ei := HEI.out
        have ej := HEJ.out
        clear gi gj
        congr 1
        symm
        first
          | (simp only [Bool.and_eq_true, decide_eq_true_eq]; omega)
          | (simp only [Bool.and_eq_false_iff, decide_eq_false_iff_not]; omega)
    · by_cases ei : i = 0 <;> by_cases ej : j + 1 = n
      · have gi : ((i : Int) == 0) = true := by simp; omega
        have gj : ((j : Int) == (n : Int) - 1) = true := by simp; omega
        have HEI := hid ei
        have HEJ := hid ej
        clear ei ej
        go_wp2_with fail
        go_meet
        refine ⟨?_, rfl⟩
        rw [HCB.out]
        simp only [ah, lf]
        have ei := HEI.out
        have ej := HEJ.out
        clear gi gj
        congr 1
        symm
        first
          | (simp only [Bool.and_eq_true, decide_eq_true_eq]; omega)
          | (simp only [Bool.and_eq_false_iff, decide_eq_false_iff_not]; omega)
      · have gi : ((i : Int) == 0) = true := by simp; omega
        have gj : ((j : Int) == (n : Int) - 1) = false := by simp; omega
        have HEI := hid ei
        have HEJ := hid ej
        clear ei ej
        go_wp2_with fail
        go_meet
        refine ⟨?_, rfl⟩
        rw [HCB.out]
        simp only [ah, lf]
        have ei := HEI.out
        have ej := HEJ.out
        clear gi gj
        congr 1
        symm
        first
          | (simp only [Bool.and_eq_true, decide_eq_true_eq]; omega)
          | (simp only [Bool.and_eq_false_iff, decide_eq_false_iff_not]; omega)
      · have gi : ((i : Int) == 0) = false := by simp; omega
        have gj : ((j : Int) == (n : Int) - 1) = true := by simp; omega
        have HEI := hid ei
        have HEJ := hid ej
        clear ei ej
        go_wp2_with fail
        go_meet
        refine ⟨?_, rfl⟩
        rw [HCB.out]
        simp only [ah, lf]
        have ei := HEI.out
        have ej := HEJ.out
        clear gi gj
        congr 1
        symm
        first
          | (simp only [Bool.and_eq_true, decide_eq_true_eq]; omega)
          | (simp only [Bool.and_eq_false_iff, decide_eq_false_iff_not]; omega)
      · have gi : ((i : Int) == 0) = false := by simp; omega
        have gj : ((j : Int) == (n : Int) - 1) = false := by simp; omega
        have HEI := hid ei
        have HEJ := hid ej
        clear ei ej
        go_wp2_with fail
        go_meet
        refine ⟨?_, rfl⟩
        rw [HCB.out]
        simp only [ah, lf]
        have ei := HEI.out
        have ej := HEJ.out
        clear gi gj
        congr 1
        symm
        first
          | (simp only [Bool.and_eq_true, decide_eq_true_eq]; omega)
          | (simp only [Bool.and_eq_false_iff, decide_eq_false_iff_not]; omega)
    · by_cases ei : i = 0 <;> by_cases ej : j = 0
      · have gi : ((i : Int) == 0) = true := by simp; omega
        have gj : ((j : Int) == 0) = true := by simp; omega
        have HEI := hid ei
        have HEJ := hid ej
        clear ei ej
        go_wp2_with fail
        go_meet
        refine ⟨?_, rfl⟩
        rw [HCB.out]
        simp only [ah, lf]
        have ei := HEI.out
        have ej := HEJ.out
        clear gi gj
        congr 1
        symm
        first
          | (simp only [Bool.and_eq_true, decide_eq_true_eq]; omega)
          | (simp only [Bool.and_eq_false_iff, decide_eq_false_iff_not]; omega)
      · have gi : ((i : Int) == 0) = true := by simp; omega
        have gj : ((j : Int) == 0) = false := by simp; omega
        have HEI := hid ei
        have HEJ := hid ej
        clear ei ej
        go_wp2_with fail
        go_meet
        refine ⟨?_, rfl⟩
        rw [HCB.out]
        simp only [ah, lf]
        have ei := HEI.out
        have ej := HEJ.out
        clear gi gj
        congr 1
        symm
        first
          | (simp only [Bool.and_eq_true, decide_eq_true_eq]; omega)
          | (simp only [Bool.and_eq_false_iff, decide_eq_false_iff_not]; omega)
      · have gi : ((i : Int) == 0) = false := by simp; omega
        have gj : ((j : Int) == 0) = true := by simp; omega
        have HEI := hid ei
        have HEJ := hid ej
        clear ei ej
        go_wp2_with fail
        go_meet
        refine ⟨?_, rfl⟩
        rw [HCB.out]
        simp only [ah, lf]
        have ei := HEI.out
        have ej := HEJ.out
        clear gi gj
        congr 1
        symm
        first
          | (simp only [Bool.and_eq_true, decide_eq_true_eq]; omega)
          | (simp only [Bool.and_eq_false_iff, decide_eq_false_iff_not]; omega)
      · have gi : ((i : Int) == 0) = false := by simp; omega
        have gj : ((j : Int) == 0) = false := by simp; omega
        have HEI := hid ei
        have HEJ := hid ej
        clear ei ej
        go_wp2_with fail
        go_meet
        refine ⟨?_, rfl⟩
        rw [HCB.out]
        simp only [ah, lf]
        have ei := HEI.out
        have ej := HEJ.out
        clear gi gj
        congr 1
        symm
        first
          | (simp only [Bool.and_eq_true, decide_eq_true_eq]; omega)
          | (simp only [Bool.and_eq_false_iff, decide_eq_false_iff_not]; omega)
    · by_cases ei : i + 1 = n <;> by_cases ej : j = 0
      · have gi : ((i : Int) == (n : Int) - 1) = true := by simp; omega
        have gj : ((j : Int) == 0) = true := by simp; omega
        have HEI := hid ei
        have HEJ := hid ej
        clear ei ej
        go_wp2_with fail
        go_meet
        refine ⟨?_, rfl⟩
        rw [HCB.out]
        simp only [ah, lf]
        have ei := HEI.out
        have ej := HEJ.out
        clear gi gj
        congr 1
        symm
        first
          | (simp only [Bool.and_eq_true, decide_eq_true_eq]; omega)
          | (simp only [Bool.and_eq_false_iff, decide_eq_false_iff_not]; omega)
      · have gi : ((i : Int) == (n : Int) - 1) = true := by simp; omega
        have gj : ((j : Int) == 0) = false := by simp; omega
        have HEI := hid ei
        have HEJ := hid ej
        clear ei ej
        go_wp2_with fail
        go_meet
        refine ⟨?_, rfl⟩
        rw [HCB.out]
        simp only [ah, lf]
        have ei := HEI.out
        have ej := HEJ.out
        clear gi gj
        congr 1
        symm
        first
          | (simp only [Bool.and_eq_true, decide_eq_true_eq]; omega)
          | (simp only [Bool.and_eq_false_iff, decide_eq_false_iff_not]; omega)
      · have gi : ((i : Int) == (n : Int) - 1) = false := by simp; omega
        have gj : ((j : Int) == 0) = true := by simp; omega
        have HEI := hid ei
        have HEJ := hid ej
        clear ei ej
        go_wp2_with fail
        go_meet
        refine ⟨?_, rfl⟩
        rw [HCB.out]
        simp only [ah, lf]
        have ei := HEI.out
        have ej := HEJ.out
        clear gi gj
        congr 1
        symm
        first
          | (simp only [Bool.and_eq_true, decide_eq_true_eq]; omega)
          | (simp only [Bool.and_eq_false_iff, decide_eq_false_iff_not]; omega)
      · have gi : ((i : Int) == (n : Int) - 1) = false := by simp; omega
        have gj : ((j : Int) == 0) = false := by simp; omega
        have HEI := hid ei
        have HEJ := hid ej
        clear ei ej
        go_wp2_with fail
        go_meet
        refine ⟨?_, rfl⟩
        rw [HCB.out]
        simp only [ah, lf]
        have ei := HEI.out
        have ej := HEJ.out
        clear gi gj
        congr 1
        symm
        first
          | (simp only [Bool.and_eq_true, decide_eq_true_eq]; omega)
          | (simp only [Bool.and_eq_false_iff, decide_eq_false_iff_not]; omega)
  case rest =>
  obtain ⟨rfl, rfl⟩ := hcut
  clear HCB HI HJ
  cases cb
  · have CP : crn n c s 4 = (c, s) ∧ ∀ k, 0 < k → k < 4 → (crn n c s k).1 ≠ c := by simpa using HCP.out
    have HCP' := hid CP
    clear CP HCP
    go_wp2
    go_loopw [13, 14, 16] (fun av ov iv wr => ∃ k : Nat, k ≤ 4 ∧ iv = .int .i64 (k : Nat) ∧ av = .int .i64 ((crn n c s k).1 : Nat) ∧ ov = .int .i64 ((crn n c s k).2 : Nat) ∧ Ab (w.alloc (.cells #[.int .i64 a0, .int .i64 a1, .int .i64 a2, .int .i64 a3, .int .i64 a4, .int .i64 a5, .int .i64 a6, .int .i64 a7] 23)) wr) (fun _ _ iv _ => 4 - (intOf iv).toNat)
    case atStart => exact ⟨0, by omega, rfl, rfl, rfl, AL.out⟩
    case round =>
      obtain ⟨k, hk, rfl, rfl, rfl, A⟩ := hrel
      by_cases hkm : k < 4
      · have hk' : (k : Int) < 4 := by omega
        obtain ⟨l1, l2⟩ := CL.out k
        obtain ⟨l3, l4⟩ := CL.out (k + 1)
        have C1 := BS.out _ _ l1 l2 _ A
        have e3 : (crn n c s (k + 1)).1 = bsC n (crn n c s k).1 (crn n c s k).2 := rfl
        have e4 : (crn n c s (k + 1)).2 = (bsS n (crn n c s k).1 (crn n c s k).2 + 3) % 4 := rfl
        have e5 : 0 < k → (crn n c s k).1 ≠ c := fun h => HCP'.out.2 k h hkm
        have lb := (bs_lt (by omega) l1 l2).2
        obtain ⟨x, hx⟩ : ∃ x, (crn n c s k).1 = x := ⟨_, rfl⟩
        obtain ⟨y, hy⟩ : ∃ x, (crn n c s k).2 = x := ⟨_, rfl⟩
        rw [hx] at l1 C1 e3 e4 e5 lb ⊢
        rw [hy] at l2 C1 e3 e4 lb ⊢
        obtain ⟨d, hd⟩ : ∃ d, bsC n x y = d := ⟨_, rfl⟩
        obtain ⟨b, hb⟩ : ∃ d, bsS n x y = d := ⟨_, rfl⟩
        rw [hd] at C1 e3
        rw [hb] at C1 e4 lb
        have D1 := hid C1
        have AA := hid A
        have E3 := hid e3
        have E4 : Hid (((b : Int) + 3) % 4 = ((crn n c s (k + 1)).2 : Nat)) := by rw [e4]; simp [Hid]
        have lb' : (b : Int) < 4 := by omega
        have HK := hid hkm
        have E5 := hid e5
        clear C1 A l1 l2 l3 l4 e3 e4 e5 hx hy hd hb CL BS HCP' lb hkm
        by_cases hk0 : k = 0
        · have g0 : decide ((0 : Int) < k) = false := by simp; omega
          have g0' : decide (0 < k) = false := by simp; omega
          have g0'' : ¬ 0 < k := by omega
          have HK0 := hid hk0
          clear hk0 E5
          go_wp2_with fail
          refine D1.out.mono ?_
          rintro e wa ⟨rfl, ba⟩
          have A2 := hid (AA.out.call ba)
          clear ba
          go_wp2
          go_roundw
          case rel => exact ⟨k + 1, by have := HK.out; omega, by simp, by rw [E3.out], by rw [← E4.out], A2.out⟩
          case measure => have := HK.out; simp [intOf]; omega
        · have g0 : decide ((0 : Int) < k) = true := by simp; omega
          have g0' : decide (0 < k) = true := by simp; omega
          have g0'' : 0 < k := by omega
          have g1 : ((x : Int) == (c : Int)) = false := by have := E5.out (by omega); simp; omega
          have HK0 := hid hk0
          clear hk0 E5
          go_wp2_with fail
          refine D1.out.mono ?_
          rintro e wa ⟨rfl, ba⟩
          have A2 := hid (AA.out.call ba)
          clear ba
          go_wp2
          go_roundw
          case rel => exact ⟨k + 1, by have := HK.out; omega, by simp, by rw [E3.out], by rw [← E4.out], A2.out⟩
          case measure => have := HK.out; simp [intOf]; omega
      · obtain rfl : k = 4 := by omega
        have e := HCP'.out.1
        rw [e]
        have AA := hid A
        clear e A CL BS HCP' hkm
        go_wp2
        go_ret
        exact ⟨rfl, A0'.out.trans AA.out⟩
  · have CP : crn n c s 3 = (c, s) ∧ ∀ k, 0 < k → k < 3 → (crn n c s k).1 ≠ c := by simpa using HCP.out
    have HCP' := hid CP
    clear CP HCP
    go_wp2
    go_loopw [13, 14, 16] (fun av ov iv wr => ∃ k : Nat, k ≤ 3 ∧ iv = .int .i64 (k : Nat) ∧ av = .int .i64 ((crn n c s k).1 : Nat) ∧ ov = .int .i64 ((crn n c s k).2 : Nat) ∧ Ab (w.alloc (.cells #[.int .i64 a0, .int .i64 a1, .int .i64 a2, .int .i64 a3, .int .i64 a4, .int .i64 a5, .int .i64 a6, .int .i64 a7] 23)) wr) (fun _ _ iv _ => 3 - (intOf iv).toNat)
    case atStart => exact ⟨0, by omega, rfl, rfl, rfl, AL.out⟩
    case round =>
      obtain ⟨k, hk, rfl, rfl, rfl, A⟩ := hrel
      by_cases hkm : k < 3
      · have hk' : (k : Int) < 3 := by omega
        obtain ⟨l1, l2⟩ := CL.out k
        obtain ⟨l3, l4⟩ := CL.out (k + 1)
        have C1 := BS.out _ _ l1 l2 _ A
        have e3 : (crn n c s (k + 1)).1 = bsC n (crn n c s k).1 (crn n c s k).2 := rfl
        have e4 : (crn n c s (k + 1)).2 = (bsS n (crn n c s k).1 (crn n c s k).2 + 3) % 4 := rfl
        have e5 : 0 < k → (crn n c s k).1 ≠ c := fun h => HCP'.out.2 k h hkm
        have lb := (bs_lt (by omega) l1 l2).2
        obtain ⟨x, hx⟩ : ∃ x, (crn n c s k).1 = x := ⟨_, rfl⟩
        obtain ⟨y, hy⟩ : ∃ x, (crn n c s k).2 = x := ⟨_, rfl⟩
        rw [hx] at l1 C1 e3 e4 e5 lb ⊢
        rw [hy] at l2 C1 e3 e4 lb ⊢
        obtain ⟨d, hd⟩ : ∃ d, bsC n x y = d := ⟨_, rfl⟩
        obtain ⟨b, hb⟩ : ∃ d, bsS n x y = d := ⟨_, rfl⟩
        rw [hd] at C1 e3
        rw [hb] at C1 e4 lb
        have D1 := hid C1
        have AA := hid A
        have E3 := hid e3
        have E4 : Hid (((b : Int) + 3) % 4 = ((crn n c s (k + 1)).2 : Nat)) := by rw [e4]; simp [Hid]
        have lb' : (b : Int) < 4 := by omega
        have HK := hid hkm
        have E5 := hid e5
        clear C1 A l1 l2 l3 l4 e3 e4 e5 hx hy hd hb CL BS HCP' lb hkm
        by_cases hk0 : k = 0
        · have g0 : decide ((0 : Int) < k) = false := by simp; omega
          have g0' : decide (0 < k) = false := by simp; omega
          have g0'' : ¬ 0 < k := by omega
          have HK0 := hid hk0
          clear hk0 E5
          go_wp2_with fail
          refine D1.out.mono ?_
          rintro e wa ⟨rfl, ba⟩
          have A2 := hid (AA.out.call ba)
          clear ba
          go_wp2
          go_roundw
          case rel => exact ⟨k + 1, by have := HK.out; omega, by simp, by rw [E3.out], by rw [← E4.out], A2.out⟩
          case measure => have := HK.out; simp [intOf]; omega
        · have g0 : decide ((0 : Int) < k) = true := by simp; omega
          have g0' : decide (0 < k) = true := by simp; omega
          have g0'' : 0 < k := by omega
          have g1 : ((x : Int) == (c : Int)) = false := by have := E5.out (by omega); simp; omega
          have HK0 := hid hk0
          clear hk0 E5
          go_wp2_with fail
          refine D1.out.mono ?_
          rintro e wa ⟨rfl, ba⟩
          have A2 := hid (AA.out.call ba)
          clear ba
          go_wp2
          go_roundw
          case rel => exact ⟨k + 1, by have := HK.out; omega, by simp, by rw [E3.out], by rw [← E4.out], A2.out⟩
          case measure => have := HK.out; simp [intOf]; omega
      · obtain rfl : k = 3 := by omega
        have e := HCP'.out.1
        rw [e]
        have AA := hid A
        clear e A CL BS HCP' hkm
        go_wp2
        go_ret
        exact ⟨rfl, A0'.out.trans AA.out⟩
end Go.Proofs.YthmljifkncfjgaaDoor
