/-
  Some of the texts of this proof, one behind the other.
-/
import Derived.Test.YtnklgfmemelcpaaGreatDoorZ12
import Derived.Test.YtnklgfmemelcpaaGreatDoorZ02
/-
  What a net answers: walks over the program.
-/
namespace Go.Proofs.YtnklgfmemelcpaaGreatDoor
open Go.RowKit Cu Tf
attribute [local go_sem] run_store_float
theorem new_no (n : Int) (w : World) (h : ¬ (1 ≤ n ∧ n ≤ 32)) :
    Calls Tryz.prog 5 #[.int .i64 n] w fun e w' => e = .returned (.tuple #[.pointer none, .int .i64 10]) ∧ w' = w := by
  have CE := hid (fun u => cells_at n u)
  have hz : clN n = 0 := by unfold clN; rw [if_neg h]
  rw [hz] at CE
  clear h hz
  go_enter Tryz.func5, Tryz.ntmps5
  go_wp2_with (go_at_call 18; refine (CE.out _).mono ?_; rintro e w' ⟨rfl, rfl⟩)
  go_ret2
  exact ⟨rfl, rfl⟩
theorem gcounts_at (k n : Int) (w : World) : Calls Tryz.prog 38 #[.int .i64 k, .int .i64 n] w fun e w' => e = .returned (.bool (inR k n)) ∧ w' = w := by
  by_cases h : 0 ≤ k
  · go_enter Tryz.func38, Tryz.ntmps38
    go_wp2
    go_ret
    exact ⟨by simp [inR, h], rfl⟩
  · go_enter Tryz.func38, Tryz.ntmps38
    go_wp2
    go_ret
    exact ⟨by simp [inR]; omega, rfl⟩
theorem gSide_at {n gb : Nat} {w : World} (g : GridOf n gb w) : Calls Tryz.prog 7 #[.pointer (some ⟨gb, 0, none⟩)] w fun e w' => e = .returned (.int .i64 n) ∧ w' = w := by
  obtain ⟨mb, eb, cap, m, bb, ab, lb, pb, h1, -⟩ := g
  obtain ⟨c0, -⟩ := h1.cells
  clear h1
  go_enter Tryz.func7, Tryz.ntmps7
  go_wp2
  go_ret
  exact ⟨rfl, rfl⟩
theorem gCells_at {n gb : Nat} {w : World} (g : GridOf n gb w) : Calls Tryz.prog 9 #[.pointer (some ⟨gb, 0, none⟩)] w fun e w' => e = .returned (.int .i64 (6 * n * n : Nat)) ∧ w' = w := by
  obtain ⟨mb, eb, cap, m, bb, ab, lb, pb, h1, -⟩ := g
  obtain ⟨-, -, -, -, c4, -⟩ := h1.cells
  generalize 6 * n * n = N at *
  clear h1
  go_enter Tryz.func9, Tryz.ntmps9
  go_wp2
  go_ret
  exact ⟨rfl, rfl⟩
theorem gEdges_at {n gb : Nat} {w : World} (g : GridOf n gb w) : Calls Tryz.prog 11 #[.pointer (some ⟨gb, 0, none⟩)] w fun e w' => e = .returned (.int .i64 (12 * n * n : Nat)) ∧ w' = w := by
  obtain ⟨mb, eb, cap, m, bb, ab, lb, pb, h1, -⟩ := g
  obtain ⟨-, c1, -⟩ := h1.cells
  clear h1
  generalize 12 * n * n = M at *
  go_enter Tryz.func11, Tryz.ntmps11
  go_wp2
  go_ret
  exact ⟨rfl, rfl⟩
theorem inR_true {k N : Nat} (h : k < N) : inR (k : Int) (N : Int) = true := by rw [inR_iff]; omega
set_option maxHeartbeats 2000000 in
theorem gEdge_ok {n gb t : Nat} {w : World} (hn : 1 ≤ n ∧ n ≤ 32) (ht : t < 24 * n * n) (hl : isL n t = true) (g : GridOf n gb w) :
    Calls Tryz.prog 14 #[.pointer (some ⟨gb, 0, none⟩), .int .i64 (eN n t : Nat)] w fun e w' => e = .returned (.tuple #[.agg #[.int .i64 (t / 4 : Nat), .int .i64 (t % 4 : Nat), .int .i64 (bsC n (t / 4) (t % 4) : Nat), .int .i64 (bsS n (t / 4) (t % 4) : Nat)], .bool true]) ∧ Below w.heap.size w w' := by
  have E1 := hid (gEdges_at (g.to (bl1 w (.cells #[.int .i64 0, .int .i64 0, .int .i64 0, .int .i64 0] 37))))
  have C1 := hid (fun u => gcounts_at (eN n t : Nat) (12 * n * n : Nat) u)
  rw [inR_true (ed_lt hn.1 ht hl)] at C1
  obtain ⟨mb, eb, cap, m, bb, ab, lb, pb, h1, -⟩ := g
  obtain ⟨-, c1, -⟩ := h1.cells
  obtain ⟨y0, y1, y2, y3⟩ := h1.2.1.2 t ht hl
  have lg := lt_of_block h1.1
  have le := h1.2.1.1
  have kN := ed_lt hn.1 ht hl
  have R0 := hid (heap_alloc_new w (.cells #[.int .i64 0, .int .i64 0, .int .i64 0, .int .i64 0] 37))
  have A0 := hid (bl1 w (.cells #[.int .i64 0, .int .i64 0, .int .i64 0, .int .i64 0] 37))
  generalize bsC n (t / 4) (t % 4) = d at *
  generalize bsS n (t / 4) (t % 4) = b at *
  generalize t / 4 = c at *
  generalize t % 4 = s at *
  generalize eN n t = k at *
  generalize 12 * n * n = M at *
  have hk1 : (k : Int) < M := by omega
  clear h1 hn ht hl
  go_enter Tryz.func14, Tryz.ntmps14
  go_wp2_with (first
    | (go_at_call 11; refine (E1.out).mono ?_; rintro e w' ⟨rfl, hw⟩; have hw2 := hw.symm; subst hw2)
    | (go_at_call 38; refine (C1.out _).mono ?_; rintro e w' ⟨rfl, hw⟩; have hw2 := hw.symm; subst hw2))
  refine bodyPost_ret ?_ rfl ⟨rfl, ?_⟩
  · exact res_two Tryz.results14 _ _ w.heap.size _ _ (0, 0) _ _ rfl rfl (heap_alloc_new w _) Tryz.underlying37 rfl (by kernel_rfl)
  · exact bl1 w _
set_option maxHeartbeats 2000000 in
theorem gEdge_no {n gb : Nat} {k : Int} {w : World} (hk : inR k (12 * n * n : Nat) = false) (g : GridOf n gb w) :
    Calls Tryz.prog 14 #[.pointer (some ⟨gb, 0, none⟩), .int .i64 k] w fun e w' => e = .returned (.tuple #[.agg #[.int .i64 0, .int .i64 0, .int .i64 0, .int .i64 0], .bool false]) ∧ Below w.heap.size w w' := by
  have E1 := hid (gEdges_at (g.to (bl1 w (.cells #[.int .i64 0, .int .i64 0, .int .i64 0, .int .i64 0] 37))))
  have C1 := hid (fun u => gcounts_at k (12 * n * n : Nat) u)
  rw [hk] at C1
  generalize 12 * n * n = M at *
  clear hk g
  go_enter Tryz.func14, Tryz.ntmps14
  go_wp2_with (first
    | (go_at_call 11; refine (E1.out).mono ?_; rintro e w' ⟨rfl, hw⟩; have hw2 := hw.symm; subst hw2)
    | (go_at_call 38; refine (C1.out _).mono ?_; rintro e w' ⟨rfl, hw⟩; have hw2 := hw.symm; subst hw2))
  refine bodyPost_ret ?_ rfl ⟨rfl, ?_⟩
  · exact res_two Tryz.results14 _ _ w.heap.size _ _ (0, 0) _ _ rfl rfl (heap_alloc_new w _) Tryz.underlying37 rfl (by kernel_rfl)
  · exact bl1 w _
set_option maxHeartbeats 2000000 in
theorem gAround_at {n gb : Nat} {c s : Int} {w : World} (hc : W64 c) (hs : W64 s) (g : GridOf n gb w) :
    Calls Tryz.prog 15 #[.pointer (some ⟨gb, 0, none⟩), .int .i64 c, .int .i64 s] w fun e w' => e = .returned (.tuple #[.int .i64 (gT n (24 * n * n) c s).1, .int .i64 (gT n (24 * n * n) c s).2]) ∧ Below w.heap.size w w' := by
  obtain ⟨mb, eb, cap, m, bb, ab, lb, pb, h1, -⟩ := g
  obtain ⟨-, -, c2, -⟩ := h1.cells
  have LK := h1.2.2.1.look hc hs
  generalize (gT n (24 * n * n) c s).1 = x at *
  generalize (gT n (24 * n * n) c s).2 = y at *
  clear h1 hc hs
  go_enter Tryz.func15, Tryz.ntmps15
  go_upto_region 4 with fail
  go_region
  go_wp2
  go_ret2
  exact ⟨rfl, by first | exact bl1 w _ | exact Below.drew (bl1 w _)⟩
set_option maxHeartbeats 2000000 in
theorem gBehind_ok {n gb t : Nat} {w : World} (hn : 1 ≤ n ∧ n ≤ 32) (ht : t < 24 * n * n) (hl : isL n t = true) (g : GridOf n gb w) :
    Calls Tryz.prog 16 #[.pointer (some ⟨gb, 0, none⟩), .int .i64 (eN n t : Nat)] w fun e w' => e = .returned (.tuple #[.int .i64 (bsC n (t / 4) ((t % 4 + 2) % 4) : Nat), .int .i64 (bsC n (bsC n (t / 4) (t % 4)) ((bsS n (t / 4) (t % 4) + 2) % 4) : Nat), .bool true]) ∧ Below w.heap.size w w' := by
  have E1 := hid (gEdges_at g)
  have C1 := hid (fun u => gcounts_at (eN n t : Nat) (12 * n * n : Nat) u)
  have kN := ed_lt hn.1 ht hl
  rw [inR_true kN] at C1
  obtain ⟨mb, eb, cap, m, bb, ab, lb, pb, h1, h2, -⟩ := g
  obtain ⟨-, -, -, c3, -⟩ := h1.cells
  have y0 := h2.cell (i := eN n t * 2) (by omega)
  have y1 := h2.cell (i := eN n t * 2 + 1) (by omega)
  have e0 : bhC n (eN n t * 2) = (bsC n (t / 4) ((t % 4 + 2) % 4) : Nat) := by
    unfold bhC
    rw [if_pos (by omega), show eN n t * 2 / 2 = eN n t by omega, edT_eN hn.1 ht hl]
  have e1 : bhC n (eN n t * 2 + 1) = (bsC n (bsC n (t / 4) (t % 4)) ((bsS n (t / 4) (t % 4) + 2) % 4) : Nat) := by
    unfold bhC
    rw [if_neg (by omega), show (eN n t * 2 + 1) / 2 = eN n t by omega, edT_eN hn.1 ht hl]
  rw [e0] at y0
  rw [e1] at y1
  have lg := lt_of_block h1.1
  have le := h2.lt
  clear e0 e1 h2
  generalize bsC n (bsC n (t / 4) (t % 4)) ((bsS n (t / 4) (t % 4) + 2) % 4) = q2 at *
  generalize bsC n (t / 4) ((t % 4 + 2) % 4) = q1 at *
  generalize eN n t = k at *
  generalize 12 * n * n = M at *
  have hk1 : (k : Int) < M := by omega
  clear h1 hn ht hl
  go_enter Tryz.func16, Tryz.ntmps16
  go_upto_region 4 with (first
    | (go_at_call 11; refine (E1.out).mono ?_; rintro e w' ⟨rfl, hw⟩; have hw2 := hw.symm; subst hw2)
    | (go_at_call 38; refine (C1.out _).mono ?_; rintro e w' ⟨rfl, hw⟩; have hw2 := hw.symm; subst hw2))
  go_region
  go_wp2
  refine bodyPost_ret ?_ rfl ⟨rfl, ?_⟩
  · simp [results, Tryz.results16, go_sem]
  · first | exact bl1 w _ | exact Below.drew (bl1 w _)
set_option maxHeartbeats 2000000 in
theorem gBehind_no {n gb : Nat} {k : Int} {w : World} (hk : inR k (12 * n * n : Nat) = false) (g : GridOf n gb w) :
    Calls Tryz.prog 16 #[.pointer (some ⟨gb, 0, none⟩), .int .i64 k] w fun e w' => e = .returned (.tuple #[.int .i64 0, .int .i64 0, .bool false]) ∧ Below w.heap.size w w' := by
  have E1 := hid (gEdges_at g)
  have C1 := hid (fun u => gcounts_at k (12 * n * n : Nat) u)
  rw [hk] at C1
  generalize 12 * n * n = M at *
  clear hk g
  go_enter Tryz.func16, Tryz.ntmps16
  go_wp2_with (first
    | (go_at_call 11; refine (E1.out).mono ?_; rintro e w' ⟨rfl, hw⟩; have hw2 := hw.symm; subst hw2)
    | (go_at_call 38; refine (C1.out _).mono ?_; rintro e w' ⟨rfl, hw⟩; have hw2 := hw.symm; subst hw2))
  refine bodyPost_ret ?_ rfl ⟨rfl, Below.refl _ _⟩
  simp [results, Tryz.results16, go_sem]
set_option maxHeartbeats 2000000 in
theorem gArea_ok {n gb k : Nat} {w : World} (hn : 1 ≤ n ∧ n ≤ 32) (hk : k < 6 * n * n) (g : GridOf n gb w) :
    Calls Tryz.prog 17 #[.pointer (some ⟨gb, 0, none⟩), .int .i64 k] w fun e w' => e = .returned (.int .i64 (arI (ArC n k))) ∧ Below w.heap.size w w' := by
  have E1 := hid (gCells_at g)
  have C1 := hid (fun u => gcounts_at (k : Nat) (6 * n * n : Nat) u)
  have hN := (n12 hn)
  rw [inR_true hk] at C1
  obtain ⟨mb, eb, cap, m, bb, ab, lb, pb, h1, -, hr, -⟩ := g
  have c0 := h1.cells.2.2.2.2.1
  have y0 := hr.cell hk

  have lg := lt_of_block h1.1
  have le := hr.lt
  clear hr
  generalize arI (ArC n k) = V at *
  have hk2 : ((6 * n * n : Nat) : Int) ≤ 12288 := by omega
  generalize 6 * n * n = M at *
  have hk1 : (k : Int) < M := by omega
  clear h1 hn hN hk
  go_enter Tryz.func17, Tryz.ntmps17
  go_wp2_with (first
    | (go_at_call 9; refine (E1.out).mono ?_; rintro e w' ⟨rfl, hw⟩; have hw2 := hw.symm; subst hw2)
    | (go_at_call 38; refine (C1.out _).mono ?_; rintro e w' ⟨rfl, hw⟩; have hw2 := hw.symm; subst hw2))
  go_ret
  exact ⟨rfl, Below.refl _ _⟩
set_option maxHeartbeats 2000000 in
theorem gArea_no {n gb : Nat} {k : Int} {w : World} (hk : inR k (6 * n * n : Nat) = false) (g : GridOf n gb w) :
    Calls Tryz.prog 17 #[.pointer (some ⟨gb, 0, none⟩), .int .i64 k] w fun e w' => e = .returned (.int .i64 0) ∧ Below w.heap.size w w' := by
  have E1 := hid (gCells_at g)
  have C1 := hid (fun u => gcounts_at k (6 * n * n : Nat) u)
  rw [hk] at C1
  generalize 6 * n * n = M at *
  clear hk g
  go_enter Tryz.func17, Tryz.ntmps17
  go_wp2_with (first
    | (go_at_call 9; refine (E1.out).mono ?_; rintro e w' ⟨rfl, hw⟩; have hw2 := hw.symm; subst hw2)
    | (go_at_call 38; refine (C1.out _).mono ?_; rintro e w' ⟨rfl, hw⟩; have hw2 := hw.symm; subst hw2))
  go_ret
  exact ⟨rfl, Below.refl _ _⟩
set_option maxHeartbeats 2000000 in
theorem gLength_ok {n gb k : Nat} {w : World} (hn : 1 ≤ n ∧ n ≤ 32) (hk : k < 12 * n * n) (g : GridOf n gb w) :
    Calls Tryz.prog 34 #[.pointer (some ⟨gb, 0, none⟩), .int .i64 k] w fun e w' => e = .returned (.float .f64 (LnC n (edT n k / 4) (edT n k % 4))) ∧ Below w.heap.size w w' := by
  have E1 := hid (gEdges_at g)
  have C1 := hid (fun u => gcounts_at (k : Nat) (12 * n * n : Nat) u)
  have hN := (n12 hn)
  rw [inR_true hk] at C1
  obtain ⟨mb, eb, cap, m, bb, ab, lb, pb, h1, -, -, hr, -⟩ := g
  have c0 := h1.cells.2.2.2.2.2.1
  have y0 := hr.cell hk

  have lg := lt_of_block h1.1
  have le := hr.lt
  clear hr
  generalize LnC n (edT n k / 4) (edT n k % 4) = V at *
  have hk2 : ((12 * n * n : Nat) : Int) ≤ 12288 := by omega
  generalize 12 * n * n = M at *
  have hk1 : (k : Int) < M := by omega
  clear h1 hn hN hk
  go_enter Tryz.func34, Tryz.ntmps34
  go_wp2_with (first
    | (go_at_call 11; refine (E1.out).mono ?_; rintro e w' ⟨rfl, hw⟩; have hw2 := hw.symm; subst hw2)
    | (go_at_call 38; refine (C1.out _).mono ?_; rintro e w' ⟨rfl, hw⟩; have hw2 := hw.symm; subst hw2))
  go_ret
  exact ⟨rfl, Below.refl _ _⟩
set_option maxHeartbeats 2000000 in
theorem gLength_no {n gb : Nat} {k : Int} {w : World} (hk : inR k (12 * n * n : Nat) = false) (g : GridOf n gb w) :
    Calls Tryz.prog 34 #[.pointer (some ⟨gb, 0, none⟩), .int .i64 k] w fun e w' => e = .returned (.float .f64 0) ∧ Below w.heap.size w w' := by
  have E1 := hid (gEdges_at g)
  have C1 := hid (fun u => gcounts_at k (12 * n * n : Nat) u)
  rw [hk] at C1
  generalize 12 * n * n = M at *
  clear hk g
  go_enter Tryz.func34, Tryz.ntmps34
  go_wp2_with (first
    | (go_at_call 11; refine (E1.out).mono ?_; rintro e w' ⟨rfl, hw⟩; have hw2 := hw.symm; subst hw2)
    | (go_at_call 38; refine (C1.out _).mono ?_; rintro e w' ⟨rfl, hw⟩; have hw2 := hw.symm; subst hw2))
  go_ret
  exact ⟨rfl, Below.refl _ _⟩
set_option maxHeartbeats 2000000 in
theorem gGap_ok {n gb k : Nat} {w : World} (hn : 1 ≤ n ∧ n ≤ 32) (hk : k < 12 * n * n) (g : GridOf n gb w) :
    Calls Tryz.prog 36 #[.pointer (some ⟨gb, 0, none⟩), .int .i64 k] w fun e w' => e = .returned (.float .f64 (GpC n (edT n k / 4) (edT n k % 4))) ∧ Below w.heap.size w w' := by
  have E1 := hid (gEdges_at g)
  have C1 := hid (fun u => gcounts_at (k : Nat) (12 * n * n : Nat) u)
  have hN := (n12 hn)
  rw [inR_true hk] at C1
  obtain ⟨mb, eb, cap, m, bb, ab, lb, pb, h1, -, -, -, hr⟩ := g
  have c0 := h1.cells.2.2.2.2.2.2
  have y0 := hr.cell hk

  have lg := lt_of_block h1.1
  have le := hr.lt
  clear hr
  generalize GpC n (edT n k / 4) (edT n k % 4) = V at *
  have hk2 : ((12 * n * n : Nat) : Int) ≤ 12288 := by omega
  generalize 12 * n * n = M at *
  have hk1 : (k : Int) < M := by omega
  clear h1 hn hN hk
  go_enter Tryz.func36, Tryz.ntmps36
  go_wp2_with (first
    | (go_at_call 11; refine (E1.out).mono ?_; rintro e w' ⟨rfl, hw⟩; have hw2 := hw.symm; subst hw2)
    | (go_at_call 38; refine (C1.out _).mono ?_; rintro e w' ⟨rfl, hw⟩; have hw2 := hw.symm; subst hw2))
  go_ret
  exact ⟨rfl, Below.refl _ _⟩
set_option maxHeartbeats 2000000 in
theorem gGap_no {n gb : Nat} {k : Int} {w : World} (hk : inR k (12 * n * n : Nat) = false) (g : GridOf n gb w) :
    Calls Tryz.prog 36 #[.pointer (some ⟨gb, 0, none⟩), .int .i64 k] w fun e w' => e = .returned (.float .f64 0) ∧ Below w.heap.size w w' := by
  have E1 := hid (gEdges_at g)
  have C1 := hid (fun u => gcounts_at k (12 * n * n : Nat) u)
  rw [hk] at C1
  generalize 12 * n * n = M at *
  clear hk g
  go_enter Tryz.func36, Tryz.ntmps36
  go_wp2_with (first
    | (go_at_call 11; refine (E1.out).mono ?_; rintro e w' ⟨rfl, hw⟩; have hw2 := hw.symm; subst hw2)
    | (go_at_call 38; refine (C1.out _).mono ?_; rintro e w' ⟨rfl, hw⟩; have hw2 := hw.symm; subst hw2))
  go_ret
  exact ⟨rfl, Below.refl _ _⟩
end Go.Proofs.YtnklgfmemelcpaaGreatDoor

/-
  Points of the reference cube: contracts.
-/
namespace Go.Proofs.YtnklgfmemelcpaaGreatDoor
open Go.RowKit Cu
set_option maxHeartbeats 1000000 in
theorem rplus_ex (p : P3) (k : Int) (q : P3) (w : World) (hp : Sm p) (hr : Sm (sc k q)) :
    Calls Tryz.prog 45 #[.agg #[.int .i64 p.1, .int .i64 p.2.1, .int .i64 p.2.2], .int .i64 k, .agg #[.int .i64 q.1, .int .i64 q.2.1, .int .i64 q.2.2]] w fun e w' => e = .returned (.agg #[.int .i64 (pl p (sc k q)).1, .int .i64 (pl p (sc k q)).2.1, .int .i64 (pl p (sc k q)).2.2]) ∧ w' = ((w.alloc (.cells #[.int .i64 p.1, .int .i64 p.2.1, .int .i64 p.2.2] 75)).alloc (.cells #[.int .i64 q.1, .int .i64 q.2.1, .int .i64 q.2.2] 75)).alloc (.cells #[.int .i64 (pl p (sc k q)).1, .int .i64 (pl p (sc k q)).2.1, .int .i64 (pl p (sc k q)).2.2] 75) := by
  obtain ⟨x, y, z⟩ := p
  obtain ⟨a, b, c⟩ := q
  obtain ⟨hx, hy, hz⟩ := hp
  obtain ⟨ha, hb, hc⟩ := hr
  simp only [pl, sc] at *
  go_enter Tryz.func45, Tryz.ntmps45
  go_wp2
  refine bodyPost_ret ?_ rfl ⟨rfl, rfl⟩
  exact results_cell_row Tryz.results45 _ _ (w.heap.size + 2) _ _ (0, 0) _ rfl (heap_alloc3_new _ _ _ _) Tryz.underlying75 rfl (by kernel_rfl)
theorem rplus_at (p : P3) (k : Int) (q : P3) (w : World) (hp : Sm p) (hr : Sm (sc k q)) :
    Calls Tryz.prog 45 #[.agg #[.int .i64 p.1, .int .i64 p.2.1, .int .i64 p.2.2], .int .i64 k, .agg #[.int .i64 q.1, .int .i64 q.2.1, .int .i64 q.2.2]] w fun e w' => e = .returned (.agg #[.int .i64 (pl p (sc k q)).1, .int .i64 (pl p (sc k q)).2.1, .int .i64 (pl p (sc k q)).2.2]) ∧ Below w.heap.size w w' :=
  (rplus_ex p k q w hp hr).mono fun _ _ ⟨he, hw⟩ => ⟨he, hw ▸ bl3 _ _ _ _⟩
set_option maxHeartbeats 1000000 in
theorem rdot_at (p q : P3) (w : World) (hp : Sm p) (hq : Un q) :
    Calls Tryz.prog 49 #[.agg #[.int .i64 p.1, .int .i64 p.2.1, .int .i64 p.2.2], .agg #[.int .i64 q.1, .int .i64 q.2.1, .int .i64 q.2.2]] w fun e w' => e = .returned (.int .i64 (dt p q)) ∧ Below w.heap.size w w' := by
  obtain ⟨x, y, z⟩ := p
  obtain ⟨a, b, c⟩ := q
  have hx := (mul_un hq.1 10000 hp.1).1
  have hy := (mul_un hq.2.1 10000 hp.2.1).1
  have hz := (mul_un hq.2.2 10000 hp.2.2).1
  clear hp hq
  simp only [dt] at *
  go_enter Tryz.func49, Tryz.ntmps49
  go_wp2
  go_ret
  exact ⟨rfl, bl2 _ _ _⟩
theorem results_cell3 {P : Program} {fn : Func} {p q r : Tmp} {ty : TypeId} (h : fn.results = #[.cell p ty, .cell q ty, .cell r ty]) (tmps : Array Value) (w : World) (g0 g1 g2 : Nat) (t : TypeId) (c0 c1 c2 : Array Value) (d : TypeDesc)
    (hp : tmps.getD p undef = .pointer (some ⟨g0, 0, none⟩)) (hq : tmps.getD q undef = .pointer (some ⟨g1, 0, none⟩)) (hr : tmps.getD r undef = .pointer (some ⟨g2, 0, none⟩))
    (h0 : w.heap[g0]? = some (.cells c0 t)) (h1 : w.heap[g1]? = some (.cells c1 t)) (h2 : w.heap[g2]? = some (.cells c2 t))
    (hu : P.underlying ty = some d) (hd : (match d with | .struct _ | .array _ _ => true | _ => false) = true) (i0 : (P.info? ty).map (·.size) = some c0.size) (i1 : (P.info? ty).map (·.size) = some c1.size) (i2 : (P.info? ty).map (·.size) = some c2.size) :
    (results fn tmps).run P w = .ok (.tuple #[.agg c0, .agg c1, .agg c2]) w := by
  have hp' : tmps[p]?.getD undef = .pointer (some ⟨g0, 0, none⟩) := by simpa using hp
  have hq' : tmps[q]?.getD undef = .pointer (some ⟨g1, 0, none⟩) := by simpa using hq
  have hr' : tmps[r]?.getD undef = .pointer (some ⟨g2, 0, none⟩) := by simpa using hr
  simp [results, h, hp', hq', hr', asAddr, run_loadVar_row w g0 t ty c0 (0, 0) d h0 hu hd i0, run_loadVar_row w g1 t ty c1 (0, 0) d h1 hu hd i1, run_loadVar_row w g2 t ty c2 (0, 0) d h2 hu hd i2]
/-- as Ab, but for the three blocks from g on, which are points -/
def A3 (W : World) (g : Nat) (w : World) : Prop :=
  (w.os = W.os ∧ w.tape = W.tape ∧ w.output = W.output ∧ W.heap.size ≤ w.heap.size ∧ ∀ k, k < W.heap.size → (k < g ∨ g + 3 ≤ k) → w.heap[k]? = W.heap[k]?) ∧
  ∀ j, j < 3 → ∃ a b c : Value, w.heap[g + j]? = some (.cells #[a, b, c] 75)
theorem Ab.a3 {W w : World} (h : Ab W w) {g : Nat} (hg : ∀ j, j < 3 → ∃ a b c : Value, W.heap[g + j]? = some (.cells #[a, b, c] 75)) : A3 W g w :=
  ⟨⟨Below.os h, Below.tape h, Below.output h, Below.size h, fun k hk _ => Below.block h k hk⟩, fun j hj => by obtain ⟨a, b, c, e⟩ := hg j hj; exact ⟨a, b, c, h.heap e⟩⟩
theorem A3.drew {W w : World} {g : Nat} (a : A3 W g w) : A3 W g w.drew := a
theorem A3.call {W u w : World} {g : Nat} (a : A3 W g u) (b : Below u.heap.size u w) : A3 W g w := by
  obtain ⟨⟨h1, h2, h3, h4, h5⟩, h6⟩ := a
  refine ⟨⟨b.os.trans h1, b.tape.trans h2, b.output.trans h3, Nat.le_trans h4 b.size, fun k hk hne => (b.block k (by omega)).trans (h5 k hk hne)⟩, fun j hj => ?_⟩
  obtain ⟨x, y, z, e⟩ := h6 j hj
  exact ⟨x, y, z, (b.block _ (lt_of_block e)).trans e⟩
theorem A3.set {W w : World} {g : Nat} (a : A3 W g w) (i : Nat) (hi : i < 3) (k : Nat) (v : Value) : A3 W g (w.setCell ⟨g + i, k, none⟩ v) := by
  obtain ⟨⟨h1, h2, h3, h4, h5⟩, h6⟩ := a
  refine ⟨⟨h1, h2, h3, by simpa [World.setCell] using h4, fun l hl hne => (Below.heap_setCell _ _ _ _ (by show l ≠ g + i; omega)).trans (h5 l hl hne)⟩, fun j hj => ?_⟩
  obtain ⟨x, y, z, e⟩ := h6 j hj
  by_cases hji : j = i
  · subst hji
    obtain ⟨p, q, r, e2⟩ := set_k (a := x) (b := y) (c := z) (v := v) k
    have o := one_set (k := k) (v := v) e
    rw [e2] at o
    exact ⟨p, q, r, o⟩
  · exact ⟨x, y, z, (Below.heap_setCell _ _ _ _ (by show g + j ≠ g + i; omega)).trans e⟩
theorem A3.heap {W w : World} {g k : Nat} {o : Obj} (a : A3 W g w) (n1 : k < g ∨ g + 3 ≤ k) (hk : W.heap[k]? = some o) : w.heap[k]? = some o := by
  have hlt : k < W.heap.size := by
    rcases Nat.lt_or_ge k W.heap.size with h1 | h1
    · exact h1
    · rw [Array.getElem?_eq_none h1] at hk; cases hk
  exact (a.1.2.2.2.2 k hlt n1).trans hk
theorem A3.ab {w0 W w : World} {g : Nat} (a : A3 W g w) (b : Ab w0 W) (hg : w0.heap.size ≤ g) : Ab w0 w := by
  obtain ⟨⟨h1, h2, h3, h4, h5⟩, _⟩ := a
  exact ⟨h1.trans b.os, h2.trans b.tape, h3.trans b.output, Nat.le_trans (Below.size b) h4, fun k hk => (h5 k (Nat.lt_of_lt_of_le hk (Below.size b)) (by omega)).trans (b.block k hk)⟩
theorem A3.facts {W w : World} {g : Nat} (a : A3 W g w) (j : Nat) (hj : j < 3) : (w.frozen? ⟨g + j, 0, none⟩ = false ∧ w.frozen? ⟨g + j, 1, none⟩ = false ∧ w.frozen? ⟨g + j, 2, none⟩ = false) ∧ w.cell? ⟨g + j, 0, none⟩ = some (rv w (g + j) 0) ∧ w.cell? ⟨g + j, 1, none⟩ = some (rv w (g + j) 1) ∧ w.cell? ⟨g + j, 2, none⟩ = some (rv w (g + j) 2) := by
  obtain ⟨x, y, z, hg⟩ := a.2 j hj
  have e : ∀ k, w.cell? ⟨g + j, k, none⟩ = #[x, y, z][k]? := fun k => cell_of_row _ _ k _ _ _ hg
  refine ⟨⟨free_row hg 0, free_row hg 1, free_row hg 2⟩, ?_, ?_, ?_⟩ <;> simp [rv, e]
end Go.Proofs.YtnklgfmemelcpaaGreatDoor
