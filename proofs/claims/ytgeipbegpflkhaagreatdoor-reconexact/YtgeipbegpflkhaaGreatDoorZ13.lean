/-
  Some of the texts of this proof, one behind the other.
-/
import Derived.Test.YtgeipbegpflkhaaGreatDoorZ12
import Derived.Laws.StructEq
import Derived.Test.YtgeipbegpflkhaaGreatDoorZ05
import Derived.StillTail
import Derived.Test.YtgeipbegpflkhaaGreatDoorZ03
import Derived.Deep.RegionWith
import Derived.Test.YtgeipbegpflkhaaGreatDoorZ07
import Derived.Test.YtgeipbegpflkhaaGreatDoorZ09
/-
  What a net answers: walks over the program.
-/
namespace Go.Proofs.YtgeipbegpflkhaaGreatDoor
open Go.RowKit Cu Tf
attribute [local go_sem] run_store_float
theorem new_no (n : Int) (w : World) (h : ¬ (1 ≤ n ∧ n ≤ 32)) :
    Calls Tryz.prog 6 #[.int .i64 n] w fun e w' => e = .returned (.tuple #[.pointer none, .int .i64 10]) ∧ w' = w := by
  have CE := hid (fun u => cells_at n u)
  have hz : clN n = 0 := by unfold clN; rw [if_neg h]
  rw [hz] at CE
  clear h hz
  go_enter Tryz.func6, Tryz.ntmps6
  go_wp2_with (go_at_call 16; refine (CE.out _).mono ?_; rintro e w' ⟨rfl, rfl⟩)
  go_ret2
  exact ⟨rfl, rfl⟩
theorem gcounts_at (k n : Int) (w : World) : Calls Tryz.prog 78 #[.int .i64 k, .int .i64 n] w fun e w' => e = .returned (.bool (inR k n)) ∧ w' = w := by
  by_cases h : 0 ≤ k
  · go_enter Tryz.func78, Tryz.ntmps78
    go_wp2
    go_ret
    exact ⟨by simp [inR, h], rfl⟩
  · go_enter Tryz.func78, Tryz.ntmps78
    go_wp2
    go_ret
    exact ⟨by simp [inR]; omega, rfl⟩
theorem gCells_at {n gb : Nat} {w : World} (g : GridOf n gb w) : Calls Tryz.prog 59 #[.pointer (some ⟨gb, 0, none⟩)] w fun e w' => e = .returned (.int .i64 (6 * n * n : Nat)) ∧ w' = w := by
  obtain ⟨mb, eb, cap, m, bb, ab, lb, pb, h1, -⟩ := g
  obtain ⟨-, -, -, -, c4, -⟩ := h1.cells
  generalize 6 * n * n = N at *
  clear h1
  go_enter Tryz.func59, Tryz.ntmps59
  go_wp2
  go_ret
  exact ⟨rfl, rfl⟩
theorem gEdges_at {n gb : Nat} {w : World} (g : GridOf n gb w) : Calls Tryz.prog 42 #[.pointer (some ⟨gb, 0, none⟩)] w fun e w' => e = .returned (.int .i64 (12 * n * n : Nat)) ∧ w' = w := by
  obtain ⟨mb, eb, cap, m, bb, ab, lb, pb, h1, -⟩ := g
  obtain ⟨-, c1, -⟩ := h1.cells
  clear h1
  generalize 12 * n * n = M at *
  go_enter Tryz.func42, Tryz.ntmps42
  go_wp2
  go_ret
  exact ⟨rfl, rfl⟩
theorem inR_true {k N : Nat} (h : k < N) : inR (k : Int) (N : Int) = true := by rw [inR_iff]; omega
set_option maxHeartbeats 2000000 in
theorem gEdge_ok {n gb t : Nat} {w : World} (hn : 1 ≤ n ∧ n ≤ 32) (ht : t < 24 * n * n) (hl : isL n t = true) (g : GridOf n gb w) :
    Calls Tryz.prog 60 #[.pointer (some ⟨gb, 0, none⟩), .int .i64 (eN n t : Nat)] w fun e w' => e = .returned (.tuple #[.agg #[.int .i64 (t / 4 : Nat), .int .i64 (t % 4 : Nat), .int .i64 (bsC n (t / 4) (t % 4) : Nat), .int .i64 (bsS n (t / 4) (t % 4) : Nat)], .bool true]) ∧ Below w.heap.size w w' := by
  have E1 := hid (gEdges_at (g.to (bl1 w (.cells #[.int .i64 0, .int .i64 0, .int .i64 0, .int .i64 0] 70))))
  have C1 := hid (fun u => gcounts_at (eN n t : Nat) (12 * n * n : Nat) u)
  rw [inR_true (ed_lt hn.1 ht hl)] at C1
  obtain ⟨mb, eb, cap, m, bb, ab, lb, pb, h1, -⟩ := g
  obtain ⟨-, c1, -⟩ := h1.cells
  obtain ⟨y0, y1, y2, y3⟩ := h1.2.1.2 t ht hl
  have lg := lt_of_block h1.1
  have le := h1.2.1.1
  have kN := ed_lt hn.1 ht hl
  have R0 := hid (heap_alloc_new w (.cells #[.int .i64 0, .int .i64 0, .int .i64 0, .int .i64 0] 70))
  have A0 := hid (bl1 w (.cells #[.int .i64 0, .int .i64 0, .int .i64 0, .int .i64 0] 70))
  generalize bsC n (t / 4) (t % 4) = d at *
  generalize bsS n (t / 4) (t % 4) = b at *
  generalize t / 4 = c at *
  generalize t % 4 = s at *
  generalize eN n t = k at *
  generalize 12 * n * n = M at *
  have hk1 : (k : Int) < M := by omega
  clear h1 hn ht hl
  go_enter Tryz.func60, Tryz.ntmps60
  go_wp2_with (first
    | (go_at_call 42; refine (E1.out).mono ?_; rintro e w' ⟨rfl, hw⟩; have hw2 := hw.symm; subst hw2)
    | (go_at_call 78; refine (C1.out _).mono ?_; rintro e w' ⟨rfl, hw⟩; have hw2 := hw.symm; subst hw2))
  refine bodyPost_ret ?_ rfl ⟨rfl, ?_⟩
  · exact res_two Tryz.results60 _ _ w.heap.size _ _ (0, 0) _ _ rfl rfl (heap_alloc_new w _) Tryz.underlying70 rfl (by kernel_rfl)
  · exact bl1 w _
set_option maxHeartbeats 2000000 in
theorem gEdge_no {n gb : Nat} {k : Int} {w : World} (hk : inR k (12 * n * n : Nat) = false) (g : GridOf n gb w) :
    Calls Tryz.prog 60 #[.pointer (some ⟨gb, 0, none⟩), .int .i64 k] w fun e w' => e = .returned (.tuple #[.agg #[.int .i64 0, .int .i64 0, .int .i64 0, .int .i64 0], .bool false]) ∧ Below w.heap.size w w' := by
  have E1 := hid (gEdges_at (g.to (bl1 w (.cells #[.int .i64 0, .int .i64 0, .int .i64 0, .int .i64 0] 70))))
  have C1 := hid (fun u => gcounts_at k (12 * n * n : Nat) u)
  rw [hk] at C1
  generalize 12 * n * n = M at *
  clear hk g
  go_enter Tryz.func60, Tryz.ntmps60
  go_wp2_with (first
    | (go_at_call 42; refine (E1.out).mono ?_; rintro e w' ⟨rfl, hw⟩; have hw2 := hw.symm; subst hw2)
    | (go_at_call 78; refine (C1.out _).mono ?_; rintro e w' ⟨rfl, hw⟩; have hw2 := hw.symm; subst hw2))
  refine bodyPost_ret ?_ rfl ⟨rfl, ?_⟩
  · exact res_two Tryz.results60 _ _ w.heap.size _ _ (0, 0) _ _ rfl rfl (heap_alloc_new w _) Tryz.underlying70 rfl (by kernel_rfl)
  · exact bl1 w _
set_option maxHeartbeats 2000000 in
theorem gBehind_ok {n gb t : Nat} {w : World} (hn : 1 ≤ n ∧ n ≤ 32) (ht : t < 24 * n * n) (hl : isL n t = true) (g : GridOf n gb w) :
    Calls Tryz.prog 61 #[.pointer (some ⟨gb, 0, none⟩), .int .i64 (eN n t : Nat)] w fun e w' => e = .returned (.tuple #[.int .i64 (bsC n (t / 4) ((t % 4 + 2) % 4) : Nat), .int .i64 (bsC n (bsC n (t / 4) (t % 4)) ((bsS n (t / 4) (t % 4) + 2) % 4) : Nat), .bool true]) ∧ Below w.heap.size w w' := by
  have E1 := hid (gEdges_at g)
  have C1 := hid (fun u => gcounts_at (eN n t : Nat) (12 * n * n : Nat) u)
  have kN := ed_lt hn.1 ht hl
  rw [inR_true kN] at C1
  obtain ⟨mb, eb, cap, m, bb, ab, lb, pb, h1, h2, -⟩ := g
  obtain ⟨-, -, -, c3, -⟩ := h1.cells
  have y0 := h2.cell (i := eN n t * 2) (by omega)
  have y1 := h2.cell (i := eN n t * 2 + 1) (by omega)
  have e0 : bhC n (eN n t * 2) = (bsC n (t / 4) ((t % 4 + 2) % 4) : Nat) := by
    unfold bhC
    rw [if_pos (by omega), show eN n t * 2 / 2 = eN n t by omega, edT_eN hn.1 ht hl]
  have e1 : bhC n (eN n t * 2 + 1) = (bsC n (bsC n (t / 4) (t % 4)) ((bsS n (t / 4) (t % 4) + 2) % 4) : Nat) := by
    unfold bhC
    rw [if_neg (by omega), show (eN n t * 2 + 1) / 2 = eN n t by omega, edT_eN hn.1 ht hl]
  rw [e0] at y0
  rw [e1] at y1
  have lg := lt_of_block h1.1
  have le := h2.lt
  clear e0 e1 h2
  generalize bsC n (bsC n (t / 4) (t % 4)) ((bsS n (t / 4) (t % 4) + 2) % 4) = q2 at *
  generalize bsC n (t / 4) ((t % 4 + 2) % 4) = q1 at *
  generalize eN n t = k at *
  generalize 12 * n * n = M at *
  have hk1 : (k : Int) < M := by omega
  clear h1 hn ht hl
  go_enter Tryz.func61, Tryz.ntmps61
  go_upto_region 4 with (first
    | (go_at_call 42; refine (E1.out).mono ?_; rintro e w' ⟨rfl, hw⟩; have hw2 := hw.symm; subst hw2)
    | (go_at_call 78; refine (C1.out _).mono ?_; rintro e w' ⟨rfl, hw⟩; have hw2 := hw.symm; subst hw2))
  go_region
  go_wp2
  refine bodyPost_ret ?_ rfl ⟨rfl, ?_⟩
  · simp [results, Tryz.results61, go_sem]
  · first | exact bl1 w _ | exact Below.drew (bl1 w _)
set_option maxHeartbeats 2000000 in
theorem gBehind_no {n gb : Nat} {k : Int} {w : World} (hk : inR k (12 * n * n : Nat) = false) (g : GridOf n gb w) :
    Calls Tryz.prog 61 #[.pointer (some ⟨gb, 0, none⟩), .int .i64 k] w fun e w' => e = .returned (.tuple #[.int .i64 0, .int .i64 0, .bool false]) ∧ Below w.heap.size w w' := by
  have E1 := hid (gEdges_at g)
  have C1 := hid (fun u => gcounts_at k (12 * n * n : Nat) u)
  rw [hk] at C1
  generalize 12 * n * n = M at *
  clear hk g
  go_enter Tryz.func61, Tryz.ntmps61
  go_wp2_with (first
    | (go_at_call 42; refine (E1.out).mono ?_; rintro e w' ⟨rfl, hw⟩; have hw2 := hw.symm; subst hw2)
    | (go_at_call 78; refine (C1.out _).mono ?_; rintro e w' ⟨rfl, hw⟩; have hw2 := hw.symm; subst hw2))
  refine bodyPost_ret ?_ rfl ⟨rfl, Below.refl _ _⟩
  simp [results, Tryz.results61, go_sem]
set_option maxHeartbeats 2000000 in
theorem gArea_ok {n gb k : Nat} {w : World} (hn : 1 ≤ n ∧ n ≤ 32) (hk : k < 6 * n * n) (g : GridOf n gb w) :
    Calls Tryz.prog 46 #[.pointer (some ⟨gb, 0, none⟩), .int .i64 k] w fun e w' => e = .returned (.int .i64 (arI (ArC n k))) ∧ Below w.heap.size w w' := by
  have E1 := hid (gCells_at g)
  have C1 := hid (fun u => gcounts_at (k : Nat) (6 * n * n : Nat) u)
  have hN := (n12 hn)
  rw [inR_true hk] at C1
  obtain ⟨mb, eb, cap, m, bb, ab, lb, pb, h1, -, hr, -⟩ := g
  have c0 := h1.cells.2.2.2.2.1
  have y0 := hr.cell hk

  have lg := lt_of_block h1.1
  have le := hr.lt
  clear hr
  generalize arI (ArC n k) = V at *
  have hk2 : ((6 * n * n : Nat) : Int) ≤ 12288 := by omega
  generalize 6 * n * n = M at *
  have hk1 : (k : Int) < M := by omega
  clear h1 hn hN hk
  go_enter Tryz.func46, Tryz.ntmps46
  go_wp2_with (first
    | (go_at_call 59; refine (E1.out).mono ?_; rintro e w' ⟨rfl, hw⟩; have hw2 := hw.symm; subst hw2)
    | (go_at_call 78; refine (C1.out _).mono ?_; rintro e w' ⟨rfl, hw⟩; have hw2 := hw.symm; subst hw2))
  go_ret
  exact ⟨rfl, Below.refl _ _⟩
set_option maxHeartbeats 2000000 in
theorem gArea_no {n gb : Nat} {k : Int} {w : World} (hk : inR k (6 * n * n : Nat) = false) (g : GridOf n gb w) :
    Calls Tryz.prog 46 #[.pointer (some ⟨gb, 0, none⟩), .int .i64 k] w fun e w' => e = .returned (.int .i64 0) ∧ Below w.heap.size w w' := by
  have E1 := hid (gCells_at g)
  have C1 := hid (fun u => gcounts_at k (6 * n * n : Nat) u)
  rw [hk] at C1
  generalize 6 * n * n = M at *
  clear hk g
  go_enter Tryz.func46, Tryz.ntmps46
  go_wp2_with (first
    | (go_at_call 59; refine (E1.out).mono ?_; rintro e w' ⟨rfl, hw⟩; have hw2 := hw.symm; subst hw2)
    | (go_at_call 78; refine (C1.out _).mono ?_; rintro e w' ⟨rfl, hw⟩; have hw2 := hw.symm; subst hw2))
  go_ret
  exact ⟨rfl, Below.refl _ _⟩
end Go.Proofs.YtgeipbegpflkhaaGreatDoor

/-
  Nets and numbers that the statements of layer 9 share: walks over the program.
-/
namespace Go.Proofs.YtgeipbegpflkhaaGreatDoor
open Go.RowKit Cu Tf
/-- x brought within n -/
def wi9 (x : Int) (n : Nat) : Nat := (x % 18446744073709551616 % n).toNat
theorem wi9_lt (x : Int) {n : Nat} (hn : 1 ≤ n) : wi9 x n < n := by
  unfold wi9
  have h1 := Int.emod_nonneg (x % 18446744073709551616) (b := (n : Int)) (by omega)
  have h2 := Int.emod_lt_of_pos (x % 18446744073709551616) (b := (n : Int)) (by omega)
  omega
theorem a9_1 : isL 1 1 = true ∧ eN 1 1 = 1 ∧ bsC 1 0 1 = 4 ∧ bsS 1 0 1 = 3 := by decide +kernel
theorem a9_2 : gT 1 (24 * 1 * 1) 1 2 = (0, -1) := by decide +kernel
theorem a9_3 : isL 1 0 = true ∧ eN 1 0 = 0 ∧ bsC 1 0 2 = 3 ∧ bsC 1 (bsC 1 0 0) ((bsS 1 0 0 + 2) % 4) = 2 := by decide +kernel
theorem a9_4 : arI (ArC 1 0) = 1431655765 := by decide +kernel
theorem W64_of {a : Int} (h : -9223372036854775808 ≤ a ∧ a ≤ 9223372036854775807) : W64 a := h
theorem aEdge {gb : Nat} {v : World} (g : GridOf 1 gb v) : Calls Tryz.prog 60 #[.pointer (some ⟨gb, 0, none⟩), .int .i64 1] v fun e w' => e = .returned (.tuple #[.agg #[.int .i64 0, .int .i64 1, .int .i64 4, .int .i64 3], .bool true]) ∧ Below v.heap.size v w' := by
  have h := gEdge_ok (t := 1) (by omega) (by omega) a9_1.1 g
  simp only [Nat.reduceDiv, Nat.reduceMod] at h
  rw [a9_1.2.1, a9_1.2.2.1, a9_1.2.2.2] at h
  exact h
theorem aBehind {gb : Nat} {v : World} (g : GridOf 1 gb v) : Calls Tryz.prog 61 #[.pointer (some ⟨gb, 0, none⟩), .int .i64 0] v fun e w' => e = .returned (.tuple #[.int .i64 3, .int .i64 2, .bool true]) ∧ Below v.heap.size v w' := by
  have h := gBehind_ok (t := 0) (by omega) (by omega) a9_3.1 g
  simp only [Nat.reduceMod, Nat.zero_add, Nat.zero_div, Nat.zero_mod] at h
  rw [a9_3.2.1, a9_3.2.2.1, a9_3.2.2.2] at h
  exact h
theorem aArea {gb : Nat} {v : World} (g : GridOf 1 gb v) : Calls Tryz.prog 46 #[.pointer (some ⟨gb, 0, none⟩), .int .i64 0] v fun e w' => e = .returned (.int .i64 1431655765) ∧ Below v.heap.size v w' := by
  have h := gArea_ok (k := 0) (by omega) (by omega) g
  rw [a9_4] at h
  exact h
end Go.Proofs.YtgeipbegpflkhaaGreatDoor

/-
  A region that draws its order and ends in operations of which each waits for all ahead of them: the order counts ahead of these alone (no program).
-/
namespace Go.Proofs.YtgeipbegpflkhaaGreatDoor
open Go.RowKit
/-- each of the first n operations waits for earlier ones alone, and asks earlier ones alone whether it is wanted -/
def backB (md : Region.Mode) (ops : Array Oper) (n : Nat) : Bool :=
  (List.range n).all fun i => match ops[i]? with
    | some o => o.after.all (fun e => !Region.binds md e || decide (e.on < i)) && (match o.guard with | none => true | some (j, _) => decide (j < n))
    | none => true
/-- the first n are done, no other -/
def finA (m n : Nat) : Array Bool := Array.replicate n true ++ Array.replicate (m - n) false
theorem back_spec {md : Region.Mode} {ops : Array Oper} {n : Nat} (h : backB md ops n = true) {i : Nat} {o : Oper} (hi : i < n) (ho : ops[i]? = some o) :
    (∀ e ∈ o.after, Region.binds md e = true → e.on < i) ∧ (∀ j b, o.guard = some (j, b) → j < n) := by
  have a := List.all_eq_true.1 h i (List.mem_range.2 hi)
  simp only [ho, Bool.and_eq_true] at a
  refine ⟨fun e he hb => ?_, fun j b hg => ?_⟩
  · have := Array.all_eq_true_iff_forall_mem.1 a.1 e he
    simpa [hb] using this
  · have := a.2
    rw [hg] at this
    simpa using this
theorem getD_tf {l : Array Bool} {i : Nat} (h : i < l.size) (d d' : Bool) : l.getD i d = l.getD i d' := by simp [h]
theorem wpAny_more {P : Program} {md : Region.Mode} {ops : Array Oper} {Q : Exit → Act → World → Prop} : ∀ (g k : Nat) (listed : Array Bool) (a : Act) (w : World), wpAny P md ops Q g listed a w → wpAny P md ops Q (g + k) listed a w
  | 0, 0, _, _, _, h => h
  | 0, k + 1, listed, a, w, h => by
    rw [Nat.zero_add]
    exact ⟨fun _ => h.2, fun i hi => by rw [h.1] at hi; cases hi⟩
  | g + 1, k, listed, a, w, h => by
    rw [show g + 1 + k = (g + k) + 1 by omega]
    exact ⟨h.1, fun i hi => wpOp_mono (fun a' w' h' => wpAny_more g k _ a' w' h') (h.2 i hi)⟩
section
variable {P : Program} {md : Region.Mode} {ops hd : Array Oper} {C : World → Prop} {n : Nat}
theorem ready_head (hhd : ∀ i, i < n → hd[i]? = ops[i]?) (hb : backB md ops n = true) {listed lh : Array Bool} (hl : lh.size = n) (hls : n ≤ listed.size) (he : ∀ i, i < n → lh.getD i true = listed.getD i true) {i : Nat} (hi : i < n) :
    i ∈ Region.ready md hd lh ↔ i ∈ Region.ready md ops listed := by
  rw [mem_ready, mem_ready, he i hi, hhd i hi]
  refine and_congr Iff.rfl (exists_congr fun o => and_congr_right fun ho => forall_congr' fun e => forall_congr' fun hm => forall_congr' fun hbd => ?_)
  have lt := (back_spec hb hi ho).1 e hm hbd
  rw [getD_tf (d := false) (d' := true) (by omega), getD_tf (l := listed) (d := false) (d' := true) (by omega), he _ (by omega)]
theorem some_ready (hsz : n ≤ ops.size) (hb : backB md ops n = true) {listed : Array Bool} (hls : n ≤ listed.size) :
    (∀ i, i < n → listed.getD i true = true) ∨ ∃ i, i < n ∧ i ∈ Region.ready md ops listed := by
  have key : ∀ k, k ≤ n → (∀ i, i < k → listed.getD i true = true) ∨ ∃ i, i < n ∧ i ∈ Region.ready md ops listed := by
    intro k
    induction k with
    | zero => exact fun _ => .inl (fun i hi => by omega)
    | succ k ih =>
      intro hk
      rcases ih (by omega) with h | h
      · cases c : listed.getD k true
        · right
          refine ⟨k, by omega, mem_ready.2 ⟨c, ops[k]'(by omega), by simp, fun e he hbd => ?_⟩⟩
          have lt := (back_spec hb (i := k) (o := ops[k]'(by omega)) (by omega) (by simp)).1 e he hbd
          rw [getD_tf (d := false) (d' := true) (by omega)]
          exact h _ lt
        · left
          intro i hi
          by_cases e : i = k
          · rw [e]; exact c
          · exact h i (by omega)
      · exact .inr h
  exact key n (Nat.le_refl _)
theorem qOp_head (hhd : ∀ i, i < n → hd[i]? = ops[i]?) (hb : backB md ops n = true) {i : Nat} (hi : i < n) {K : Act → Prop} {a : Act} (h : qOp P hd C i K a) : qOp P ops C i K a := by
  unfold qOp at *
  rw [hhd i hi] at h
  cases ho : ops[i]? with
  | none => rw [ho] at h; exact h
  | some o =>
    rw [ho] at h
    have e : Region.wanted o (yielded hd a.tmps) = Region.wanted o (yielded ops a.tmps) := by
      unfold Region.wanted
      cases hg : o.guard with
      | none => rfl
      | some jb =>
        obtain ⟨j, b⟩ := jb
        have lt := (back_spec hb hi ho).2 j b hg
        show (yielded hd a.tmps j == some b) = (yielded ops a.tmps j == some b)
        unfold yielded
        rw [hhd j lt]
    simp only [e] at h
    exact h
theorem fin_of {listed : Array Bool} (hn : n < ops.size) (inv : HeadInv md ops n listed) (h : ∀ i, i < n → listed.getD i true = true) : listed = finA ops.size n := by
  have s := inv.size
  unfold finA
  refine Array.ext (by simp; omega) fun i h1 h2 => ?_
  by_cases c : i < n
  · have := h i c
    rw [Array.getElem_append_left (by simpa using c)]
    simp [h1] at this
    simpa using this
  · have := inv.tail i (by omega) (by omega)
    rw [Array.getElem_append_right (by simp; omega)]
    simp [h1] at this
    simpa using this
theorem wpAny_of_headQ {g : Nat} {Q1 : Act → Prop} {Q' : Exit → Act → World → Prop} (hhd : ∀ i, i < n → hd[i]? = ops[i]?) (hsz : hd.size = n) (hn : n < ops.size) (hb : backB md ops n = true) (hs : Region.sinkB md ops n = true) (hc : Region.chainB md ops n = true)
    (hL : ∀ a w, C w → Q1 a → wpAny P md ops Q' g (finA ops.size n) a w) :
    ∀ (fuel : Nat) (listed lh : Array Bool) (a : Act) (w : World), C w → HeadInv md ops n listed → lh.size = n → (∀ i, i < n → lh.getD i true = listed.getD i true) →
      wpAnyQ P md hd C Q1 fuel lh a → wpAny P md ops Q' (fuel + g) listed a w := by
  intro fuel
  induction fuel with
  | zero =>
    intro listed lh a w hC inv hl he h
    have hls : n ≤ listed.size := by rw [inv.size]; omega
    rcases some_ready (by omega) hb hls with all | ⟨i, hi, hr⟩
    · rw [Nat.zero_add, fin_of hn inv all]
      exact hL a w hC h.2
    · have := (ready_head hhd hb hl hls he hi).2 hr
      rw [h.1] at this
      cases this
  | succ fuel ih =>
    intro listed lh a w hC inv hl he h
    have hls : n ≤ listed.size := by rw [inv.size]; omega
    rcases some_ready (by omega) hb hls with all | ⟨i0, hi0, hr0⟩
    · have no : Region.ready md hd lh = [] := by
        rw [List.eq_nil_iff_forall_not_mem]
        intro i hi
        obtain ⟨u, o, ho, _⟩ := mem_ready.1 hi
        have lt : i < n := by rw [← hsz]; exact (Array.getElem?_eq_some_iff.1 ho).1
        rw [he i lt, all i lt] at u
        cases u
      rw [Nat.add_comm (fuel + 1) g, fin_of hn inv all]
      exact wpAny_more g (fuel + 1) _ a w (hL a w hC (h.1 no))
    · rw [show fuel + 1 + g = (fuel + g) + 1 by omega]
      refine ⟨fun h0 => (by rw [h0] at hr0; cases hr0), fun i hi => ?_⟩
      have lt : i < n := by
        by_cases c : i < n
        · exact c
        · exact absurd hi (tail_waits hs hc hn inv _ i0 rfl hi0 (mem_ready.1 hr0).1 i (by omega))
      have hq := qOp_head hhd hb lt (h.2 i ((ready_head hhd hb hl hls he lt).2 hi))
      refine wpOp_of_qOp hC (fun a' w' hC' h' => ih _ _ a' w' hC' (inv.set hi lt) (by simp [hl]) (fun j hj => ?_) h') hq
      by_cases e : i = j
      · subst e
        simp [hl, lt, show i < listed.size by omega]
      · rw [getD_set_ne true e, getD_set_ne true e, he j hj]
end
/-- what is asked of the region's text -/
def tailB (ops : Array Oper) (n : Nat) : Bool :=
  decide (n < ops.size) && backB .any ops n && Region.sinkB .any ops n && Region.chainB .any ops n && Region.seqB .any ops (ops.size - n) n (finA ops.size n)
theorem region_tail {P : Program} {id : Nat} {Q : Exit → Act → World → Prop} {a : Act} {w : World} {l : List Oper} {U : Type} (n : Nat) (F : U → World) (hm : P.follows .mixedOrders = true) (hB : Region.lexB .any (l.take n).toArray = true) (hT : tailB l.toArray n = true)
    (hC : ∃ u, w.drew = F u)
    (h : wpQuiet P (l.take n).toArray (fun w' => ∃ u, w' = F u) (fun a' => ∀ w', (∃ u, w' = F u) → wpList P l.toArray Q (l.drop n) a' w') (l.take n) a) : (Code.region id l.toArray true).wp P Q a w := by
  simp only [tailB, Bool.and_eq_true, decide_eq_true_eq] at hT
  obtain ⟨⟨⟨⟨hn, hb⟩, hs⟩, hc⟩, hq⟩ := hT
  have hn' : n < l.length := by simpa using hn
  have htl : (l.take n).toArray.size = n := by simp; omega
  have hdl : (l.drop n).length = l.toArray.size - n := by simp
  refine wp_region_any hm ?_
  simp only [Region.lexB, Bool.and_eq_true] at hB
  have H := wpAnyQ_lex (P := P) (C := fun w' => ∃ u, w' = F u) (md := .any) hB.1 (l.take n) 0 (Array.replicate (l.take n).toArray.size false) a (by simp) (by simpa using hB.2) h
  have inv0 : HeadInv .any l.toArray n (Array.replicate l.toArray.size false) :=
    ⟨by simp, fun j oj _ hl => (by rw [getD_replicate_false] at hl; cases hl), fun t _ ht => getD_in (by simpa using ht) (getD_replicate_false _ _)⟩
  have := wpAny_of_headQ (P := P) (Q' := Q) (g := l.toArray.size - n) (hd := (l.take n).toArray) (ops := l.toArray) (fun i hi => by simp [hi]) htl hn hb hs hc
    (fun a' w' hC' h' => by
      have := wpAny_of_seq (P := P) (md := .any) (ops := l.toArray) (Q' := Q) (l.drop n) n (finA l.toArray.size n) a' w' (fun j => by simp) (by rw [hdl]; exact hq) (h' w' hC')
      rwa [hdl] at this)
    (l.take n).length _ _ a w.drew hC inv0 (by simpa using htl) (fun i hi => by
      rw [getD_in (listed := Array.replicate l.toArray.size false) (by simp; omega) (getD_replicate_false _ _)]
      exact getD_in (by rw [Array.size_replicate]; omega) (getD_replicate_false _ _)) H
  have e : (l.take n).length + (l.toArray.size - n) = l.toArray.size := by simp; omega
  rw [e] at this
  exact this
end Go.Proofs.YtgeipbegpflkhaaGreatDoor

/-
  A sea of side 1 with these depths: the walk.
-/
namespace Go.Proofs.YtgeipbegpflkhaaGreatDoor
open Go.RowKit Tf Cu Go.Deep
attribute [local go_sem] run_bits run_from raw_feq raw_fne raw_flt raw_fgt run_neg run_store_float
theorem size1 (W : World) (A : Obj) : (W.alloc A).heap.size = W.heap.size + 1 := by
  show (W.heap.push A).size = _
  simp
theorem four (W : World) (A B C D : Obj) : ((((W.alloc A).alloc B).alloc C).alloc D).heap[W.heap.size]? = some A ∧ ((((W.alloc A).alloc B).alloc C).alloc D).heap[W.heap.size + 1]? = some B ∧ ((((W.alloc A).alloc B).alloc C).alloc D).heap[W.heap.size + 1 + 1]? = some C ∧ ((((W.alloc A).alloc B).alloc C).alloc D).heap[W.heap.size + 1 + 1 + 1]? = some D := by
  have q0 := heap_alloc_new W A
  have q1 := heap_alloc_new (W.alloc A) B
  have q2 := heap_alloc_new ((W.alloc A).alloc B) C
  have q3 := heap_alloc_new (((W.alloc A).alloc B).alloc C) D
  rw [size1] at q1
  rw [size1, size1] at q2
  rw [size1, size1, size1] at q3
  exact ⟨Ab.heap (bl1 _ _) (Ab.heap (bl1 _ _) (Ab.heap (bl1 _ _) q0)), Ab.heap (bl1 _ _) (Ab.heap (bl1 _ _) q1), Ab.heap (bl1 _ _) q2, q3⟩
theorem four_ab {w W : World} (h : Ab w W) (A B C D : Obj) : Ab w ((((W.alloc A).alloc B).alloc C).alloc D).drew := ((((h.alloc A).alloc B).alloc C).alloc D).drew
theorem cell_dd {v : World} {g : Nat} {dd : Nat → Int} (h : v.heap[g]? = some (.cells #[.int .i64 (dd 0), .int .i64 (dd 1), .int .i64 (dd 2), .int .i64 (dd 3), .int .i64 (dd 4), .int .i64 (dd 5)] 49)) {c : Nat} (hc : c < 6) : v.cell? ⟨g, c, none⟩ = some (.int .i64 (dd c)) := by
  match c, hc with
  | 0, _ => exact cell_of_row _ _ 0 _ _ _ h
  | 1, _ => exact cell_of_row _ _ 1 _ _ _ h
  | 2, _ => exact cell_of_row _ _ 2 _ _ _ h
  | 3, _ => exact cell_of_row _ _ 3 _ _ _ h
  | 4, _ => exact cell_of_row _ _ 4 _ _ _ h
  | 5, _ => exact cell_of_row _ _ 5 _ _ _ h
theorem made_row {v : World} {g n : Nat} {z : Value} {T : TypeId} (h : v.heap[g]? = some (Obj.cells (madeCells #[z] n) T)) : v.rowIs g T n (fun _ => z) := by
  have e := World.rowIs_made v z n T
  have l := heap_alloc_new v (Obj.cells (madeCells #[z] n) T)
  obtain ⟨c, h1, h2⟩ := e
  rw [l] at h1
  exact ⟨c, h.trans h1, h2⟩
/-- behind c rounds -/
def FlI (w : World) (gd g5 b1 b2 b3 : Nat) (dd : Nat → Int) (c : Nat) (v : World) : Prop :=
  Ab w v ∧ v.heap[g5]? = some (.cells #[.slice (some ⟨b1, 0, none⟩) 6 6, .slice (some ⟨b2, 0, none⟩) 6 6, .slice none 0 0, .slice (some ⟨b3, 0, none⟩) 12 12, .int .i64 0, .int .i64 0] 25) ∧ v.heap[gd]? = some (.cells #[.int .i64 (dd 0), .int .i64 (dd 1), .int .i64 (dd 2), .int .i64 (dd 3), .int .i64 (dd 4), .int .i64 (dd 5)] 49) ∧ v.rowIs b1 28 6 (fun _ => .float .f64 0) ∧ v.rowIs b2 2 6 (fun i => .int .i64 (if i < c then dd i * arI (ArC 1 i) else 0)) ∧ v.rowIs b3 28 12 (fun _ => .float .f64 0) ∧ v.heap[gd + 1]? = some (.cells #[.slice none 0 0, .slice none 0 0, .slice none 0 0, .slice none 0 0, .int .i64 0, .int .i64 0] 25)
theorem FlI.to {w : World} {gd g5 b1 b2 b3 : Nat} {dd : Nat → Int} {c : Nat} {v v' : World} (h : FlI w gd g5 b1 b2 b3 dd c v) (a : Ab v v') : FlI w gd g5 b1 b2 b3 dd c v' := by
  obtain ⟨h1, h2, h3, h4, h5, h6, h7⟩ := h
  exact ⟨h1.trans a, a.heap h2, a.heap h3, rowIs.ab h4 a, rowIs.ab h5 a, rowIs.ab h6 a, a.heap h7⟩
theorem row6 {w : World} {g : Nat} {a b c d e f x y z p q r : Value} {T : TypeId} (h : w.heap[g]? = some (.cells #[a, b, c, d, e, f] T)) :
    ((((((w.setCell ⟨g, 0, none⟩ x).setCell ⟨g, 1, none⟩ y).setCell ⟨g, 2, none⟩ z).setCell ⟨g, 3, none⟩ p).setCell ⟨g, 4, none⟩ q).setCell ⟨g, 5, none⟩ r).heap[g]? = some (.cells #[x, y, z, p, q, r] T) := by
  have h1 := one_set (v := x) (k := 0) h
  have h2 := one_set (v := y) (k := 1) h1
  have h3 := one_set (v := z) (k := 2) h2
  have h4 := one_set (v := p) (k := 3) h3
  have h5 := one_set (v := q) (k := 4) h4
  have h6 := one_set (v := r) (k := 5) h5
  simpa using h6
theorem heap_set_ne {v : World} {b k g : Nat} {x : Value} (h : g ≠ b) : (v.setCell ⟨b, k, none⟩ x).heap[g]? = v.heap[g]? := blk_setCell_other _ _ _ _ h
theorem FlI.set {w : World} {gd g5 b1 b2 b3 : Nat} {dd : Nat → Int} {c : Nat} {v : World} (h : FlI w gd g5 b1 b2 b3 dd c v) (hw : w.heap.size ≤ b2) (n1 : g5 ≠ b2) (n2 : gd ≠ b2) (n3 : b1 ≠ b2) (n4 : b3 ≠ b2) (n5 : gd + 1 ≠ b2) : FlI w gd g5 b1 b2 b3 dd (c + 1) (v.setCell ⟨b2, c, none⟩ (.int .i64 (dd c * arI (ArC 1 c)))) := by
  obtain ⟨h1, h2, h3, h4, h5, h6, h7⟩ := h
  refine ⟨h1.setk hw _, by rw [heap_set_ne n1]; exact h2, by rw [heap_set_ne n2]; exact h3, h4.setOther n3 _, (h5.set c _).congr (fun i _ => ?_), h6.setOther n4 _, by rw [heap_set_ne n5]; exact h7⟩
  by_cases e : i = c
  · subst e; simp
  · by_cases l : i < c
    · simp [e, l, show i < c + 1 by omega]
    · simp [e, l, show ¬ i < c + 1 by omega]
set_option maxRecDepth 100000 in
set_option maxHeartbeats 16000000 in
theorem flat_at {gb : Nat} {dd : Nat → Int} (w : World) (g : GridOf 1 gb w) (hm : ∀ c, c < 6 → IntKind.i64.wrap (dd c * arI (ArC 1 c)) = dd c * arI (ArC 1 c)) :
    Calls Tryz.prog 15 #[.pointer (some ⟨gb, 0, none⟩), .agg #[.int .i64 (dd 0), .int .i64 (dd 1), .int .i64 (dd 2), .int .i64 (dd 3), .int .i64 (dd 4), .int .i64 (dd 5)]] w fun e w' => ∃ b1 b2 b3, e = .returned (.agg #[.slice (some ⟨b1, 0, none⟩) 6 6, .slice (some ⟨b2, 0, none⟩) 6 6, .slice none 0 0, .slice (some ⟨b3, 0, none⟩) 12 12, .int .i64 0, .int .i64 0]) ∧ Below w.heap.size w w' ∧ w'.rowIs b1 28 6 (fun _ => .float .f64 0) ∧ w'.rowIs b2 2 6 (fun i => .int .i64 (if i < 6 then dd i * arI (ArC 1 i) else 0)) ∧ w'.rowIs b3 28 12 (fun _ => .float .f64 0) := by
  have M1 : ∀ v : World, (Instr.makeSlice 22 (.int .i64 6) (.int .i64 6)).run Tryz.prog v = .ok (.slice (some ⟨v.heap.size, 0, none⟩) 6 6) (v.alloc (Obj.cells (madeCells #[.float .f64 0] 6) 28)) := fun v => by
    exact run_make_row' (P := Tryz.prog) 22 28 (.float .f64 0) 8 Tryz.underlying22 infoF64 rfl .i64 .i64 6 (by omega) (by omega) v
  have M2 : ∀ v : World, (Instr.makeSlice 23 (.int .i64 6) (.int .i64 6)).run Tryz.prog v = .ok (.slice (some ⟨v.heap.size, 0, none⟩) 6 6) (v.alloc (Obj.cells (madeCells #[.int .i64 0] 6) 2)) := fun v => by
    exact run_make_row' (P := Tryz.prog) 23 2 (.int .i64 0) 8 Tryz.underlying23 info64 rfl .i64 .i64 6 (by omega) (by omega) v
  have M3 : ∀ v : World, (Instr.makeSlice 22 (.int .i64 12) (.int .i64 12)).run Tryz.prog v = .ok (.slice (some ⟨v.heap.size, 0, none⟩) 12 12) (v.alloc (Obj.cells (madeCells #[.float .f64 0] 12) 28)) := fun v => by
    exact run_make_row' (P := Tryz.prog) 22 28 (.float .f64 0) 8 Tryz.underlying22 infoF64 rfl .i64 .i64 12 (by omega) (by omega) v
  go_enter Tryz.func15, Tryz.ntmps15
  go_upto_region 1 with fail
  have DR : Hid (((w.alloc (.cells #[.int .i64 (dd 0), .int .i64 (dd 1), .int .i64 (dd 2), .int .i64 (dd 3), .int .i64 (dd 4), .int .i64 (dd 5)] 49)).alloc (.cells #[.slice none 0 0, .slice none 0 0, .slice none 0 0, .slice none 0 0, .int .i64 0, .int .i64 0] 25)).heap[w.heap.size]? = some (.cells #[.int .i64 (dd 0), .int .i64 (dd 1), .int .i64 (dd 2), .int .i64 (dd 3), .int .i64 (dd 4), .int .i64 (dd 5)] 49)) := Ab.heap (bl1 _ _) (heap_alloc_new _ _)
  have ZR : Hid (((w.alloc (.cells #[.int .i64 (dd 0), .int .i64 (dd 1), .int .i64 (dd 2), .int .i64 (dd 3), .int .i64 (dd 4), .int .i64 (dd 5)] 49)).alloc (.cells #[.slice none 0 0, .slice none 0 0, .slice none 0 0, .slice none 0 0, .int .i64 0, .int .i64 0] 25)).heap[w.heap.size + 1]? = some (.cells #[.slice none 0 0, .slice none 0 0, .slice none 0 0, .slice none 0 0, .int .i64 0, .int .i64 0] 25)) := by
    have h := heap_alloc_new (w.alloc (.cells #[.int .i64 (dd 0), .int .i64 (dd 1), .int .i64 (dd 2), .int .i64 (dd 3), .int .i64 (dd 4), .int .i64 (dd 5)] 49)) (.cells #[.slice none 0 0, .slice none 0 0, .slice none 0 0, .slice none 0 0, .int .i64 0, .int .i64 0] 25)
    rwa [size1] at h
  have A2 : Hid (Ab w ((w.alloc (.cells #[.int .i64 (dd 0), .int .i64 (dd 1), .int .i64 (dd 2), .int .i64 (dd 3), .int .i64 (dd 4), .int .i64 (dd 5)] 49)).alloc (.cells #[.slice none 0 0, .slice none 0 0, .slice none 0 0, .slice none 0 0, .int .i64 0, .int .i64 0] 25))) := bl2 _ _ _
  generalize hW : World.alloc (World.alloc w _) _ = W at *
  go_cut [5] from 7 to 10 (fun s5 wx => ∃ g5 b1 b2 b3, s5 = .pointer (some ⟨g5, 0, none⟩) ∧ Ab W wx ∧ wx.heap[g5]? = some (.cells #[.slice (some ⟨b1, 0, none⟩) 6 6, .slice (some ⟨b2, 0, none⟩) 6 6, .slice none 0 0, .slice (some ⟨b3, 0, none⟩) 12 12, .int .i64 0, .int .i64 0] 25) ∧ wx.heap[b1]? = some (Obj.cells (madeCells #[.float .f64 0] 6) 28) ∧ wx.heap[b2]? = some (Obj.cells (madeCells #[.int .i64 0] 6) 2) ∧ wx.heap[b3]? = some (Obj.cells (madeCells #[.float .f64 0] 12) 28) ∧ W.heap.size ≤ g5 ∧ W.heap.size ≤ b2 ∧ W.heap.size ≤ b1 ∧ W.heap.size ≤ b3 ∧ g5 ≠ b2 ∧ b1 ≠ b2 ∧ b3 ≠ b2)
  case first =>
    go_region_with fail
    all_goals go_wp2_with fail
    all_goals go_meet
    all_goals refine' ⟨_, _, _, _, rfl, four_ab (Ab.refl W) _ _ _ _, (by first | exact (four W _ _ _ _).2.2.2 | exact (four W _ _ _ _).2.2.1 | exact (four W _ _ _ _).2.1 | exact (four W _ _ _ _).1), ?_, ?_, ?_, ?_, ?_, ?_, ?_, ?_, ?_, ?_⟩
    all_goals first
      | exact (four W _ _ _ _).1
      | exact (four W _ _ _ _).2.1
      | exact (four W _ _ _ _).2.2.1
      | exact (four W _ _ _ _).2.2.2
      | omega
  case rest =>
    obtain ⟨g5, b1, b2, b3, rfl, A1, r5, r1, r2, r3, l5, l2, l1, l3, n1, n2, n3⟩ := hcut
    obtain ⟨gd, hgd⟩ : ∃ x, w.heap.size = x := ⟨_, rfl⟩
    have HG := hid g
    have HM := hid hm
    have L2 := hid (show gd + 2 ≤ b2 by rw [← hW, size1, size1] at l2; omega)
    have L1 := hid (show gd + 2 ≤ b1 by rw [← hW, size1, size1] at l1; omega)
    have L3 := hid (show gd + 2 ≤ b3 by rw [← hW, size1, size1] at l3; omega)
    rw [hgd] at DR ZR
    have FI := hid (show FlI w gd g5 b1 b2 b3 dd 0 wc from ⟨A2.out.trans A1, r5, Ab.heap A1 DR.out, made_row r1, (made_row r2).congr (fun i _ => by simp), made_row r3, Ab.heap A1 ZR.out⟩)
    have N1 := hid n1
    have N2 := hid n2
    have N3 := hid n3
    have HN : Hid (w.heap.size = gd) := hgd
    clear g hm l5 l2 l1 l3 A1 r5 r1 r2 r3 n1 n2 n3 DR ZR A2 hW M1 M2 M3
    go_wp2
    go_loopw [6] (fun iv wr => ∃ c : Nat, c ≤ 6 ∧ iv = .int .i64 (c : Nat) ∧ FlI w gd g5 b1 b2 b3 dd c wr) (fun iv _ => 6 - (intOf iv).toNat)
    case atStart => exact ⟨0, by omega, rfl, FI.out⟩
    case round =>
      obtain ⟨c, hc, rfl, F⟩ := hrel
      clear FI
      have FF := hid F
      clear F
      by_cases hc6 : c < 6
      · have hc' : (c : Int) < 6 := by omega
        have MM := HM.out c hc6
        have AR : Hid (∀ v, Ab w v → Calls Tryz.prog 46 #[.pointer (some ⟨gb, 0, none⟩), .int .i64 (c : Nat)] v fun e w' => e = .returned (.int .i64 (arI (ArC 1 c))) ∧ Below v.heap.size v w') := fun v hv => gArea_ok (by decide) hc6 (HG.out.to hv)
        have DC : Hid (∀ v, Ab wr v → FlI w gd g5 b1 b2 b3 dd c v) := fun v hv => FF.out.to hv
        have HC6 := hid hc6
        clear hc6
        generalize hp : dd c * arI (ArC 1 c) = P at *
        have HP : Hid (dd c * arI (ArC 1 c) = P) := hp
        obtain ⟨X, hX⟩ : ∃ X, dd c = X := ⟨_, rfl⟩
        obtain ⟨Y, hY⟩ : ∃ Y, arI (ArC 1 c) = Y := ⟨_, rfl⟩
        rw [hY] at AR
        have MM2 : IntKind.i64.wrap (X * Y) = P := by rw [← hX, ← hY, hp]; exact MM
        clear hp MM
        go_upto_region 5 with fail
        obtain ⟨UU, E, hF1, hF2⟩ := cls wr
        have HU := hid hF2
        have HU1 := hid hF1
        have x1 : ∀ u, (E u).cell? ⟨g5, 1, none⟩ = some (.slice (some ⟨b2, 0, none⟩) 6 6) := fun u => cell_of_row _ _ 1 _ _ _ (DC.out _ (hF1 u)).2.1
        have x2 : ∀ u, (E u).cell? ⟨gd, c, none⟩ = some (.int .i64 X) := fun u => by rw [← hX]; exact cell_dd (DC.out _ (hF1 u)).2.2.1 HC6.out
        have HX : Hid (∀ u, Ab w (E u)) := fun u => (DC.out _ (hF1 u)).1
        have DD0 := HU.out _ (Ab.refl wr).drew
        clear hF1 hF2
        refine region_tail 11 E (by kernel_rfl) (by kernel_rfl) (by kernel_rfl) DD0 ?_
        simp only [List.take_succ_cons, List.take_zero, List.drop_succ_cons, List.drop_zero]
        repeat (go_big_quiet_step (first
          | (with_reducible rfl)
          | (go_at_call 46; exact calls_cls HU HU1 (AR.out _ (HX.out _)))))
        refine wpQuiet_nil ?_
        intro vz hwz
        obtain ⟨u0, hu⟩ := hwz
        have AZ : Hid (Ab wr vz) := by rw [hu]; exact HU1.out u0
        clear hu u0
        clear HU HU1 HX DD0 x1 x2
        clear E UU
        have FZ := hid (DC.out _ AZ.out)
        have z1 := FZ.out.2.2.2.2.1.cell HC6.out
        have z2 := FZ.out.2.2.2.2.1.frozen c
        go_wp2
        refine ⟨⟨c + 1, by have := HC6.out; omega, by simp, ?_⟩, by simp [intOf]; have := HC6.out; omega⟩
        rw [← HP.out]
        exact FZ.out.set (by rw [HN.out]; have := L2.out; omega) N1.out (by have := L2.out; omega) N2.out N3.out (by have := L2.out; omega)
      · have e6 : c = 6 := by omega
        subst e6
        have s0 := cell_of_row _ _ 0 _ _ _ FF.out.2.1
        have s1 := cell_of_row _ _ 1 _ _ _ FF.out.2.1
        have s2 := cell_of_row _ _ 2 _ _ _ FF.out.2.1
        have s3 := cell_of_row _ _ 3 _ _ _ FF.out.2.1
        have s4 := cell_of_row _ _ 4 _ _ _ FF.out.2.1
        have s5 := cell_of_row _ _ 5 _ _ _ FF.out.2.1
        have RZ := FF.out.2.2.2.2.2.2
        have t0 := cell_of_row _ _ 0 _ _ _ RZ
        have t1 := cell_of_row _ _ 1 _ _ _ RZ
        have t2 := cell_of_row _ _ 2 _ _ _ RZ
        have t3 := cell_of_row _ _ 3 _ _ _ RZ
        have t4 := cell_of_row _ _ 4 _ _ _ RZ
        have t5 := cell_of_row _ _ 5 _ _ _ RZ
        have f0 := free_row RZ 0
        have f1 := free_row RZ 1
        have f2 := free_row RZ 2
        have f3 := free_row RZ 3
        have f4 := free_row RZ 4
        have f5 := free_row RZ 5
        have ROW := hid (row6 (x := .slice (some ⟨b1, 0, none⟩) 6 6) (y := .slice (some ⟨b2, 0, none⟩) 6 6) (z := .slice none 0 0) (p := .slice (some ⟨b3, 0, none⟩) 12 12) (q := .int .i64 0) (r := .int .i64 0) RZ)
        clear RZ
        go_wp2
        have BN : Hid (gd + 1 ≠ b1 ∧ gd + 1 ≠ b2 ∧ gd + 1 ≠ b3) := ⟨by have := L1.out; omega, by have := L2.out; omega, by have := L3.out; omega⟩
        have G1 := FF.out.2.2.2.1
        have G2 := FF.out.2.2.2.2.1
        have G3 := FF.out.2.2.2.2.2.1
        have GA := FF.out.1
        refine bodyPost_ret ?_ rfl ⟨b1, b2, b3, rfl, ?_, ?_, ?_, ?_⟩
        · exact results_cell_row Tryz.results15 _ _ (w.heap.size + 1) _ _ (0, 0) _ rfl (by rw [HN.out]; exact ROW.out) Tryz.underlying25 rfl (by kernel_rfl)
        · exact (((((GA.setk (by rw [HN.out]; omega) _).setk (by rw [HN.out]; omega) _).setk (by rw [HN.out]; omega) _).setk (by rw [HN.out]; omega) _).setk (by rw [HN.out]; omega) _).setk (by rw [HN.out]; omega) _
        · exact (((((G1.setOther BN.out.1.symm _).setOther BN.out.1.symm _).setOther BN.out.1.symm _).setOther BN.out.1.symm _).setOther BN.out.1.symm _).setOther BN.out.1.symm _
        · exact (((((G2.setOther BN.out.2.1.symm _).setOther BN.out.2.1.symm _).setOther BN.out.2.1.symm _).setOther BN.out.2.1.symm _).setOther BN.out.2.1.symm _).setOther BN.out.2.1.symm _
        · exact (((((G3.setOther BN.out.2.2.symm _).setOther BN.out.2.2.symm _).setOther BN.out.2.2.symm _).setOther BN.out.2.2.symm _).setOther BN.out.2.2.symm _).setOther BN.out.2.2.symm _
end Go.Proofs.YtgeipbegpflkhaaGreatDoor

/-
  Vectors doubled, by plain numbers (no program).
-/
namespace Go.Proofs.YtgeipbegpflkhaaGreatDoor
open Tf Ieee
def Hi (h x : Nat) : Prop := mg x = 0 ∨ (238690780250636288 ≤ mg x ∧ mg x ≤ h)
theorem Hi.md {h x : Nat} (k : Hi h x) (hh : h + 4503599627370496 < 9218868437227405312) : Md x := by
  rcases k with k | k
  · exact .inl k
  · exact .inr ⟨by omega, by omega⟩
theorem mv_52 {r : Nat} (h : 238690780250636288 ≤ r) : ∃ q, mv r = q * 4503599627370496 := by
  unfold mv mag
  have e : (2 : Nat) ^ 52 = 4503599627370496 := by decide
  rw [if_neg (by omega), e]
  obtain ⟨j, hj⟩ : ∃ j, r / 4503599627370496 - 1 = 52 + j := ⟨r / 4503599627370496 - 1 - 52, by omega⟩
  rw [hj, Nat.pow_add, e]
  exact ⟨(4503599627370496 + r % 4503599627370496) * 2 ^ j, by rw [← Nat.mul_assoc, Nat.mul_right_comm]⟩
theorem Hi.sv {h x : Nat} (k : Hi h x) : ∃ q : Int, sv x = q * 4503599627370496 := by
  unfold Tf.sv
  rcases k with k | k
  · rw [k, mv_zero]; exact ⟨0, by cases ng x <;> rfl⟩
  · obtain ⟨q, hq⟩ := mv_52 k.1
    rw [hq]
    cases ng x
    · exact ⟨q, by simp⟩
    · exact ⟨-q, by simp; omega⟩
theorem Hi.abs {h x : Nat} (k : Hi h x) : (Tf.sv x).natAbs ≤ mv h := by
  have : (Tf.sv x).natAbs = mv (mg x) := by unfold Tf.sv; cases ng x <;> simp
  rw [this]
  rcases k with k | k
  · rw [k, mv_zero]; omega
  · exact mv_le.2 k.2
theorem sum_ok {h a b : Nat} (ka : Hi h a) (kb : Hi h b) (h1 : 4503599627370496 ≤ h) (h2 : h + 9007199254740992 < 9218868437227405312) :
    (sv a + sv b = 0 ∨ (4503599627370496 ≤ (sv a + sv b).natAbs ∧ rung 52 0 (sv a + sv b).natAbs + 4503599627370496 ≤ 9218868437227405312)) ∧ rung 52 0 (sv a + sv b).natAbs ≤ h + 4503599627370496 := by
  obtain ⟨p, hp⟩ := ka.sv
  obtain ⟨q, hq⟩ := kb.sv
  have x1 := ka.abs
  have x2 := kb.abs
  have hle : rung 52 0 (sv a + sv b).natAbs ≤ h + 4503599627370496 := by
    refine rung_le (by omega) ?_
    rw [Nat.pow_zero, Nat.mul_one]
    have : mv (h + 4503599627370496) = 2 * mv h := mv_dbl h1
    show _ ≤ mv (h + 4503599627370496)
    omega
  refine ⟨?_, hle⟩
  by_cases c : sv a + sv b = 0
  · exact .inl c
  · refine .inr ⟨?_, by omega⟩
    rw [hp, hq] at c ⊢
    have : p + q ≠ 0 := by
      intro e
      have : p * 4503599627370496 + q * 4503599627370496 = (p + q) * 4503599627370496 := by rw [Int.add_mul]
      rw [this, e] at c
      exact c (by omega)
    omega
theorem addB_db {h a b : Nat} (ha : a < 18446744073709551616) (hb : b < 18446744073709551616) (ka : Hi h a) (kb : Hi h b) (h1 : 4503599627370496 ≤ h) (h2 : h + 9007199254740992 < 9218868437227405312) :
    addB (db a) (db b) = db (addB a b) ∧ Md (addB a b) := by
  have ma := ka.md (by omega)
  have mb := kb.md (by omega)
  obtain ⟨s1, s2⟩ := sum_ok ka kb h1 h2
  rw [addB_fin _ _ (db_lt ma.w ha) (db_lt mb.w hb) ma.dfin mb.dfin, addB_fin a b ha hb ma.fin mb.fin, db_sv ma ha, db_sv mb hb, ← Int.mul_add, rn_dbl false s1]
  refine ⟨rfl, ?_⟩
  unfold Md
  rw [rn_mg]
  rcases s1 with s1 | s1
  · rw [s1]; left; rw [show (0 : Int).natAbs = 0 from rfl, rung_none]; rfl
  · right
    have hb := rung_ge (p := 52) (d := 0) (r := 4503599627370496) (V := (sv a + sv b).natAbs) (by omega) (by
      rw [Nat.pow_zero, Nat.mul_one, show mag 52 4503599627370496 = 4503599627370496 by decide]; exact s1.1)
    generalize rung 52 0 (sv a + sv b).natAbs = r at *
    omega
theorem sbB_db {h a b : Nat} (ha : a < 18446744073709551616) (hb : b < 18446744073709551616) (ka : Hi h a) (kb : Hi h b) (h1 : 4503599627370496 ≤ h) (h2 : h + 9007199254740992 < 9218868437227405312) :
    sbB (db a) (db b) = db (sbB a b) ∧ Md (sbB a b) := by
  have mb := kb.md (by omega)
  have kn : Hi h (negB b) := by unfold Hi; rw [negB_mg hb]; exact kb
  unfold sbB
  rw [← db_neg mb hb]
  exact addB_db ha (negB_lt' hb) ka kn h1 h2
/-- a number that is no less than nothing -/
def Ps (h x : Nat) : Prop := Hi h x ∧ x < 9223372036854775808
theorem Ps.lt {h x : Nat} (k : Ps h x) : x < 18446744073709551616 := by have := k.2; omega
theorem Ps.ng {h x : Nat} (k : Ps h x) : Tf.ng x = false := ng_of_lt k.2
theorem Ps.mg {h x : Nat} (k : Ps h x) : Tf.mg x = x := mg_of_lt k.2
theorem Ps.up {h g x : Nat} (k : Ps h x) (hg : h ≤ g) : Ps g x := ⟨by rcases k.1 with a | a; exact .inl a; exact .inr ⟨a.1, by omega⟩, k.2⟩
theorem Ps.db {h x : Nat} (k : Ps h x) (hh : h + 4503599627370496 < 9218868437227405312) : Ps (h + 4503599627370496) (db x) := by
  have m := k.1.md hh
  have e := db_mg m.w
  have e2 := db_ng m.w k.lt
  rw [k.ng] at e2
  refine ⟨?_, lt_of_ng e2⟩
  unfold Hi
  rw [e]
  rcases k.1 with a | a
  · rw [if_pos a]; exact .inl rfl
  · rw [if_neg (by omega)]; exact .inr ⟨by omega, by omega⟩
theorem plB_db {h a b : Nat} (ka : Ps h a) (kb : Ps h b) (h1 : 4503599627370496 ≤ h) (h2 : h + 9007199254740992 < 9218868437227405312) :
    plB (db a) (db b) = db (plB a b) ∧ Ps (h + 4503599627370496) (plB a b) := by
  have ma := ka.1.md (by omega)
  have mb := kb.1.md (by omega)
  obtain ⟨s1, s2⟩ := sum_ok ka.1 kb.1 h1 h2
  rw [plB_some (add_d _ _ (db_lt ma.w ka.lt) (db_lt mb.w kb.lt) ma.dfin mb.dfin), plB_some (add_d a b ka.lt kb.lt ma.fin mb.fin), db_sv ma ka.lt, db_sv mb kb.lt, ← Int.mul_add, db_ng ma.w ka.lt, rn_dbl _ s1, db_ng mb.w kb.lt]
  refine ⟨rfl, ?_⟩
  have ea : sv a = (mv a : Int) := by unfold sv; rw [ka.ng, ka.mg]; rfl
  have eb : sv b = (mv b : Int) := by unfold sv; rw [kb.ng, kb.mg]; rfl
  have hlt : rn (ng a && ng b) (sv a + sv b) < 9223372036854775808 := by
    rw [ka.ng, ea, eb]
    unfold rn
    have : ¬ ((mv a : Int) + (mv b : Int) < 0) := by omega
    rw [decide_eq_false this]
    simp only [Bool.false_and, ite_self, Bool.false_eq_true, if_false]
    exact Nat.lt_of_le_of_lt (Nat.min_le_right _ _) (by decide)
  refine ⟨?_, hlt⟩
  unfold Hi
  rw [rn_mg]
  rw [Nat.min_eq_left (by omega)]
  rcases ka.1 with a0 | a1
  · rcases kb.1 with b0 | b1
    · left
      rw [ka.mg] at a0
      rw [kb.mg] at b0
      rw [ea, eb, a0, b0, mv_zero]
      exact rung_none 0
    · right
      refine ⟨rung_ge (by omega) ?_, s2⟩
      rw [kb.mg] at b1
      rw [Nat.pow_zero, Nat.mul_one]
      have : mv 238690780250636288 ≤ mv b := mv_le.2 b1.1
      show mv 238690780250636288 ≤ _
      omega
  · right
    refine ⟨rung_ge (by omega) ?_, s2⟩
    rw [ka.mg] at a1
    rw [Nat.pow_zero, Nat.mul_one]
    have : mv 238690780250636288 ≤ mv a := mv_le.2 a1.1
    show mv 238690780250636288 ≤ _
    omega
theorem key_db {h a b : Nat} (ka : Ps h a) (kb : Ps h b) (hh : h + 4503599627370496 < 9218868437227405312) : (key (db b) < key (db a)) = (key b < key a) := by
  have da := ka.db hh
  have db' := kb.db hh
  have ea := db_mg (ka.1.md hh).w
  have eb := db_mg (kb.1.md hh).w
  unfold key
  rw [da.ng, db'.ng, ka.ng, kb.ng, ea, eb]
  apply propext
  by_cases ca : mg a = 0
  · by_cases cb : mg b = 0
    · rw [if_pos ca, if_pos cb, ca, cb]
    · rw [if_pos ca, if_neg cb]; omega
  · by_cases cb : mg b = 0
    · rw [if_neg ca, if_pos cb]; simp; omega
    · rw [if_neg ca, if_neg cb]; simp
theorem lo_db {h a b : Nat} (ka : Ps h a) (kb : Ps h b) (hh : h + 4503599627370496 < 9218868437227405312) : loB (db a) (db b) = db (loB a b) ∧ hiB (db a) (db b) = db (hiB a b) ∧ Ps h (loB a b) ∧ Ps h (hiB a b) := by
  have e := key_db ka kb hh
  unfold loB hiB
  by_cases c : key b < key a
  · rw [if_pos (by rw [e]; exact c), if_pos c, if_pos (by rw [e]; exact c), if_pos c]
    exact ⟨rfl, rfl, kb, ka⟩
  · rw [if_neg (by rw [e]; exact c), if_neg c, if_neg (by rw [e]; exact c), if_neg c]
    exact ⟨rfl, rfl, ka, kb⟩
theorem thB_db {h a b c : Nat} (ka : Ps h a) (kb : Ps h b) (kc : Ps h c) (h1 : 4503599627370496 ≤ h) (h2 : h + 13510798882111488 < 9218868437227405312) :
    thB (db a) (db b) (db c) = db (thB a b c) ∧ Ps (h + 9007199254740992) (thB a b c) := by
  obtain ⟨e1, e2, k1, k2⟩ := lo_db ka kb (by omega)
  obtain ⟨e3, e4, k3, k4⟩ := lo_db k2 kc (by omega)
  obtain ⟨e5, e6, k5, k6⟩ := lo_db k1 k3 (by omega)
  obtain ⟨p1, p2⟩ := plB_db k5 k6 h1 (by omega)
  obtain ⟨g, hg⟩ : ∃ g, h + 4503599627370496 = g := ⟨_, rfl⟩
  rw [hg] at p2
  have k7 : Ps g (hiB (hiB a b) c) := k4.up (by omega)
  obtain ⟨p3, p4⟩ := plB_db p2 k7 (by omega) (by omega)
  have p5 : Ps (h + 9007199254740992) (plB (plB (loB (loB a b) (loB (hiB a b) c)) (hiB (loB a b) (loB (hiB a b) c))) (hiB (hiB a b) c)) := p4.up (by omega)
  unfold thB
  rw [e1, e2, e3, e4, e5, e6, p1, p3]
  exact ⟨rfl, p5⟩
/-- from 1e-100 to 1e100, or nought -/
def In1 (x : Nat) : Prop := mg x = 0 ∨ (3110860544497550640 ≤ mg x ∧ mg x ≤ 6103021453049119613)
theorem In1.hi {x : Nat} (k : In1 x) : Hi 6103021453049119613 x := by
  rcases k with k | k
  · exact .inl k
  · exact .inr ⟨by omega, k.2⟩
theorem In1.md {x : Nat} (k : In1 x) : Md x := k.hi.md (by omega)
theorem pr_lo : mv 1599789920352257571 * 2 ^ K ≤ mv 3110860544497550640 * mv 3110860544497550640 := by decide +kernel
theorem pr_hi : mv 6103021453049119613 * mv 6103021453049119613 ≤ mv 7613934262404594417 * 2 ^ K := by decide +kernel
theorem pr_lg : 2 ^ (52 + K) ≤ mv 3110860544497550640 * mv 3110860544497550640 := by decide +kernel
theorem rung_ge' {d r V : Nat} (h : mv r * 2 ^ d ≤ V) : r ≤ rung 52 d V := rung_ge (by omega) h
theorem rung_le' {d r V : Nat} (h : V ≤ mv r * 2 ^ d) : rung 52 d V ≤ r := rung_le (by omega) h
theorem pr_rung {V : Nat} (h1 : mv 3110860544497550640 * mv 3110860544497550640 ≤ V) (h2 : V ≤ mv 6103021453049119613 * mv 6103021453049119613) :
    52 + 1074 ≤ V.log2 ∧ 1599789920352257571 ≤ rung 52 1074 V ∧ rung 52 1074 V ≤ 7613934262404594417 := by
  have hV : 2 ^ (52 + K) ≤ V := Nat.le_trans pr_lg h1
  have h0 : V ≠ 0 := by have := Nat.two_pow_pos (52 + K); omega
  refine ⟨?_, ?_, ?_⟩
  · have := (Nat.le_log2 h0).2 hV
    exact this
  · exact rung_ge' (d := K) (Nat.le_trans pr_lo h1)
  · exact rung_le' (d := K) (Nat.le_trans h2 pr_hi)
theorem In1.far {x y : Nat} (kx : In1 x) (ky : In1 y) : Far x y := by
  rcases kx with kx | kx
  · exact .inl (.inl kx)
  · rcases ky with ky | ky
    · exact .inl (.inr ky)
    · obtain ⟨a, b, c⟩ := pr_rung (Nat.mul_le_mul (mv_le.2 kx.1) (mv_le.2 ky.1)) (Nat.mul_le_mul (mv_le.2 kx.2) (mv_le.2 ky.2))
      exact .inr ⟨a, by omega⟩
theorem In1.prod {x y : Nat} (hx : x < 18446744073709551616) (hy : y < 18446744073709551616) (kx : In1 x) (ky : In1 y) : Hi 7613934262404594417 (mlB x y) := by
  rw [mul_w hx hy kx.md.fin ky.md.fin]
  show Hi _ (wd (ng x ^^ ng y) _)
  unfold Hi
  have z : (mg x = 0 ∨ mg y = 0) → mv (mg x) * mv (mg y) = 0 := by
    intro h
    rcases h with h | h
    · rw [h, mv_zero, Nat.zero_mul]
    · rw [h, mv_zero, Nat.mul_zero]
  rcases kx with kx | kx
  · rw [z (.inl kx), rung_none, Nat.zero_min, wd_mg (by omega)]; exact .inl rfl
  · rcases ky with ky | ky
    · rw [z (.inr ky), rung_none, Nat.zero_min, wd_mg (by omega)]; exact .inl rfl
    · obtain ⟨a, b, c⟩ := pr_rung (Nat.mul_le_mul (mv_le.2 kx.1) (mv_le.2 ky.1)) (Nat.mul_le_mul (mv_le.2 kx.2) (mv_le.2 ky.2))
      generalize rung 52 1074 (mv (mg x) * mv (mg y)) = r at *
      rw [Nat.min_eq_left (by omega), wd_mg (by omega)]
      exact .inr ⟨by omega, c⟩
theorem In1.sq {x : Nat} (hx : x < 18446744073709551616) (k : In1 x) : Ps 7613934262404594417 (sqB x) := by
  refine ⟨k.prod hx hx k, ?_⟩
  unfold sqB
  rw [mul_w hx hx k.md.fin k.md.fin, Bool.xor_self]
  simp only [Bool.false_eq_true, if_false]
  exact Nat.lt_of_le_of_lt (Nat.min_le_right _ _) (by decide)
theorem In1.sq_db {x : Nat} (hx : x < 18446744073709551616) (k : In1 x) : sqB (db x) = db (db (sqB x)) := by
  have m := k.md
  have md : Md (db x) := by
    unfold Md
    rw [db_mg m.w]
    rcases k with k | k
    · rw [if_pos k]; exact .inl rfl
    · rw [if_neg (by omega)]; exact .inr ⟨by omega, by omega⟩
  have f : Far x (db x) := by
    unfold Far
    rw [db_mg m.w]
    rcases k with k | k
    · exact .inl (.inl k)
    · rw [if_neg (by omega)]
      obtain ⟨a, b, c⟩ := pr_rung (Nat.mul_le_mul (mv_le.2 k.1) (mv_le.2 k.1)) (Nat.mul_le_mul (mv_le.2 k.2) (mv_le.2 k.2))
      have h0 : mv (mg x) * mv (mg x) ≠ 0 := by intro e; rw [e] at a; simp at a
      rw [mv_dbl (by omega), show mv (mg x) * (2 * mv (mg x)) = mv (mg x) * mv (mg x) * 2 by rw [Nat.mul_left_comm, Nat.mul_comm]]
      have hl : (mv (mg x) * mv (mg x) * 2).log2 = (mv (mg x) * mv (mg x)).log2 + 1 := by
        have := log2_mul_pow (mv (mg x) * mv (mg x)) 1 h0
        rwa [Nat.pow_one] at this
      rw [rung_dbl h0 a, hl]
      exact .inr ⟨by omega, by omega⟩
  unfold sqB
  rw [mlB_db hx (db_lt m.w hx) m md f, mlB_dbr hx hx m m (k.far k)]
/-- how long a doubled vector is -/
theorem In1.ln {x y z : Nat} (hx : x < 18446744073709551616) (hy : y < 18446744073709551616) (hz : z < 18446744073709551616) (kx : In1 x) (ky : In1 y) (kz : In1 z) :
    lnB (db x) (db y) (db z) = db (lnB x y z) ∧ Md (lnB x y z) := by
  have s1 := kx.sq hx
  have s2 := ky.sq hy
  have s3 := kz.sq hz
  obtain ⟨t1, t2⟩ := thB_db s1 s2 s3 (by omega) (by omega)
  obtain ⟨t3, _⟩ := thB_db (s1.db (by omega)) (s2.db (by omega)) (s3.db (by omega)) (by omega) (by omega)
  unfold lnB
  rw [kx.sq_db hx, ky.sq_db hy, kz.sq_db hz, t3, t1]
  refine rtB_db t2.lt t2.ng ?_
  rcases t2.1 with h | h
  · exact .inl h
  · exact .inr ⟨by omega, by omega⟩
theorem lv_db {l : Nat} (hl : l < 18446744073709551616) (hn : ng l = false) (m : Md l) : lvB (db l) = lvB l := by
  rw [lv_class hl hn, lv_class (db_lt m.w hl) (by rw [db_ng m.w hl]; exact hn)]
  unfold classB
  rw [db_mg m.w]
  rcases m with h | h
  · rw [if_pos h, h]
  · rw [if_neg (show ¬ mg l = 0 by omega)]
    rw [if_neg (show ¬ mg l + 4503599627370496 = 0 by omega), if_neg (show ¬ mg l + 4503599627370496 < 4503599627370496 by omega), if_pos (show mg l + 4503599627370496 < 9218868437227405312 by omega), if_neg (show ¬ mg l = 0 by omega), if_neg (show ¬ mg l < 4503599627370496 by omega), if_pos (show mg l < 9218868437227405312 by omega)]
theorem un_db {x l : Nat} (hx : x < 18446744073709551616) (hl : l < 18446744073709551616) (hn : ng l = false) (mx : Md x) (ml : Md l) : unB (db l) (db x) = unB l x := by
  unfold unB
  rw [lv_db hl hn ml]
  by_cases c : lvB l = true
  · rw [if_pos c, if_pos c]
    refine dvB_db hx hl mx ml ?_
    intro h
    rw [lv_class hl hn] at c
    unfold classB at c
    rw [if_pos h] at c
    simp at c
  · rw [if_neg c, if_neg c]
theorem can_db {m : Nat} (hc : canonB m = m) (k : Md m) : canonB (db m) = db m := by
  have hN : ¬ isN (db m) = true := by have := k.dfin; rw [isN_true]; omega
  unfold canonB
  rw [if_neg hN, db_mg k.w]
  rcases k with k | k
  · rw [if_pos k, if_pos rfl]
    unfold canonB at hc
    rw [if_neg (by rw [isN_true]; omega), if_pos k] at hc
    rw [← hc]; decide
  · rw [if_neg (show ¬ mg m = 0 by omega), if_neg (by omega)]
end Go.Proofs.YtgeipbegpflkhaaGreatDoor

/-
  Doubled floats and products above nothing, by plain numbers (no program): for slopes that are kept small.
-/
namespace Go.Proofs.YtgeipbegpflkhaaGreatDoor
open Tf Ieee
theorem mv_2 : mv 4611686018427387904 = 2 * 2 ^ K := by rw [← mv_ONE]; exact mv_dbl (r := 4607182418800017408) (by omega)
/-- a product of two floats that aren't below nothing -/
theorem ml_word {a b : Nat} (ha : a < 9218868437227405312) (hb : b < 9218868437227405312) : mlB a b = min (rung 52 1074 (mv a * mv b)) 9218868437227405312 := by
  have ma : mg a = a := mg_of_lt (by omega)
  have mb : mg b = b := mg_of_lt (by omega)
  rw [mul_w (by omega) (by omega) (by omega) (by omega), ng_of_lt (by omega), ng_of_lt (by omega), ma, mb]
  simp only [Bool.xor_self, Bool.false_eq_true, if_false]
theorem mv_sm {r : Nat} (h : r < 9007199254740992) : mv r = r := by
  by_cases c : r < 4503599627370496
  · have := mv_zero
    unfold mv mag
    rw [if_pos c]
  · rw [mv_parts (by omega), show r % 4503599627370496 = r - 4503599627370496 by omega, show r / 4503599627370496 - 1 = 0 by omega, Nat.pow_zero, Nat.mul_one]
    omega
/-- doubling: a whole number of units that is a float's, or too great -/
theorem dbl_ex (a : Nat) : ∃ r, mv r = 2 * mv a ∧ a ≤ r ∧ (a ≠ 0 → a < r) := by
  by_cases h : 4503599627370496 ≤ a
  · exact ⟨a + 4503599627370496, mv_dbl h, by omega, fun _ => by omega⟩
  · refine ⟨2 * a, ?_, by omega, fun _ => by omega⟩
    rw [mv_sm (r := 2 * a) (by omega), mv_sm (r := a) (by omega)]
theorem d2_word {a : Nat} (ha : a < 9218868437227405312) : mlB 4611686018427387904 a = min (rung 52 0 (2 * mv a)) 9218868437227405312 := by
  rw [ml_word (by omega) ha, mv_2, show 2 * 2 ^ K * mv a = (2 * mv a) * 2 ^ K by rw [Nat.mul_right_comm]]
  have h := rung_scale 52 0 K (2 * mv a)
  rw [Nat.zero_add] at h
  exact congrArg (min · 9218868437227405312) h
/-- 2 * a of a that isn't below nothing: exact, or the infinity -/
theorem d2_facts {a : Nat} (ha : a ≤ 9218868437227405312) : mlB 4611686018427387904 a ≤ 9218868437227405312 ∧ a ≤ mlB 4611686018427387904 a ∧ (mlB 4611686018427387904 a < 9218868437227405312 → mv (mlB 4611686018427387904 a) = 2 * mv a) := by
  by_cases h : a < 9218868437227405312
  · obtain ⟨r, h1, h2, -⟩ := dbl_ex a
    rw [d2_word h, ← h1, rung_mv]
    refine ⟨Nat.min_le_right _ _, by omega, fun k => ?_⟩
    rw [Nat.min_eq_left (by omega), h1]
  · obtain rfl : a = 9218868437227405312 := by omega
    have e : mlB 4611686018427387904 9218868437227405312 = 9218868437227405312 := by decide +kernel
    rw [e]
    exact ⟨Nat.le_refl _, Nat.le_refl _, fun k => by omega⟩
theorem d2_mono {a b : Nat} (h : a ≤ b) (hb : b ≤ 9218868437227405312) : mlB 4611686018427387904 a ≤ mlB 4611686018427387904 b := by
  by_cases k : b < 9218868437227405312
  · rw [d2_word (by omega), d2_word k]
    have := rung_mono (p := 52) (d := 0) (V := 2 * mv a) (V' := 2 * mv b) (by omega) (Nat.mul_le_mul_left 2 (mv_le.2 h))
    omega
  · obtain rfl : b = 9218868437227405312 := by omega
    have e : mlB 4611686018427387904 9218868437227405312 = 9218868437227405312 := by decide +kernel
    rw [e]
    exact (d2_facts (by omega)).1
/-- the product of both, doubled: whichever is doubled first -/
theorem leer_comm {a b : Nat} (ha : a < 9218868437227405312) (hb : b < 9218868437227405312) (da : mlB 4611686018427387904 a < 9218868437227405312) (db : mlB 4611686018427387904 b < 9218868437227405312) :
    mlB (mlB 4611686018427387904 a) b = mlB (mlB 4611686018427387904 b) a := by
  rw [ml_word da hb, ml_word db ha, (d2_facts (by omega)).2.2 da, (d2_facts (by omega)).2.2 db, show 2 * mv a * mv b = 2 * mv b * mv a by rw [Nat.mul_right_comm]]
/-- Superbee above nothing -/
def sbee (a b : Nat) : Nat := max (min (mlB 4611686018427387904 a) b) (min a (mlB 4611686018427387904 b))
theorem sbee_comm (a b : Nat) : sbee a b = sbee b a := by unfold sbee; omega
theorem sbee_facts {a b : Nat} (ha : a ≤ 9218868437227405312) (hb : b ≤ 9218868437227405312) : min a b ≤ sbee a b ∧ sbee a b ≤ max a b ∧ sbee a b ≤ mlB 4611686018427387904 (min a b) := by
  have fa := d2_facts ha
  have fb := d2_facts hb
  have mono : ∀ x y, x ≤ y → y ≤ 9218868437227405312 → mlB 4611686018427387904 x ≤ mlB 4611686018427387904 y := fun x y h k => d2_mono h k
  unfold sbee
  rcases Nat.le_total a b with h | h
  · rw [Nat.min_eq_left h]
    omega
  · rw [Nat.min_eq_right h]
    omega
end Go.Proofs.YtgeipbegpflkhaaGreatDoor
