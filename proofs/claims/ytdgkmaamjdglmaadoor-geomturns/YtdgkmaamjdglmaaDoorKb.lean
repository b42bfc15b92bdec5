/-
  Points of package cube: contracts.
-/
import Derived.Test.YtdgkmaamjdglmaaDoorKa
import Derived.Test.YtdgkmaamjdglmaaDoorMm
import Derived.Test.YtdgkmaamjdglmaaDoorRows
import Derived.WalkKit
import Derived.Below
namespace Go.Proofs.YtdgkmaamjdglmaaDoor
open Go.RowKit Cu

/-- all three parts are small -/
def Sm (p : P3) : Prop := (-10000 ≤ p.1 ∧ p.1 ≤ 10000) ∧ (-10000 ≤ p.2.1 ∧ p.2.1 ≤ 10000) ∧ (-10000 ≤ p.2.2 ∧ p.2.2 ≤ 10000)
/-- all three parts are -1, 0 or 1 -/
def Un (p : P3) : Prop := (-1 ≤ p.1 ∧ p.1 ≤ 1) ∧ (-1 ≤ p.2.1 ∧ p.2.1 ≤ 1) ∧ (-1 ≤ p.2.2 ∧ p.2.2 ≤ 1)
theorem mul_un {a x : Int} (h : -1 ≤ a ∧ a ≤ 1) (m : Int) (k : -m ≤ x ∧ x ≤ m) : (-m ≤ x * a ∧ x * a ≤ m) ∧ (-m ≤ a * x ∧ a * x ≤ m) := by
  rcases (show a = -1 ∨ a = 0 ∨ a = 1 by omega) with rfl | rfl | rfl <;> omega
theorem Un.sm {p : P3} (h : Un p) : Sm p := by unfold Un at h; unfold Sm; omega
theorem sc_sm {p : P3} {k : Int} (h : Un p) (hk : -10000 ≤ k ∧ k ≤ 10000) : Sm (sc k p) :=
  ⟨(mul_un h.1 10000 hk).1, (mul_un h.2.1 10000 hk).1, (mul_un h.2.2 10000 hk).1⟩
set_option maxHeartbeats 1000000 in
theorem plus_ex (p q : P3) (w : World) (hp : Sm p) (hq : Sm q) :
    Calls Tryd.prog 27 #[.agg #[.int .i64 p.1, .int .i64 p.2.1, .int .i64 p.2.2], .agg #[.int .i64 q.1, .int .i64 q.2.1, .int .i64 q.2.2]] w fun e w' => e = .returned (.agg #[.int .i64 (pl p q).1, .int .i64 (pl p q).2.1, .int .i64 (pl p q).2.2]) ∧ w' = (((w.alloc (.cells #[.int .i64 p.1, .int .i64 p.2.1, .int .i64 p.2.2] 53)).alloc (.cells #[.int .i64 q.1, .int .i64 q.2.1, .int .i64 q.2.2] 53)).alloc (.cells #[.int .i64 (pl p q).1, .int .i64 (pl p q).2.1, .int .i64 (pl p q).2.2] 53)) := by
  obtain ⟨x, y, z⟩ := p
  obtain ⟨a, b, c⟩ := q
  obtain ⟨hx, hy, hz⟩ := hp
  obtain ⟨ha, hb, hc⟩ := hq
  simp only [pl] at *
  go_enter Tryd.func27, Tryd.ntmps27
  go_wp2
  refine bodyPost_ret ?_ rfl ⟨rfl, rfl⟩
  exact results_cell_row Tryd.results27 _ _ (w.heap.size + 2) _ _ (0, 0) _ rfl (heap_alloc3_new _ _ _ _) Tryd.underlying53 rfl (by kernel_rfl)
theorem plus_at (p q : P3) (w : World) (hp : Sm p) (hq : Sm q) :
    Calls Tryd.prog 27 #[.agg #[.int .i64 p.1, .int .i64 p.2.1, .int .i64 p.2.2], .agg #[.int .i64 q.1, .int .i64 q.2.1, .int .i64 q.2.2]] w fun e w' => e = .returned (.agg #[.int .i64 (pl p q).1, .int .i64 (pl p q).2.1, .int .i64 (pl p q).2.2]) ∧ Below w.heap.size w w' :=
  (plus_ex p q   w hp hq).mono fun _ _ ⟨he, hw⟩ => ⟨he, hw ▸ bl3 _ _ _ _⟩
set_option maxHeartbeats 1000000 in
theorem times_ex (p : P3) (k : Int) (w : World) (hr : Sm (sc k p)) :
    Calls Tryd.prog 28 #[.agg #[.int .i64 p.1, .int .i64 p.2.1, .int .i64 p.2.2], .int .i64 k] w fun e w' => e = .returned (.agg #[.int .i64 (sc k p).1, .int .i64 (sc k p).2.1, .int .i64 (sc k p).2.2]) ∧ w' = ((w.alloc (.cells #[.int .i64 p.1, .int .i64 p.2.1, .int .i64 p.2.2] 53)).alloc (.cells #[.int .i64 (sc k p).1, .int .i64 (sc k p).2.1, .int .i64 (sc k p).2.2] 53)) := by
  obtain ⟨x, y, z⟩ := p
  obtain ⟨hx, hy, hz⟩ := hr
  simp only [sc] at *
  go_enter Tryd.func28, Tryd.ntmps28
  go_wp2
  refine bodyPost_ret ?_ rfl ⟨rfl, rfl⟩
  exact results_cell_row Tryd.results28 _ _ (w.heap.size + 1) _ _ (0, 0) _ rfl (heap_alloc2_new _ _ _) Tryd.underlying53 rfl (by kernel_rfl)
theorem times_at (p : P3) (k : Int) (w : World) (hr : Sm (sc k p)) :
    Calls Tryd.prog 28 #[.agg #[.int .i64 p.1, .int .i64 p.2.1, .int .i64 p.2.2], .int .i64 k] w fun e w' => e = .returned (.agg #[.int .i64 (sc k p).1, .int .i64 (sc k p).2.1, .int .i64 (sc k p).2.2]) ∧ Below w.heap.size w w' :=
  (times_ex p   k   w hr).mono fun _ _ ⟨he, hw⟩ => ⟨he, hw ▸ bl2 _ _ _⟩
set_option maxHeartbeats 1000000 in
theorem along_ex (p q : P3) (w : World) (hp : Sm p) (hq : Un q) :
    Calls Tryd.prog 29 #[.agg #[.int .i64 p.1, .int .i64 p.2.1, .int .i64 p.2.2], .agg #[.int .i64 q.1, .int .i64 q.2.1, .int .i64 q.2.2]] w fun e w' => e = .returned (.int .i64 (dt p q)) ∧ w' = ((w.alloc (.cells #[.int .i64 p.1, .int .i64 p.2.1, .int .i64 p.2.2] 53)).alloc (.cells #[.int .i64 q.1, .int .i64 q.2.1, .int .i64 q.2.2] 53)) := by
  obtain ⟨x, y, z⟩ := p
  obtain ⟨a, b, c⟩ := q
  have hx := (mul_un hq.1 10000 hp.1).1
  have hy := (mul_un hq.2.1 10000 hp.2.1).1
  have hz := (mul_un hq.2.2 10000 hp.2.2).1
  clear hp hq
  simp only [dt] at *
  go_enter Tryd.func29, Tryd.ntmps29
  go_wp2
  go_ret
  exact ⟨rfl, rfl⟩
theorem along_at (p q : P3) (w : World) (hp : Sm p) (hq : Un q) :
    Calls Tryd.prog 29 #[.agg #[.int .i64 p.1, .int .i64 p.2.1, .int .i64 p.2.2], .agg #[.int .i64 q.1, .int .i64 q.2.1, .int .i64 q.2.2]] w fun e w' => e = .returned (.int .i64 (dt p q)) ∧ Below w.heap.size w w' :=
  (along_ex p q   w hp hq).mono fun _ _ ⟨he, hw⟩ => ⟨he, hw ▸ bl2 _ _ _⟩
set_option maxHeartbeats 1000000 in
theorem cross_ex (p q : P3) (w : World) (hp : Un p) (hq : Un q) :
    Calls Tryd.prog 55 #[.agg #[.int .i64 p.1, .int .i64 p.2.1, .int .i64 p.2.2], .agg #[.int .i64 q.1, .int .i64 q.2.1, .int .i64 q.2.2]] w fun e w' => e = .returned (.agg #[.int .i64 (cx p q).1, .int .i64 (cx p q).2.1, .int .i64 (cx p q).2.2]) ∧ w' = (((w.alloc (.cells #[.int .i64 p.1, .int .i64 p.2.1, .int .i64 p.2.2] 53)).alloc (.cells #[.int .i64 q.1, .int .i64 q.2.1, .int .i64 q.2.2] 53)).alloc (.cells #[.int .i64 (cx p q).1, .int .i64 (cx p q).2.1, .int .i64 (cx p q).2.2] 53)) := by
  obtain ⟨x, y, z⟩ := p
  obtain ⟨a, b, c⟩ := q
  have h1 := (mul_un hq.2.2 1 hp.2.1).1
  have h2 := (mul_un hq.2.1 1 hp.2.2).1
  have h3 := (mul_un hq.1 1 hp.2.2).1
  have h4 := (mul_un hq.2.2 1 hp.1).1
  have h5 := (mul_un hq.2.1 1 hp.1).1
  have h6 := (mul_un hq.1 1 hp.2.1).1
  clear hp hq
  simp only [cx] at *
  go_enter Tryd.func55, Tryd.ntmps55
  go_wp2
  refine bodyPost_ret ?_ rfl ⟨rfl, rfl⟩
  exact results_cell_row Tryd.results55 _ _ (w.heap.size + 2) _ _ (0, 0) _ rfl (heap_alloc3_new _ _ _ _) Tryd.underlying53 rfl (by kernel_rfl)
theorem cuCross_at (p q : P3) (w : World) (hp : Un p) (hq : Un q) :
    Calls Tryd.prog 55 #[.agg #[.int .i64 p.1, .int .i64 p.2.1, .int .i64 p.2.2], .agg #[.int .i64 q.1, .int .i64 q.2.1, .int .i64 q.2.2]] w fun e w' => e = .returned (.agg #[.int .i64 (cx p q).1, .int .i64 (cx p q).2.1, .int .i64 (cx p q).2.2]) ∧ Below w.heap.size w w' :=
  (cross_ex p q   w hp hq).mono fun _ _ ⟨he, hw⟩ => ⟨he, hw ▸ bl3 _ _ _ _⟩
/-- whether k is one of the numbers from 0 up to ahead of n -/
def inR (k n : Int) : Bool := decide (0 ≤ k) && decide (k < n)
set_option maxHeartbeats 1000000 in
theorem counts_at (k n : Int) (w : World) : Calls Tryd.prog 24 #[.int .i64 k, .int .i64 n] w fun e w' => e = .returned (.bool (inR k n)) ∧ w' = w := by
  by_cases h1 : (0 : Int) ≤ k
  · have hd : inR k n = decide (k < n) := by simp [inR, h1]
    rw [hd]
    clear hd
    go_enter Tryd.func24, Tryd.ntmps24
    go_wp2
    go_ret
    exact ⟨rfl, rfl⟩
  · have hd : inR k n = false := by simp [inR, h1]
    rw [hd]
    clear hd
    go_enter Tryd.func24, Tryd.ntmps24
    go_wp2
    go_ret
    exact ⟨rfl, rfl⟩
def clN (side : Int) : Int := if 1 ≤ side ∧ side ≤ 32 then 6 * side * side else 0
theorem sq_le {x : Int} (h1 : 1 ≤ x) (h2 : x ≤ 32) : 6 * x * x ≤ 6144 ∧ 1 ≤ 6 * x * x := by
  have a : x * x ≤ 32 * 32 := Int.mul_le_mul h2 h2 (by omega) (by omega)
  have b : 1 * 1 ≤ x * x := Int.mul_le_mul h1 h1 (by omega) (by omega)
  rw [Int.mul_assoc]
  omega
set_option maxHeartbeats 1000000 in
theorem cells_at (side : Int) (w : World) : Calls Tryd.prog 20 #[.int .i64 side] w fun e w' => e = .returned (.int .i64 (clN side)) ∧ w' = w := by
  by_cases h1 : (1 : Int) ≤ side
  · by_cases h2 : side ≤ (32 : Int)
    · have hd : clN side = 6 * side * side := by simp [clN, h1, h2]
      have hb := sq_le h1 h2
      rw [hd]
      clear hd
      go_enter Tryd.func20, Tryd.ntmps20
      go_wp2
      go_ret
      exact ⟨rfl, rfl⟩
    · have hd : clN side = 0 := by simp [clN, h1, h2]
      rw [hd]
      clear hd
      go_enter Tryd.func20, Tryd.ntmps20
      go_wp2
      go_ret
      exact ⟨rfl, rfl⟩
  · have hd : clN side = 0 := by simp [clN, h1]
    rw [hd]
    clear hd
    go_enter Tryd.func20, Tryd.ntmps20
    go_wp2
    go_ret
    exact ⟨rfl, rfl⟩
end Go.Proofs.YtdgkmaamjdglmaaDoor
