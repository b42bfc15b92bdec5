/-
  Words of 64 bits of whole numbers, and blocks that hold them, by plain numbers (no program).
-/
import Derived.Test.YtgbnabpbheebjaaTc
import Derived.Test.YtgbnabpbheebjaaWc
import Derived.Laws.Rows
import Derived.Laws.Tables
import Derived.ChangeKeysEq
import Derived.Below
namespace Go.Proofs.Ytgbnabpbheebjaa
open Tf

theorem p64_pos (i : Nat) : (0 : Int) < ((2 ^ (64 * i) : Nat) : Int) := by have := pow_pos (64 * i); omega
theorem p64_succ (i : Nat) : ((2 ^ (64 * (i + 1)) : Nat) : Int) = ((2 ^ (64 * i) : Nat) : Int) * 18446744073709551616 := by
  have : 64 * (i + 1) = 64 * i + 64 := by omega
  rw [this, Nat.pow_add, Int.natCast_mul]; rfl
theorem p64_add (i k : Nat) : ((2 ^ (64 * (i + k)) : Nat) : Int) = ((2 ^ (64 * i) : Nat) : Int) * ((2 ^ (64 * k) : Nat) : Int) := by
  have : 64 * (i + k) = 64 * i + 64 * k := by omega
  rw [this, Nat.pow_add, Int.natCast_mul]
/-- word i of a whole number (below nothing: of its two's complement) -/
def dg (V : Int) (i : Nat) : Int := V / ((2 ^ (64 * i) : Nat) : Int) % 18446744073709551616
theorem dg_nonneg (V : Int) (i : Nat) : 0 ≤ dg V i := by unfold dg; omega
theorem dg_lt (V : Int) (i : Nat) : dg V i < 18446744073709551616 := by unfold dg; omega
/-- what is carried into word j -/
def cy (A B : Int) (j : Nat) : Int := (A + B) / ((2 ^ (64 * j) : Nat) : Int) - A / ((2 ^ (64 * j) : Nat) : Int) - B / ((2 ^ (64 * j) : Nat) : Int)
theorem ediv_add_bound (A B P : Int) (hP : 0 < P) : 0 ≤ (A + B) / P - A / P - B / P ∧ (A + B) / P - A / P - B / P ≤ 1 := by
  have hA := Int.mul_ediv_add_emod A P
  have hB := Int.mul_ediv_add_emod B P
  have rA := Int.emod_nonneg A (by omega : P ≠ 0)
  have rB := Int.emod_nonneg B (by omega : P ≠ 0)
  have sA := Int.emod_lt_of_pos A hP
  have sB := Int.emod_lt_of_pos B hP
  have e : A + B = (A % P + B % P) + (A / P + B / P) * P := by
    rw [Int.add_mul, Int.mul_comm (A / P) P, Int.mul_comm (B / P) P]; omega
  have h := Int.add_mul_ediv_right (A % P + B % P) (A / P + B / P) (by omega : P ≠ 0)
  rw [← e] at h
  have h1 : 0 ≤ (A % P + B % P) / P := Int.ediv_nonneg (by omega) (by omega)
  have h2 : (A % P + B % P) / P < 2 := Int.ediv_lt_of_lt_mul hP (by omega)
  omega
theorem cy_bound (A B : Int) (j : Nat) : 0 ≤ cy A B j ∧ cy A B j ≤ 1 := ediv_add_bound A B _ (p64_pos j)
theorem cy_step (A B : Int) (j : Nat) : (dg A j + dg B j + cy A B j) % 18446744073709551616 = dg (A + B) j ∧ (dg A j + dg B j + cy A B j) / 18446744073709551616 = cy A B (j + 1) := by
  unfold dg cy
  rw [p64_succ, ← Int.ediv_ediv_of_nonneg (Int.le_of_lt (p64_pos j)), ← Int.ediv_ediv_of_nonneg (Int.le_of_lt (p64_pos j)), ← Int.ediv_ediv_of_nonneg (Int.le_of_lt (p64_pos j))]
  generalize (A + B) / ((2 ^ (64 * j) : Nat) : Int) = s
  generalize A / ((2 ^ (64 * j) : Nat) : Int) = a
  generalize B / ((2 ^ (64 * j) : Nat) : Int) = b
  omega
theorem cy_mul (A q : Int) (j : Nat) : cy A (q * ((2 ^ (64 * j) : Nat) : Int)) j = 0 := by
  unfold cy
  have hp := p64_pos j
  rw [Int.add_mul_ediv_right _ _ (by omega), Int.mul_ediv_cancel _ (by omega)]
  omega
/-- nothing is carried and nothing is left to add: the words stay -/
theorem dg_rest (A B : Int) (j k : Nat) (h : cy A B j = 0) (hB : B / ((2 ^ (64 * j) : Nat) : Int) = 0) (hk : j ≤ k) : dg (A + B) k = dg A k := by
  obtain ⟨d, rfl⟩ : ∃ d, k = j + d := ⟨k - j, by omega⟩
  unfold dg
  unfold cy at h
  rw [p64_add, ← Int.ediv_ediv_of_nonneg (Int.le_of_lt (p64_pos j)), ← Int.ediv_ediv_of_nonneg (Int.le_of_lt (p64_pos j))]
  rw [hB] at h
  have : (A + B) / ((2 ^ (64 * j) : Nat) : Int) = A / ((2 ^ (64 * j) : Nat) : Int) := by omega
  rw [this]
theorem dg_zero_of (B : Int) (j : Nat) (hB : B / ((2 ^ (64 * j) : Nat) : Int) = 0) : dg B j = 0 := by unfold dg; rw [hB]; rfl
theorem dg_not (V : Int) (j : Nat) : dg (-1 - V) j = 18446744073709551615 - dg V j := by
  unfold dg
  have hp := p64_pos j
  generalize ((2 ^ (64 * j) : Nat) : Int) = P at *
  have hV := Int.mul_ediv_add_emod V P
  have r0 := Int.emod_nonneg V (by omega : P ≠ 0)
  have r1 := Int.emod_lt_of_pos V hp
  have e : -1 - V = (P - 1 - V % P) + (-(V / P) - 1) * P := by
    rw [Int.sub_mul, Int.neg_mul, Int.mul_comm (V / P) P]; omega
  have h : (-1 - V) / P = -(V / P) - 1 := by
    rw [e, Int.add_mul_ediv_right _ _ (by omega), Int.ediv_eq_zero_of_lt (by omega) (by omega)]; omega
  rw [h]
  generalize V / P = q
  omega
theorem dg_shift (N : Int) (i k : Nat) : dg (N * ((2 ^ (64 * i) : Nat) : Int)) (i + k) = dg N k := by
  unfold dg
  rw [p64_add, Int.mul_comm N, Int.mul_ediv_mul_of_pos _ _ (p64_pos i)]
theorem dg_congr (A B z : Int) (n j : Nat) (h : A = B + z * ((2 ^ (64 * n) : Nat) : Int)) (hj : j < n) : dg A j = dg B j := by
  obtain ⟨d, rfl⟩ : ∃ d, n = j + (d + 1) := ⟨n - j - 1, by omega⟩
  unfold dg
  have hp := p64_pos j
  rw [h, p64_add, p64_succ]
  have e : z * (((2 ^ (64 * j) : Nat) : Int) * (((2 ^ (64 * d) : Nat) : Int) * 18446744073709551616)) = (z * ((2 ^ (64 * d) : Nat) : Int) * 18446744073709551616) * ((2 ^ (64 * j) : Nat) : Int) := by
    rw [Int.mul_comm ((2 ^ (64 * j) : Nat) : Int), ← Int.mul_assoc, ← Int.mul_assoc]
  rw [e, Int.add_mul_ediv_right _ _ (by omega)]
  generalize B / ((2 ^ (64 * j) : Nat) : Int) = y
  generalize z * ((2 ^ (64 * d) : Nat) : Int) = x
  omega
theorem dg_small (N : Int) (j : Nat) (h0 : 0 ≤ N) (h : N < ((2 ^ (64 * j) : Nat) : Int)) : N / ((2 ^ (64 * j) : Nat) : Int) = 0 := Int.ediv_eq_zero_of_lt h0 h

/-! Blocks: cells of whatever kind, so many words from a place on -/
def upd (f : Nat → Int) (k : Nat) (v : Int) : Nat → Int := fun j => if j = k then v else f j
def enW (C : Array Value) (o : Nat) (f : Nat → Int) : Array Value := Array.ofFn (n := C.size) fun k => if o ≤ k.val ∧ k.val < o + 66 then .int .u64 (f (k.val - o)) else C[k]
theorem enW_size (C : Array Value) (o : Nat) (f : Nat → Int) : (enW C o f).size = C.size := by simp [enW]
theorem enW_get (C : Array Value) (o : Nat) (f : Nat → Int) (j : Nat) (hj : j < 66) (ho : o + 66 ≤ C.size) : (enW C o f)[o + j]? = some (.int .u64 (f j)) := by
  have h1 : o + j < C.size := by omega
  simp [enW, h1, hj]
theorem enW_out (C : Array Value) (o : Nat) (f : Nat → Int) (k : Nat) (h : k < o ∨ o + 66 ≤ k) : (enW C o f)[k]? = C[k]? := by
  by_cases c : k < C.size
  · have : ¬ (o ≤ k ∧ k < o + 66) := by omega
    simp [enW, c, this]
  · simp [enW, c]
theorem enW_set (C : Array Value) (o : Nat) (f : Nat → Int) (j : Nat) (v : Int) (hj : j < 66) (ho : o + 66 ≤ C.size) : (enW C o f).setIfInBounds (o + j) (.int .u64 v) = enW C o (upd f j v) := by
  apply Array.ext_getElem?
  intro k
  rw [Array.getElem?_setIfInBounds]
  by_cases c : o + j = k
  · subst c
    rw [if_pos rfl, enW_size, if_pos (by omega), enW_get _ _ _ _ hj ho]
    simp [upd]
  · rw [if_neg c]
    by_cases c2 : k < o ∨ o + 66 ≤ k
    · rw [enW_out _ _ _ _ c2, enW_out _ _ _ _ c2]
    · obtain ⟨d, rfl⟩ : ∃ d, k = o + d := ⟨k - o, by omega⟩
      rw [enW_get _ _ _ _ (by omega) ho, enW_get _ _ _ _ (by omega) ho]
      have : ¬ d = j := by omega
      simp [upd, this]
theorem enW_congr (C : Array Value) (o : Nat) (f g : Nat → Int) (h : ∀ j, j < 66 → f j = g j) (ho : o + 66 ≤ C.size) : enW C o f = enW C o g := by
  apply Array.ext_getElem?
  intro k
  by_cases c2 : k < o ∨ o + 66 ≤ k
  · rw [enW_out _ _ _ _ c2, enW_out _ _ _ _ c2]
  · obtain ⟨d, rfl⟩ : ∃ d, k = o + d := ⟨k - o, by omega⟩
    rw [enW_get _ _ _ _ (by omega) ho, enW_get _ _ _ _ (by omega) ho, h d (by omega)]

/-- nothing but one block is changed -/
structure Only (g : Nat) (w w' : World) : Prop where
  os : w'.os = w.os
  tape : w'.tape = w.tape
  output : w'.output = w.output
  size : w'.heap.size = w.heap.size
  block : ∀ k, k ≠ g → w'.heap[k]? = w.heap[k]?
theorem Only.refl (g : Nat) (w : World) : Only g w w := ⟨rfl, rfl, rfl, rfl, fun _ _ => rfl⟩
theorem only_set (g i : Nat) (v : Value) (w : World) : Only g w (w.setCell ⟨g, i, none⟩ v) :=
  ⟨rfl, rfl, rfl, by simp, fun k hk => RowKit.Below.heap_setCell w ⟨g, i, none⟩ v k hk⟩
theorem Only.trans {g : Nat} {a b c : World} (h : Only g a b) (k : Only g b c) : Only g a c :=
  ⟨k.os.trans h.os, k.tape.trans h.tape, k.output.trans h.output, k.size.trans h.size, fun j hj => (k.block j hj).trans (h.block j hj)⟩
theorem Only.drew {g : Nat} {a b : World} (h : Only g a b) : Only g a b.drew := ⟨h.os, h.tape, h.output, h.size, h.block⟩
theorem row_cell (g o j : Nat) (C : Array Value) (f : Nat → Int) (T : TypeId) (w : World) (h : w.heap[g]? = some (.cells (enW C o f) T)) (hj : j < 66) (ho : o + 66 ≤ C.size) : w.cell? ⟨g, o + j, none⟩ = some (.int .u64 (f j)) := by
  rw [cell_of_row _ _ _ _ _ _ h, enW_get _ _ _ _ hj ho]
theorem row_frozen (g i : Nat) (c : Array Value) (T : TypeId) (w : World) (h : w.heap[g]? = some (.cells c T)) : w.frozen? ⟨g, i, none⟩ = false := frozen_of_row _ _ _ _ _ h
theorem row_set (g o j : Nat) (C : Array Value) (f : Nat → Int) (T : TypeId) (v : Int) (w : World) (h : w.heap[g]? = some (.cells (enW C o f) T)) (hj : j < 66) (ho : o + 66 ≤ C.size) :
    (w.setCell ⟨g, o + j, none⟩ (.int .u64 v)).heap[g]? = some (.cells (enW C o (upd f j v)) T) := by
  rw [heap_setCell_same _ _ _ _ _ _ h, enW_set _ _ _ _ _ hj ho]
theorem row_lt {g : Nat} {w : World} {o : Obj} (h : w.heap[g]? = some o) : g < w.heap.size := (Array.getElem?_eq_some_iff.1 h).1
end Go.Proofs.Ytgbnabpbheebjaa
