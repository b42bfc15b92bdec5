/-
  What lies in memory, and what a call leaves as it was (no program).
-/
import Derived.WalkKit
import Derived.Below
import Derived.Deep.Draws
import Derived.Deep.RegionHeld3
namespace Go.Proofs.Ythcgbjkbnbeobaa
open Go.RowKit
theorem hid {p : Prop} (h : p) : Hid p := h
theorem heap_alloc3_new (w : World) (A B C : Obj) : (((w.alloc A).alloc B).alloc C).heap[w.heap.size + 2]? = some C := by
  have h := heap_alloc_new ((w.alloc A).alloc B) C
  have e : ((w.alloc A).alloc B).heap.size = w.heap.size + 2 := by
    show ((w.heap.push A).push B).size = _
    simp
  rwa [e] at h
theorem bl1 (w : World) (A : Obj) : Below w.heap.size w (w.alloc A) := (Below.refl _ _).alloc (Nat.le_refl _) _
theorem bl2 (w : World) (A B : Obj) : Below w.heap.size w ((w.alloc A).alloc B) := (bl1 w A).alloc (by simp) _
theorem bl3 (w : World) (A B C : Obj) : Below w.heap.size w (((w.alloc A).alloc B).alloc C) := (bl2 w A B).alloc (by simp; omega) _
/-- all blocks of W are in w as they were -/
def Ab (W w : World) : Prop := Below W.heap.size W w
theorem Ab.refl (W : World) : Ab W W := Below.refl _ _
theorem Ab.size {W w : World} (h : Ab W w) : W.heap.size ≤ w.heap.size := Below.size h
theorem Ab.drew {W w : World} (h : Ab W w) : Ab W w.drew := Below.drew h
theorem Ab.alloc {W w : World} (h : Ab W w) (o : Obj) : Ab W (w.alloc o) := Below.alloc h h.size o
theorem Ab.call {W u w : World} (h : Ab W u) (b : Below u.heap.size u w) : Ab W w := h.trans (b.mono h.size)
theorem Ab.set {W w : World} (h : Ab W w) {p : Addr} (hp : W.heap.size ≤ p.block) (u : Value) : Ab W (w.setCell p u) := Below.setCell h hp u
theorem Ab.heap {W w : World} (h : Ab W w) {g : Nat} {o : Obj} (hg : W.heap[g]? = some o) : w.heap[g]? = some o := by
  have hlt : g < W.heap.size := by
    rcases Nat.lt_or_ge g W.heap.size with h1 | h1
    · exact h1
    · rw [Array.getElem?_eq_none h1] at hg; cases hg
  exact (Below.block h g hlt).trans hg
theorem free_row {w : World} {g : Nat} {cs : Array Value} {T : TypeId} (h : w.heap[g]? = some (.cells cs T (0, 0))) (k : Nat) : w.frozen? ⟨g, k, none⟩ = false := by
  simp [World.frozen?, h]
theorem heap_at (w : World) (o : Obj) (k : Nat) (h : k = w.heap.size) : (w.alloc o).heap[k]? = some o := by
  rw [h]; exact heap_alloc_new w o
theorem heap_drew (w : World) (k : Nat) : w.drew.heap[k]? = w.heap[k]? := rfl
theorem Ab.trans {a b c : World} (h : Ab a b) (k : Ab b c) : Ab a c := h.call k
theorem Ab.setRow {W w : World} (h : Ab W w) {g : Nat} (hg : W.heap.size ≤ g) (cs : Array Value) : Ab W (w.setRow g cs) :=
  ⟨h.os, h.tape, h.output, by simpa using Below.size h, fun k hk => by rw [setRow_other _ _ _ _ (by omega)]; exact Below.block h k hk⟩
/-- as Ab, but for block g, which is a row of n cells of type T -/
def Abx (W : World) (g n : Nat) (T : TypeId) (w : World) : Prop :=
  (w.os = W.os ∧ w.tape = W.tape ∧ w.output = W.output ∧ W.heap.size ≤ w.heap.size ∧ ∀ k, k < W.heap.size → k ≠ g → w.heap[k]? = W.heap[k]?) ∧ ∃ cs : Array Value, cs.size = n ∧ w.heap[g]? = some (.cells cs T)
/-- what lies in a cell -/
def rv (w : World) (g k : Nat) : Value := (w.cell? ⟨g, k, none⟩).getD (.bool false)
theorem Ab.x {W w : World} (h : Ab W w) {g n : Nat} {T : TypeId} {cs : Array Value} (hn : cs.size = n) (hg : W.heap[g]? = some (.cells cs T)) : Abx W g n T w :=
  ⟨⟨Below.os h, Below.tape h, Below.output h, Below.size h, fun k hk _ => Below.block h k hk⟩, cs, hn, h.heap hg⟩
theorem Abx.drew {W w : World} {g n : Nat} {T : TypeId} (h : Abx W g n T w) : Abx W g n T w.drew := h
theorem Abx.alloc {W w : World} {g n : Nat} {T : TypeId} (h : Abx W g n T w) (o : Obj) : Abx W g n T (w.alloc o) := by
  obtain ⟨⟨h1, h2, h3, h4, h5⟩, cs, h6, h7⟩ := h
  refine ⟨⟨h1, h2, h3, by simp; omega, fun k hk hne => (Below.heap_alloc _ _ _ (by omega)).trans (h5 k hk hne)⟩, cs, h6, (Below.heap_alloc _ _ _ (lt_of_block h7)).trans h7⟩
theorem Abx.call {W u w : World} {g n : Nat} {T : TypeId} (h : Abx W g n T u) (b : Below u.heap.size u w) : Abx W g n T w := by
  obtain ⟨⟨h1, h2, h3, h4, h5⟩, cs, h6, h7⟩ := h
  exact ⟨⟨b.os.trans h1, b.tape.trans h2, b.output.trans h3, Nat.le_trans h4 b.size, fun k hk hne => (b.block k (by omega)).trans (h5 k hk hne)⟩, cs, h6, (b.block g (lt_of_block h7)).trans h7⟩
theorem one_set {w : World} {g k : Nat} {cs : Array Value} {v : Value} {T : TypeId} (h : w.heap[g]? = some (.cells cs T)) : (w.setCell ⟨g, k, none⟩ v).heap[g]? = some (.cells (cs.setIfInBounds k v) T) := by
  show (w.heap.modify g _)[g]? = _
  rw [Array.getElem?_modify, if_pos rfl, h]
  rfl
theorem Abx.set {W w : World} {g n : Nat} {T : TypeId} (h : Abx W g n T w) (k : Nat) (v : Value) : Abx W g n T (w.setCell ⟨g, k, none⟩ v) := by
  obtain ⟨⟨h1, h2, h3, h4, h5⟩, cs, h6, h7⟩ := h
  refine ⟨⟨h1, h2, h3, by simpa [World.setCell] using h4, fun i hi hne => (Below.heap_setCell _ _ _ _ hne).trans (h5 i hi hne)⟩, cs.setIfInBounds k v, by simpa using h6, one_set h7⟩
theorem Abx.heap {W w : World} {g n : Nat} {T : TypeId} (h : Abx W g n T w) {k : Nat} {o : Obj} (hne : k ≠ g) (hk : W.heap[k]? = some o) : w.heap[k]? = some o := by
  have hlt : k < W.heap.size := by
    rcases Nat.lt_or_ge k W.heap.size with h1 | h1
    · exact h1
    · rw [Array.getElem?_eq_none h1] at hk; cases hk
  exact (h.1.2.2.2.2 k hlt hne).trans hk
theorem Abx.free {W w : World} {g n : Nat} {T : TypeId} (h : Abx W g n T w) (k : Nat) : w.frozen? ⟨g, k, none⟩ = false := by
  obtain ⟨_, cs, _, h7⟩ := h
  exact free_row h7 k
theorem Abx.some {W w : World} {g n : Nat} {T : TypeId} (h : Abx W g n T w) {k : Nat} (hk : k < n) : w.cell? ⟨g, k, none⟩ = some (rv w g k) := by
  obtain ⟨_, cs, h6, h7⟩ := h
  have e := cell_of_row w g k cs T (0, 0) h7
  rw [Array.getElem?_eq_getElem (by omega)] at e
  unfold rv
  rw [e]
  rfl
theorem Abx.ab {w0 W w : World} {g n : Nat} {T : TypeId} (h : Abx W g n T w) (a : Ab w0 W) (hg : w0.heap.size ≤ g) : Ab w0 w := by
  obtain ⟨⟨h1, h2, h3, h4, h5⟩, _⟩ := h
  exact ⟨h1.trans a.os, h2.trans a.tape, h3.trans a.output, Nat.le_trans (Below.size a) h4, fun k hk => (h5 k (Nat.lt_of_lt_of_le hk (Below.size a)) (by omega)).trans (a.block k hk)⟩
theorem set3 {W w : World} {g : Nat} {x y z : Value} {T : TypeId} (h : Abx W g 3 T w) :
    (((w.setCell ⟨g, 0, none⟩ x).setCell ⟨g, 1, none⟩ y).setCell ⟨g, 2, none⟩ z).heap[g]? = some (.cells #[x, y, z] T) := by
  obtain ⟨_, cs, h6, h⟩ := h
  obtain ⟨a, b, c, rfl⟩ : ∃ a b c, cs = #[a, b, c] := by
    rcases cs with ⟨l⟩
    match l, h6 with
    | [a, b, c], _ => exact ⟨a, b, c, rfl⟩
  have h1 := one_set (v := x) (k := 0) h
  have h2 := one_set (v := y) (k := 1) h1
  have h3 := one_set (v := z) (k := 2) h2
  simpa using h3
theorem Ab.setk {W w : World} (h : Ab W w) {g k : Nat} (hp : W.heap.size ≤ g) (u : Value) : Ab W (w.setCell ⟨g, k, none⟩ u) := Below.setCell h hp u
/-- a point that was laid just ahead of a call -/
theorem Ab.drewN {W w : World} (h : Ab W w) (k : Nat) : Ab W (w.drewN k) := by
  induction k with
  | zero => exact h
  | succ k ih => exact ih.drew
theorem newrow {u w1 : World} {c : Array Value} {T : TypeId} (b : Below (u.alloc (.cells c T)).drew.heap.size (u.alloc (.cells c T)).drew w1) : w1.heap[u.heap.size]? = some (.cells c T) :=
  (b.block _ (by show u.heap.size < (u.alloc _).heap.size; simp)).trans (heap_alloc_new u _)
theorem newrow' {u w1 : World} {c : Array Value} {T : TypeId} (b : Below (u.alloc (.cells c T)).heap.size (u.alloc (.cells c T)) w1) : w1.heap[u.heap.size]? = some (.cells c T) :=
  (b.block _ (by simp)).trans (heap_alloc_new u _)
theorem rowfacts {w : World} {g : Nat} {x y z : Value} {T : TypeId} (r : w.heap[g]? = some (.cells #[x, y, z] T)) : (w.frozen? ⟨g, 0, none⟩ = false ∧ w.frozen? ⟨g, 1, none⟩ = false ∧ w.frozen? ⟨g, 2, none⟩ = false) ∧ w.cell? ⟨g, 0, none⟩ = some x ∧ w.cell? ⟨g, 1, none⟩ = some y ∧ w.cell? ⟨g, 2, none⟩ = some z :=
  ⟨⟨free_row r 0, free_row r 1, free_row r 2⟩, cell_of_row _ _ 0 _ _ _ r, cell_of_row _ _ 1 _ _ _ r, cell_of_row _ _ 2 _ _ _ r⟩
theorem row3 {w : World} {g : Nat} {a b c x y z : Value} {T : TypeId} (h : w.heap[g]? = some (.cells #[a, b, c] T)) :
    (((w.setCell ⟨g, 0, none⟩ x).setCell ⟨g, 1, none⟩ y).setCell ⟨g, 2, none⟩ z).heap[g]? = some (.cells #[x, y, z] T) := by
  have h1 := one_set (v := x) (k := 0) h
  have h2 := one_set (v := y) (k := 1) h1
  have h3 := one_set (v := z) (k := 2) h2
  simpa using h3
end Go.Proofs.Ythcgbjkbnbeobaa
