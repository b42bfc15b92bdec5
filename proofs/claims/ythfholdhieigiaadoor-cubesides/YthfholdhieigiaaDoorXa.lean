/-
  Points of the reference cube: contracts.
-/
import Derived.Test.YthfholdhieigiaaDoorKj
namespace Go.Proofs.YthfholdhieigiaaDoor
open Go.RowKit Cu
set_option maxHeartbeats 1000000 in
theorem rplus_ex (p : P3) (k : Int) (q : P3) (w : World) (hp : Sm p) (hr : Sm (sc k q)) :
    Calls Tryd.prog 22 #[.agg #[.int .i64 p.1, .int .i64 p.2.1, .int .i64 p.2.2], .int .i64 k, .agg #[.int .i64 q.1, .int .i64 q.2.1, .int .i64 q.2.2]] w fun e w' => e = .returned (.agg #[.int .i64 (pl p (sc k q)).1, .int .i64 (pl p (sc k q)).2.1, .int .i64 (pl p (sc k q)).2.2]) ∧ w' = ((w.alloc (.cells #[.int .i64 p.1, .int .i64 p.2.1, .int .i64 p.2.2] 49)).alloc (.cells #[.int .i64 q.1, .int .i64 q.2.1, .int .i64 q.2.2] 49)).alloc (.cells #[.int .i64 (pl p (sc k q)).1, .int .i64 (pl p (sc k q)).2.1, .int .i64 (pl p (sc k q)).2.2] 49) := by
  obtain ⟨x, y, z⟩ := p
  obtain ⟨a, b, c⟩ := q
  obtain ⟨hx, hy, hz⟩ := hp
  obtain ⟨ha, hb, hc⟩ := hr
  simp only [pl, sc] at *
  go_enter Tryd.func22, Tryd.ntmps22
  go_wp2
  refine bodyPost_ret ?_ rfl ⟨rfl, rfl⟩
  exact results_cell_row Tryd.results22 _ _ (w.heap.size + 2) _ _ (0, 0) _ rfl (heap_alloc3_new _ _ _ _) Tryd.underlying49 rfl (by kernel_rfl)
theorem rplus_at (p : P3) (k : Int) (q : P3) (w : World) (hp : Sm p) (hr : Sm (sc k q)) :
    Calls Tryd.prog 22 #[.agg #[.int .i64 p.1, .int .i64 p.2.1, .int .i64 p.2.2], .int .i64 k, .agg #[.int .i64 q.1, .int .i64 q.2.1, .int .i64 q.2.2]] w fun e w' => e = .returned (.agg #[.int .i64 (pl p (sc k q)).1, .int .i64 (pl p (sc k q)).2.1, .int .i64 (pl p (sc k q)).2.2]) ∧ Below w.heap.size w w' :=
  (rplus_ex p k q w hp hr).mono fun _ _ ⟨he, hw⟩ => ⟨he, hw ▸ bl3 _ _ _ _⟩
set_option maxHeartbeats 1000000 in
theorem rdot_at (p q : P3) (w : World) (hp : Sm p) (hq : Un q) :
    Calls Tryd.prog 26 #[.agg #[.int .i64 p.1, .int .i64 p.2.1, .int .i64 p.2.2], .agg #[.int .i64 q.1, .int .i64 q.2.1, .int .i64 q.2.2]] w fun e w' => e = .returned (.int .i64 (dt p q)) ∧ Below w.heap.size w w' := by
  obtain ⟨x, y, z⟩ := p
  obtain ⟨a, b, c⟩ := q
  have hx := (mul_un hq.1 10000 hp.1).1
  have hy := (mul_un hq.2.1 10000 hp.2.1).1
  have hz := (mul_un hq.2.2 10000 hp.2.2).1
  clear hp hq
  simp only [dt] at *
  go_enter Tryd.func26, Tryd.ntmps26
  go_wp2
  go_ret
  exact ⟨rfl, bl2 _ _ _⟩
set_option maxHeartbeats 1000000 in
theorem rcross_at (p q : P3) (w : World) (hp : Un p) (hq : Un q) :
    Calls Tryd.prog 39 #[.agg #[.int .i64 p.1, .int .i64 p.2.1, .int .i64 p.2.2], .agg #[.int .i64 q.1, .int .i64 q.2.1, .int .i64 q.2.2]] w fun e w' => e = .returned (.agg #[.int .i64 (cx p q).1, .int .i64 (cx p q).2.1, .int .i64 (cx p q).2.2]) ∧ Below w.heap.size w w' := by
  obtain ⟨x, y, z⟩ := p
  obtain ⟨a, b, c⟩ := q
  have h1 := (mul_un hq.2.2 1 hp.2.1).1
  have h2 := (mul_un hq.2.1 1 hp.2.2).1
  have h3 := (mul_un hq.1 1 hp.2.2).1
  have h4 := (mul_un hq.2.2 1 hp.1).1
  have h5 := (mul_un hq.2.1 1 hp.1).1
  have h6 := (mul_un hq.1 1 hp.2.1).1
  clear hp hq
  simp only [cx] at *
  go_enter Tryd.func39, Tryd.ntmps39
  go_wp2
  refine bodyPost_ret ?_ rfl ⟨rfl, bl3 _ _ _ _⟩
  exact results_cell_row Tryd.results39 _ _ (w.heap.size + 2) _ _ (0, 0) _ rfl (heap_alloc3_new _ _ _ _) Tryd.underlying49 rfl (by kernel_rfl)
theorem results_cell3 {P : Program} {fn : Func} {p q r : Tmp} {ty : TypeId} (h : fn.results = #[.cell p ty, .cell q ty, .cell r ty]) (tmps : Array Value) (w : World) (g0 g1 g2 : Nat) (t : TypeId) (c0 c1 c2 : Array Value) (d : TypeDesc)
    (hp : tmps.getD p undef = .pointer (some ⟨g0, 0, none⟩)) (hq : tmps.getD q undef = .pointer (some ⟨g1, 0, none⟩)) (hr : tmps.getD r undef = .pointer (some ⟨g2, 0, none⟩))
    (h0 : w.heap[g0]? = some (.cells c0 t)) (h1 : w.heap[g1]? = some (.cells c1 t)) (h2 : w.heap[g2]? = some (.cells c2 t))
    (hu : P.underlying ty = some d) (hd : (match d with | .struct _ | .array _ _ => true | _ => false) = true) (i0 : (P.info? ty).map (·.size) = some c0.size) (i1 : (P.info? ty).map (·.size) = some c1.size) (i2 : (P.info? ty).map (·.size) = some c2.size) :
    (results fn tmps).run P w = .ok (.tuple #[.agg c0, .agg c1, .agg c2]) w := by
  have hp' : tmps[p]?.getD undef = .pointer (some ⟨g0, 0, none⟩) := by simpa using hp
  have hq' : tmps[q]?.getD undef = .pointer (some ⟨g1, 0, none⟩) := by simpa using hq
  have hr' : tmps[r]?.getD undef = .pointer (some ⟨g2, 0, none⟩) := by simpa using hr
  simp [results, h, hp', hq', hr', asAddr, run_loadVar_row w g0 t ty c0 (0, 0) d h0 hu hd i0, run_loadVar_row w g1 t ty c1 (0, 0) d h1 hu hd i1, run_loadVar_row w g2 t ty c2 (0, 0) d h2 hu hd i2]
/-- as Ab, but for the three blocks from g on, which are points -/
def A3 (W : World) (g : Nat) (w : World) : Prop :=
  (w.os = W.os ∧ w.tape = W.tape ∧ w.output = W.output ∧ W.heap.size ≤ w.heap.size ∧ ∀ k, k < W.heap.size → (k < g ∨ g + 3 ≤ k) → w.heap[k]? = W.heap[k]?) ∧
  ∀ j, j < 3 → ∃ a b c : Value, w.heap[g + j]? = some (.cells #[a, b, c] 49)
theorem Ab.a3 {W w : World} (h : Ab W w) {g : Nat} (hg : ∀ j, j < 3 → ∃ a b c : Value, W.heap[g + j]? = some (.cells #[a, b, c] 49)) : A3 W g w :=
  ⟨⟨Below.os h, Below.tape h, Below.output h, Below.size h, fun k hk _ => Below.block h k hk⟩, fun j hj => by obtain ⟨a, b, c, e⟩ := hg j hj; exact ⟨a, b, c, h.heap e⟩⟩
theorem A3.drew {W w : World} {g : Nat} (a : A3 W g w) : A3 W g w.drew := a
theorem A3.call {W u w : World} {g : Nat} (a : A3 W g u) (b : Below u.heap.size u w) : A3 W g w := by
  obtain ⟨⟨h1, h2, h3, h4, h5⟩, h6⟩ := a
  refine ⟨⟨b.os.trans h1, b.tape.trans h2, b.output.trans h3, Nat.le_trans h4 b.size, fun k hk hne => (b.block k (by omega)).trans (h5 k hk hne)⟩, fun j hj => ?_⟩
  obtain ⟨x, y, z, e⟩ := h6 j hj
  exact ⟨x, y, z, (b.block _ (lt_of_block e)).trans e⟩
theorem A3.set {W w : World} {g : Nat} (a : A3 W g w) (i : Nat) (hi : i < 3) (k : Nat) (v : Value) : A3 W g (w.setCell ⟨g + i, k, none⟩ v) := by
  obtain ⟨⟨h1, h2, h3, h4, h5⟩, h6⟩ := a
  refine ⟨⟨h1, h2, h3, by simpa [World.setCell] using h4, fun l hl hne => (Below.heap_setCell _ _ _ _ (by show l ≠ g + i; omega)).trans (h5 l hl hne)⟩, fun j hj => ?_⟩
  obtain ⟨x, y, z, e⟩ := h6 j hj
  by_cases hji : j = i
  · subst hji
    obtain ⟨p, q, r, e2⟩ := set_k (a := x) (b := y) (c := z) (v := v) k
    have o := one_set (k := k) (v := v) e
    rw [e2] at o
    exact ⟨p, q, r, o⟩
  · exact ⟨x, y, z, (Below.heap_setCell _ _ _ _ (by show g + j ≠ g + i; omega)).trans e⟩
theorem A3.heap {W w : World} {g k : Nat} {o : Obj} (a : A3 W g w) (n1 : k < g ∨ g + 3 ≤ k) (hk : W.heap[k]? = some o) : w.heap[k]? = some o := by
  have hlt : k < W.heap.size := by
    rcases Nat.lt_or_ge k W.heap.size with h1 | h1
    · exact h1
    · rw [Array.getElem?_eq_none h1] at hk; cases hk
  exact (a.1.2.2.2.2 k hlt n1).trans hk
theorem A3.ab {w0 W w : World} {g : Nat} (a : A3 W g w) (b : Ab w0 W) (hg : w0.heap.size ≤ g) : Ab w0 w := by
  obtain ⟨⟨h1, h2, h3, h4, h5⟩, _⟩ := a
  exact ⟨h1.trans b.os, h2.trans b.tape, h3.trans b.output, Nat.le_trans (Below.size b) h4, fun k hk => (h5 k (Nat.lt_of_lt_of_le hk (Below.size b)) (by omega)).trans (b.block k hk)⟩
theorem A3.facts {W w : World} {g : Nat} (a : A3 W g w) (j : Nat) (hj : j < 3) : (w.frozen? ⟨g + j, 0, none⟩ = false ∧ w.frozen? ⟨g + j, 1, none⟩ = false ∧ w.frozen? ⟨g + j, 2, none⟩ = false) ∧ w.cell? ⟨g + j, 0, none⟩ = some (rv w (g + j) 0) ∧ w.cell? ⟨g + j, 1, none⟩ = some (rv w (g + j) 1) ∧ w.cell? ⟨g + j, 2, none⟩ = some (rv w (g + j) 2) := by
  obtain ⟨x, y, z, hg⟩ := a.2 j hj
  have e : ∀ k, w.cell? ⟨g + j, k, none⟩ = #[x, y, z][k]? := fun k => cell_of_row _ _ k _ _ _ hg
  refine ⟨⟨free_row hg 0, free_row hg 1, free_row hg 2⟩, ?_, ?_, ?_⟩ <;> simp [rv, e]
end Go.Proofs.YthfholdhieigiaaDoor
