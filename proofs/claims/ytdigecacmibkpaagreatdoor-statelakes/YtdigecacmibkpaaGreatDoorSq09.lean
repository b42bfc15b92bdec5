/-
  Some of the texts of this proof, one behind the other.
-/
import Derived.Test.YtdigecacmibkpaaGreatDoorSq08
set_option maxRecDepth 100000
set_option maxHeartbeats 400000000
namespace Go.Proofs.YtdigecacmibkpaaGreatDoor
open Go.RowKit Cu
theorem rplus_ex (p : P3) (k : Int) (q : P3) (w : World) (hp : Sm p) (hr : Sm (sc k q)) :
    Calls Tryz.prog 129 #[.agg #[.int .i64 p.1, .int .i64 p.2.1, .int .i64 p.2.2], .int .i64 k, .agg #[.int .i64 q.1, .int .i64 q.2.1, .int .i64 q.2.2]] w fun e w' => e = .returned (.agg #[.int .i64 (pl p (sc k q)).1, .int .i64 (pl p (sc k q)).2.1, .int .i64 (pl p (sc k q)).2.2]) /\ w' = ((w.alloc (.cells #[.int .i64 p.1, .int .i64 p.2.1, .int .i64 p.2.2] 123)).alloc (.cells #[.int .i64 q.1, .int .i64 q.2.1, .int .i64 q.2.2] 123)).alloc (.cells #[.int .i64 (pl p (sc k q)).1, .int .i64 (pl p (sc k q)).2.1, .int .i64 (pl p (sc k q)).2.2] 123) := by
  obtain ⟨x, y, z⟩ := p
  obtain ⟨a, b, c⟩ := q
  obtain ⟨hx, hy, hz⟩ := hp
  obtain ⟨ha, hb, hc⟩ := hr
  simp only [pl, sc] at *
  go_enter Tryz.func129, Tryz.ntmps129
  go_wp2
  refine bodyPost_ret ?_ rfl ⟨rfl, rfl⟩
  exact results_cell_row Tryz.results129 _ _ (w.heap.size + 2) _ _ (0, 0) _ rfl (heap_alloc3_new _ _ _ _) Tryz.underlying123 rfl (by kernel_rfl)
theorem rplus_at (p : P3) (k : Int) (q : P3) (w : World) (hp : Sm p) (hr : Sm (sc k q)) :
    Calls Tryz.prog 129 #[.agg #[.int .i64 p.1, .int .i64 p.2.1, .int .i64 p.2.2], .int .i64 k, .agg #[.int .i64 q.1, .int .i64 q.2.1, .int .i64 q.2.2]] w fun e w' => e = .returned (.agg #[.int .i64 (pl p (sc k q)).1, .int .i64 (pl p (sc k q)).2.1, .int .i64 (pl p (sc k q)).2.2]) /\ Below w.heap.size w w' :=
  (rplus_ex p k q w hp hr).mono fun _ _ ⟨he, hw⟩ => ⟨he, hw ▸ bl3 _ _ _ _⟩
theorem rdot_at (p q : P3) (w : World) (hp : Sm p) (hq : Un q) :
    Calls Tryz.prog 101 #[.agg #[.int .i64 p.1, .int .i64 p.2.1, .int .i64 p.2.2], .agg #[.int .i64 q.1, .int .i64 q.2.1, .int .i64 q.2.2]] w fun e w' => e = .returned (.int .i64 (dt p q)) /\ Below w.heap.size w w' := by
  obtain ⟨x, y, z⟩ := p
  obtain ⟨a, b, c⟩ := q
  have hx := (mul_un hq.1 10000 hp.1).1
  have hy := (mul_un hq.2.1 10000 hp.2.1).1
  have hz := (mul_un hq.2.2 10000 hp.2.2).1
  clear hp hq
  simp only [dt] at *
  go_enter Tryz.func101, Tryz.ntmps101
  go_wp2
  go_ret
  exact ⟨rfl, bl2 _ _ _⟩
theorem results_cell3 {P : Program} {fn : Func} {p q r : Tmp} {ty : TypeId} (h : fn.results = #[.cell p ty, .cell q ty, .cell r ty]) (tmps : Array Value) (w : World) (g0 g1 g2 : Nat) (t : TypeId) (c0 c1 c2 : Array Value) (d : TypeDesc)
    (hp : tmps.getD p undef = .pointer (some ⟨g0, 0, none⟩)) (hq : tmps.getD q undef = .pointer (some ⟨g1, 0, none⟩)) (hr : tmps.getD r undef = .pointer (some ⟨g2, 0, none⟩))
    (h0 : w.heap[g0]? = some (.cells c0 t)) (h1 : w.heap[g1]? = some (.cells c1 t)) (h2 : w.heap[g2]? = some (.cells c2 t))
    (hu : P.underlying ty = some d) (hd : (match d with | .struct _ | .array _ _ => true | _ => false) = true) (i0 : (P.info? ty).map (·.size) = some c0.size) (i1 : (P.info? ty).map (·.size) = some c1.size) (i2 : (P.info? ty).map (·.size) = some c2.size) :
    (results fn tmps).run P w = .ok (.tuple #[.agg c0, .agg c1, .agg c2]) w := by
  have hp' : tmps[p]?.getD undef = .pointer (some ⟨g0, 0, none⟩) := by simpa using hp
  have hq' : tmps[q]?.getD undef = .pointer (some ⟨g1, 0, none⟩) := by simpa using hq
  have hr' : tmps[r]?.getD undef = .pointer (some ⟨g2, 0, none⟩) := by simpa using hr
  simp [results, h, hp', hq', hr', asAddr, run_loadVar_row w g0 t ty c0 (0, 0) d h0 hu hd i0, run_loadVar_row w g1 t ty c1 (0, 0) d h1 hu hd i1, run_loadVar_row w g2 t ty c2 (0, 0) d h2 hu hd i2]
def A3 (W : World) (g : Nat) (w : World) : Prop :=
  (w.os = W.os /\ w.tape = W.tape /\ w.output = W.output /\ W.heap.size <= w.heap.size /\ ∀ k, k < W.heap.size -> (k < g \/ g + 3 <= k) -> w.heap[k]? = W.heap[k]?) ∧
  ∀ j, j < 3 -> ∃ a b c : Value, w.heap[g + j]? = some (.cells #[a, b, c] 123)
theorem Ab.a3 {W w : World} (h : Ab W w) {g : Nat} (hg : ∀ j, j < 3 -> ∃ a b c : Value, W.heap[g + j]? = some (.cells #[a, b, c] 123)) : A3 W g w :=
  ⟨⟨Below.os h, Below.tape h, Below.output h, Below.size h, fun k hk _ => Below.block h k hk⟩, fun j hj => by obtain ⟨a, b, c, e⟩ := hg j hj; exact ⟨a, b, c, h.heap e⟩⟩
theorem A3.drew {W w : World} {g : Nat} (a : A3 W g w) : A3 W g w.drew := a
theorem A3.call {W u w : World} {g : Nat} (a : A3 W g u) (b : Below u.heap.size u w) : A3 W g w := by
  obtain ⟨⟨h1, h2, h3, h4, h5⟩, h6⟩ := a
  refine ⟨⟨b.os.trans h1, b.tape.trans h2, b.output.trans h3, Nat.le_trans h4 b.size, fun k hk hne => (b.block k (by omega)).trans (h5 k hk hne)⟩, fun j hj => ?_⟩
  obtain ⟨x, y, z, e⟩ := h6 j hj
  exact ⟨x, y, z, (b.block _ (lt_of_block e)).trans e⟩
theorem A3.set {W w : World} {g : Nat} (a : A3 W g w) (i : Nat) (hi : i < 3) (k : Nat) (v : Value) : A3 W g (w.setCell ⟨g + i, k, none⟩ v) := by
  obtain ⟨⟨h1, h2, h3, h4, h5⟩, h6⟩ := a
  refine ⟨⟨h1, h2, h3, by simpa [World.setCell] using h4, fun l hl hne => (Below.heap_setCell _ _ _ _ (by show l ≠ g + i; omega)).trans (h5 l hl hne)⟩, fun j hj => ?_⟩
  obtain ⟨x, y, z, e⟩ := h6 j hj
  by_cases hji : j = i
  · subst hji
    obtain ⟨p, q, r, e2⟩ := set_k (a := x) (b := y) (c := z) (v := v) k
    have o := one_set (k := k) (v := v) e
    rw [e2] at o
    exact ⟨p, q, r, o⟩
  · exact ⟨x, y, z, (Below.heap_setCell _ _ _ _ (by show g + j ≠ g + i; omega)).trans e⟩
theorem A3.heap {W w : World} {g k : Nat} {o : Obj} (a : A3 W g w) (n1 : k < g \/ g + 3 <= k) (hk : W.heap[k]? = some o) : w.heap[k]? = some o := by
  have hlt : k < W.heap.size := by
    rcases Nat.lt_or_ge k W.heap.size with h1 | h1
    · exact h1
    · rw [Array.getElem?_eq_none h1] at hk; cases hk
  exact (a.1.2.2.2.2 k hlt n1).trans hk
theorem A3.ab {w0 W w : World} {g : Nat} (a : A3 W g w) (b : Ab w0 W) (hg : w0.heap.size <= g) : Ab w0 w := by
  obtain ⟨⟨h1, h2, h3, h4, h5⟩, _⟩ := a
  exact ⟨h1.trans b.os, h2.trans b.tape, h3.trans b.output, Nat.le_trans (Below.size b) h4, fun k hk => (h5 k (Nat.lt_of_lt_of_le hk (Below.size b)) (by omega)).trans (b.block k hk)⟩
theorem A3.facts {W w : World} {g : Nat} (a : A3 W g w) (j : Nat) (hj : j < 3) : (w.frozen? ⟨g + j, 0, none⟩ = false /\ w.frozen? ⟨g + j, 1, none⟩ = false /\ w.frozen? ⟨g + j, 2, none⟩ = false) /\ w.cell? ⟨g + j, 0, none⟩ = some (rv w (g + j) 0) /\ w.cell? ⟨g + j, 1, none⟩ = some (rv w (g + j) 1) /\ w.cell? ⟨g + j, 2, none⟩ = some (rv w (g + j) 2) := by
  obtain ⟨x, y, z, hg⟩ := a.2 j hj
  have e : ∀ k, w.cell? ⟨g + j, k, none⟩ = #[x, y, z][k]? := fun k => cell_of_row _ _ k _ _ _ hg
  refine ⟨⟨free_row hg 0, free_row hg 1, free_row hg 2⟩, ?_, ?_, ?_⟩ <;> simp [rv, e]
end Go.Proofs.YtdigecacmibkpaaGreatDoor

namespace Go.Proofs.YtdigecacmibkpaaGreatDoor
open Go.RowKit Cu
theorem A3.set0 {W w : World} {g : Nat} (a : A3 W g w) (k : Nat) (v : Value) : A3 W g (w.setCell ⟨g, k, none⟩ v) := a.set 0 (by omega) k v
theorem A3.set1 {W w : World} {g : Nat} (a : A3 W g w) (k : Nat) (v : Value) : A3 W g (w.setCell ⟨g + 1, k, none⟩ v) := a.set 1 (by omega) k v
theorem A3.set2 {W w : World} {g : Nat} (a : A3 W g w) (k : Nat) (v : Value) : A3 W g (w.setCell ⟨g + 1 + 1, k, none⟩ v) := a.set 2 (by omega) k v
theorem rows3 {W w : World} {g : Nat} {x0 x1 x2 y0 y1 y2 z0 z1 z2 : Value} (a : A3 W g w) :
    let v := ((((((((w.setCell ⟨g, 0, none⟩ x0).setCell ⟨g, 1, none⟩ x1).setCell ⟨g, 2, none⟩ x2).setCell ⟨g + 1, 0, none⟩ y0).setCell ⟨g + 1, 1, none⟩ y1).setCell ⟨g + 1, 2, none⟩ y2).setCell ⟨g + 1 + 1, 0, none⟩ z0).setCell ⟨g + 1 + 1, 1, none⟩ z1).setCell ⟨g + 1 + 1, 2, none⟩ z2
    v.heap[g]? = some (.cells #[x0, x1, x2] 123) /\ v.heap[g + 1]? = some (.cells #[y0, y1, y2] 123) /\ v.heap[g + 1 + 1]? = some (.cells #[z0, z1, z2] 123) /\ A3 W g v := by
  obtain ⟨a0, b0, c0, h0⟩ := a.2 0 (by omega)
  obtain ⟨a1, b1, c1, h1⟩ := a.2 1 (by omega)
  obtain ⟨a2, b2, c2, h2⟩ := a.2 2 (by omega)
  have n01 : g ≠ g + 1 := by omega
  have n02 : g ≠ g + 1 + 1 := by omega
  have n10 : g + 1 ≠ g := by omega
  have n12 : g + 1 ≠ g + 1 + 1 := by omega
  have n20 : g + 1 + 1 ≠ g := by omega
  have n21 : g + 1 + 1 ≠ g + 1 := by omega
  refine ⟨?_, ?_, ?_, ((((((((a.set0 _ _).set0 _ _).set0 _ _).set1 _ _).set1 _ _).set1 _ _).set2 _ _).set2 _ _).set2 _ _⟩
  · exact (Below.heap_setCell _ _ _ _ n02).trans ((Below.heap_setCell _ _ _ _ n02).trans ((Below.heap_setCell _ _ _ _ n02).trans ((Below.heap_setCell _ _ _ _ n01).trans ((Below.heap_setCell _ _ _ _ n01).trans ((Below.heap_setCell _ _ _ _ n01).trans (row3 h0))))))
  · exact (Below.heap_setCell _ _ _ _ n12).trans ((Below.heap_setCell _ _ _ _ n12).trans ((Below.heap_setCell _ _ _ _ n12).trans (row3 ((Below.heap_setCell _ _ _ _ n10).trans ((Below.heap_setCell _ _ _ _ n10).trans ((Below.heap_setCell _ _ _ _ n10).trans h1))))))
  · exact row3 ((Below.heap_setCell _ _ _ _ n21).trans ((Below.heap_setCell _ _ _ _ n21).trans ((Below.heap_setCell _ _ _ _ n21).trans ((Below.heap_setCell _ _ _ _ n20).trans ((Below.heap_setCell _ _ _ _ n20).trans ((Below.heap_setCell _ _ _ _ n20).trans h2))))))
theorem rframe0 (w : World) : Calls Tryz.prog 100 #[.int .i64 0] w fun e w' => e = .returned (.tuple #[.agg #[.int .i64 (cC 0).1, .int .i64 (cC 0).2.1, .int .i64 (cC 0).2.2], .agg #[.int .i64 (cR 0).1, .int .i64 (cR 0).2.1, .int .i64 (cR 0).2.2], .agg #[.int .i64 (cU 0).1, .int .i64 (cU 0).2.1, .int .i64 (cU 0).2.2]]) /\ Below w.heap.size w w' := by
  go_enter Tryz.func100, Tryz.ntmps100
  go_upto_region 7 with fail
  go_region
  go_wp2
  refine bodyPost_ret ?_ rfl ⟨rfl, ?_⟩
  · exact results_cell3 Tryz.results100 _ _ w.heap.size (w.heap.size + 1) (w.heap.size + 1 + 1) 123 #[.int .i64 1, .int .i64 0, .int .i64 0] #[.int .i64 0, .int .i64 1, .int .i64 0] #[.int .i64 0, .int .i64 0, .int .i64 1] _ rfl rfl rfl (by rw [heap_drew]; repeat (first | exact heap_at _ _ _ (by first | (simp; done) | (simp; omega)) | rw [Below.heap_alloc _ _ _ (by first | (simp; done) | (simp; omega))])) (by rw [heap_drew]; repeat (first | exact heap_at _ _ _ (by first | (simp; done) | (simp; omega)) | rw [Below.heap_alloc _ _ _ (by first | (simp; done) | (simp; omega))])) (by rw [heap_drew]; repeat (first | exact heap_at _ _ _ (by first | (simp; done) | (simp; omega)) | rw [Below.heap_alloc _ _ _ (by first | (simp; done) | (simp; omega))])) Tryz.underlying123 rfl (by kernel_rfl) (by kernel_rfl) (by kernel_rfl)
  · exact (((((((Ab.refl w).alloc _).alloc _).alloc _).alloc _).alloc _).alloc _).alloc _ |>.drew
theorem rframe1 (w : World) : Calls Tryz.prog 100 #[.int .i64 1] w fun e w' => e = .returned (.tuple #[.agg #[.int .i64 (cC 1).1, .int .i64 (cC 1).2.1, .int .i64 (cC 1).2.2], .agg #[.int .i64 (cR 1).1, .int .i64 (cR 1).2.1, .int .i64 (cR 1).2.2], .agg #[.int .i64 (cU 1).1, .int .i64 (cU 1).2.1, .int .i64 (cU 1).2.2]]) /\ Below w.heap.size w w' := by
  have Tx : Hid (∀ u, Calls Tryz.prog 129 #[.agg #[.int .i64 0, .int .i64 0, .int .i64 0], .int .i64 (-1), .agg #[.int .i64 1, .int .i64 0, .int .i64 0]] u fun e w' => e = .returned (.agg #[.int .i64 (-1), .int .i64 (0), .int .i64 (0)]) /\ Below u.heap.size u w') := fun u => rplus_at (0, 0, 0) (-1) (1, 0, 0) u (by simp [Sm]) (by simp [Sm, sc])
  go_enter Tryz.func100, Tryz.ntmps100
  go_upto_region 9 with fail
  generalize hW : World.alloc _ _ = W
  have AW : Hid (Ab w W) := by
    rw [<- hW]
    exact ((((((((Ab.refl w).alloc _).alloc _).alloc _).alloc _).alloc _).alloc _).alloc _)
  have r0 : W.heap[w.heap.size]? = some (.cells #[.int .i64 0, .int .i64 0, .int .i64 0] 123) := by
    rw [<- hW]
    repeat (first | exact heap_at _ _ _ (by first | (simp; done) | (simp; omega)) | rw [Below.heap_alloc _ _ _ (by first | (simp; done) | (simp; omega))])
  have r1 : W.heap[w.heap.size + 1]? = some (.cells #[.int .i64 0, .int .i64 0, .int .i64 0] 123) := by
    rw [<- hW]
    repeat (first | exact heap_at _ _ _ (by first | (simp; done) | (simp; omega)) | rw [Below.heap_alloc _ _ _ (by first | (simp; done) | (simp; omega))])
  have r2 : W.heap[w.heap.size + 1 + 1]? = some (.cells #[.int .i64 0, .int .i64 0, .int .i64 0] 123) := by
    rw [<- hW]
    repeat (first | exact heap_at _ _ _ (by first | (simp; done) | (simp; omega)) | rw [Below.heap_alloc _ _ _ (by first | (simp; done) | (simp; omega))])
  have r3 : W.heap[w.heap.size + 1 + 1 + 1]? = some (.cells #[.int .i64 1, .int .i64 0, .int .i64 0] 123) := by
    rw [<- hW]
    repeat (first | exact heap_at _ _ _ (by first | (simp; done) | (simp; omega)) | rw [Below.heap_alloc _ _ _ (by first | (simp; done) | (simp; omega))])
  have r4 : W.heap[w.heap.size + 1 + 1 + 1 + 1]? = some (.cells #[.int .i64 0, .int .i64 1, .int .i64 0] 123) := by
    rw [<- hW]
    repeat (first | exact heap_at _ _ _ (by first | (simp; done) | (simp; omega)) | rw [Below.heap_alloc _ _ _ (by first | (simp; done) | (simp; omega))])
  have r5 : W.heap[w.heap.size + 1 + 1 + 1 + 1 + 1]? = some (.cells #[.int .i64 0, .int .i64 0, .int .i64 1] 123) := by
    rw [<- hW]
    repeat (first | exact heap_at _ _ _ (by first | (simp; done) | (simp; omega)) | rw [Below.heap_alloc _ _ _ (by first | (simp; done) | (simp; omega))])
  have r6 : W.heap[w.heap.size + 1 + 1 + 1 + 1 + 1 + 1]? = some (.cells #[.int .i64 0, .int .i64 0, .int .i64 0] 123) := by
    rw [<- hW]
    repeat (first | exact heap_at _ _ _ (by first | (simp; done) | (simp; omega)) | rw [Below.heap_alloc _ _ _ (by first | (simp; done) | (simp; omega))])
  have KS : Hid (∀ w', A3 W w.heap.size w' -> A3 W w.heap.size w' /\ w'.cell? ⟨w.heap.size + 1 + 1 + 1, 0, none⟩ = some (.int .i64 1) /\ w'.cell? ⟨w.heap.size + 1 + 1 + 1, 1, none⟩ = some (.int .i64 0) /\ w'.cell? ⟨w.heap.size + 1 + 1 + 1, 2, none⟩ = some (.int .i64 0) /\ w'.cell? ⟨w.heap.size + 1 + 1 + 1 + 1, 0, none⟩ = some (.int .i64 0) /\ w'.cell? ⟨w.heap.size + 1 + 1 + 1 + 1, 1, none⟩ = some (.int .i64 1) /\ w'.cell? ⟨w.heap.size + 1 + 1 + 1 + 1, 2, none⟩ = some (.int .i64 0) /\ w'.cell? ⟨w.heap.size + 1 + 1 + 1 + 1 + 1, 0, none⟩ = some (.int .i64 0) /\ w'.cell? ⟨w.heap.size + 1 + 1 + 1 + 1 + 1, 1, none⟩ = some (.int .i64 0) /\ w'.cell? ⟨w.heap.size + 1 + 1 + 1 + 1 + 1, 2, none⟩ = some (.int .i64 1) /\ w'.cell? ⟨w.heap.size + 1 + 1 + 1 + 1 + 1 + 1, 0, none⟩ = some (.int .i64 0) /\ w'.cell? ⟨w.heap.size + 1 + 1 + 1 + 1 + 1 + 1, 1, none⟩ = some (.int .i64 0) /\ w'.cell? ⟨w.heap.size + 1 + 1 + 1 + 1 + 1 + 1, 2, none⟩ = some (.int .i64 0) /\ w'.frozen? ⟨w.heap.size, 0, none⟩ = false /\ w'.frozen? ⟨w.heap.size, 1, none⟩ = false /\ w'.frozen? ⟨w.heap.size, 2, none⟩ = false /\ w'.frozen? ⟨w.heap.size + 1, 0, none⟩ = false /\ w'.frozen? ⟨w.heap.size + 1, 1, none⟩ = false /\ w'.frozen? ⟨w.heap.size + 1, 2, none⟩ = false /\ w'.frozen? ⟨w.heap.size + 1 + 1, 0, none⟩ = false /\ w'.frozen? ⟨w.heap.size + 1 + 1, 1, none⟩ = false /\ w'.frozen? ⟨w.heap.size + 1 + 1, 2, none⟩ = false /\ w'.cell? ⟨w.heap.size, 0, none⟩ = some (rv w' (w.heap.size) 0) /\ w'.cell? ⟨w.heap.size, 1, none⟩ = some (rv w' (w.heap.size) 1) /\ w'.cell? ⟨w.heap.size, 2, none⟩ = some (rv w' (w.heap.size) 2) /\ w'.cell? ⟨w.heap.size + 1, 0, none⟩ = some (rv w' (w.heap.size + 1) 0) /\ w'.cell? ⟨w.heap.size + 1, 1, none⟩ = some (rv w' (w.heap.size + 1) 1) /\ w'.cell? ⟨w.heap.size + 1, 2, none⟩ = some (rv w' (w.heap.size + 1) 2) /\ w'.cell? ⟨w.heap.size + 1 + 1, 0, none⟩ = some (rv w' (w.heap.size + 1 + 1) 0) /\ w'.cell? ⟨w.heap.size + 1 + 1, 1, none⟩ = some (rv w' (w.heap.size + 1 + 1) 1) /\ w'.cell? ⟨w.heap.size + 1 + 1, 2, none⟩ = some (rv w' (w.heap.size + 1 + 1) 2)) := by
    intro w' hw
    obtain ⟨-, p0, p1, p2⟩ := rowfacts (hw.heap (by omega) r3)
    obtain ⟨-, p3, p4, p5⟩ := rowfacts (hw.heap (by omega) r4)
    obtain ⟨-, p6, p7, p8⟩ := rowfacts (hw.heap (by omega) r5)
    obtain ⟨-, p9, p10, p11⟩ := rowfacts (hw.heap (by omega) r6)
    obtain ⟨⟨f0, f1, f2⟩, c0, c1, c2⟩ := hw.facts 0 (by omega)
    obtain ⟨⟨f3, f4, f5⟩, c3, c4, c5⟩ := hw.facts 1 (by omega)
    obtain ⟨⟨f6, f7, f8⟩, c6, c7, c8⟩ := hw.facts 2 (by omega)
    exact ⟨hw, p0, p1, p2, p3, p4, p5, p6, p7, p8, p9, p10, p11, f0, f1, f2, f3, f4, f5, f6, f7, f8, c0, c1, c2, c3, c4, c5, c6, c7, c8⟩
  have A0 : A3 W w.heap.size W := (Ab.refl W).a3 (fun j hj => by
    rcases (show j = 0 \/ j = 1 \/ j = 2 by omega) with rfl | rfl | rfl
    · exact ⟨_, _, _, r0⟩
    · exact ⟨_, _, _, r1⟩
    · exact ⟨_, _, _, r2⟩)
  clear r0 r1 r2 r3 r4 r5 r6 hW
  go_region_held3 (fun w' => A3 W w.heap.size w' /\ w'.cell? ⟨w.heap.size + 1 + 1 + 1, 0, none⟩ = some (.int .i64 1) /\ w'.cell? ⟨w.heap.size + 1 + 1 + 1, 1, none⟩ = some (.int .i64 0) /\ w'.cell? ⟨w.heap.size + 1 + 1 + 1, 2, none⟩ = some (.int .i64 0) /\ w'.cell? ⟨w.heap.size + 1 + 1 + 1 + 1, 0, none⟩ = some (.int .i64 0) /\ w'.cell? ⟨w.heap.size + 1 + 1 + 1 + 1, 1, none⟩ = some (.int .i64 1) /\ w'.cell? ⟨w.heap.size + 1 + 1 + 1 + 1, 2, none⟩ = some (.int .i64 0) /\ w'.cell? ⟨w.heap.size + 1 + 1 + 1 + 1 + 1, 0, none⟩ = some (.int .i64 0) /\ w'.cell? ⟨w.heap.size + 1 + 1 + 1 + 1 + 1, 1, none⟩ = some (.int .i64 0) /\ w'.cell? ⟨w.heap.size + 1 + 1 + 1 + 1 + 1, 2, none⟩ = some (.int .i64 1) /\ w'.cell? ⟨w.heap.size + 1 + 1 + 1 + 1 + 1 + 1, 0, none⟩ = some (.int .i64 0) /\ w'.cell? ⟨w.heap.size + 1 + 1 + 1 + 1 + 1 + 1, 1, none⟩ = some (.int .i64 0) /\ w'.cell? ⟨w.heap.size + 1 + 1 + 1 + 1 + 1 + 1, 2, none⟩ = some (.int .i64 0) /\ w'.frozen? ⟨w.heap.size, 0, none⟩ = false /\ w'.frozen? ⟨w.heap.size, 1, none⟩ = false /\ w'.frozen? ⟨w.heap.size, 2, none⟩ = false /\ w'.frozen? ⟨w.heap.size + 1, 0, none⟩ = false /\ w'.frozen? ⟨w.heap.size + 1, 1, none⟩ = false /\ w'.frozen? ⟨w.heap.size + 1, 2, none⟩ = false /\ w'.frozen? ⟨w.heap.size + 1 + 1, 0, none⟩ = false /\ w'.frozen? ⟨w.heap.size + 1 + 1, 1, none⟩ = false /\ w'.frozen? ⟨w.heap.size + 1 + 1, 2, none⟩ = false /\ w'.cell? ⟨w.heap.size, 0, none⟩ = some (rv w' (w.heap.size) 0) /\ w'.cell? ⟨w.heap.size, 1, none⟩ = some (rv w' (w.heap.size) 1) /\ w'.cell? ⟨w.heap.size, 2, none⟩ = some (rv w' (w.heap.size) 2) /\ w'.cell? ⟨w.heap.size + 1, 0, none⟩ = some (rv w' (w.heap.size + 1) 0) /\ w'.cell? ⟨w.heap.size + 1, 1, none⟩ = some (rv w' (w.heap.size + 1) 1) /\ w'.cell? ⟨w.heap.size + 1, 2, none⟩ = some (rv w' (w.heap.size + 1) 2) /\ w'.cell? ⟨w.heap.size + 1 + 1, 0, none⟩ = some (rv w' (w.heap.size + 1 + 1) 0) /\ w'.cell? ⟨w.heap.size + 1 + 1, 1, none⟩ = some (rv w' (w.heap.size + 1 + 1) 1) /\ w'.cell? ⟨w.heap.size + 1 + 1, 2, none⟩ = some (rv w' (w.heap.size + 1 + 1) 2)) ((refine KS.out _ ?_; (with_reducible (repeat (first | assumption | apply A3.drew | apply A3.set0 | apply A3.set1 | apply A3.set2 | (refine A3.call ?_ (by assumption))))); done)) ((go_at_call 129; refine (Tx.out _).mono ?_; rintro e w1 ⟨rfl, b1⟩))
  have A2 := A0.drew.call b1
  obtain ⟨s0, s1, s2, s3⟩ := rows3 (x0 := .int .i64 (cC 1).1) (x1 := .int .i64 (cC 1).2.1) (x2 := .int .i64 (cC 1).2.2) (y0 := .int .i64 (cR 1).1) (y1 := .int .i64 (cR 1).2.1) (y2 := .int .i64 (cR 1).2.2) (z0 := .int .i64 (cU 1).1) (z1 := .int .i64 (cU 1).2.1) (z2 := .int .i64 (cU 1).2.2) A2
  have S0 := hid s0
  have S1 := hid s1
  have S2 := hid s2
  have S3 := hid s3
  clear KS A0 A2 s0 s1 s2 s3
  go_wp2
  refine bodyPost_ret ?_ rfl ⟨rfl, ?_⟩
  · exact results_cell3 Tryz.results100 _ _ w.heap.size (w.heap.size + 1) (w.heap.size + 1 + 1) _ _ _ _ _ rfl rfl rfl S0.out S1.out S2.out Tryz.underlying123 rfl (by kernel_rfl) (by kernel_rfl) (by kernel_rfl)
  · exact S3.out.ab AW.out (Nat.le_refl _)
theorem rframe2 (w : World) : Calls Tryz.prog 100 #[.int .i64 2] w fun e w' => e = .returned (.tuple #[.agg #[.int .i64 (cC 2).1, .int .i64 (cC 2).2.1, .int .i64 (cC 2).2.2], .agg #[.int .i64 (cR 2).1, .int .i64 (cR 2).2.1, .int .i64 (cR 2).2.2], .agg #[.int .i64 (cU 2).1, .int .i64 (cU 2).2.1, .int .i64 (cU 2).2.2]]) /\ Below w.heap.size w w' := by
  have Tx : Hid (∀ u, Calls Tryz.prog 129 #[.agg #[.int .i64 0, .int .i64 0, .int .i64 0], .int .i64 (-1), .agg #[.int .i64 1, .int .i64 0, .int .i64 0]] u fun e w' => e = .returned (.agg #[.int .i64 (-1), .int .i64 (0), .int .i64 (0)]) /\ Below u.heap.size u w') := fun u => rplus_at (0, 0, 0) (-1) (1, 0, 0) u (by simp [Sm]) (by simp [Sm, sc])
  have Ty : Hid (∀ u, Calls Tryz.prog 129 #[.agg #[.int .i64 0, .int .i64 0, .int .i64 0], .int .i64 (-1), .agg #[.int .i64 0, .int .i64 1, .int .i64 0]] u fun e w' => e = .returned (.agg #[.int .i64 (0), .int .i64 (-1), .int .i64 (0)]) /\ Below u.heap.size u w') := fun u => rplus_at (0, 0, 0) (-1) (0, 1, 0) u (by simp [Sm]) (by simp [Sm, sc])
  go_enter Tryz.func100, Tryz.ntmps100
  go_upto_region 11 with fail
  generalize hW : World.alloc _ _ = W
  have AW : Hid (Ab w W) := by
    rw [<- hW]
    exact ((((((((Ab.refl w).alloc _).alloc _).alloc _).alloc _).alloc _).alloc _).alloc _)
  have r0 : W.heap[w.heap.size]? = some (.cells #[.int .i64 0, .int .i64 0, .int .i64 0] 123) := by
    rw [<- hW]
    repeat (first | exact heap_at _ _ _ (by first | (simp; done) | (simp; omega)) | rw [Below.heap_alloc _ _ _ (by first | (simp; done) | (simp; omega))])
  have r1 : W.heap[w.heap.size + 1]? = some (.cells #[.int .i64 0, .int .i64 0, .int .i64 0] 123) := by
    rw [<- hW]
    repeat (first | exact heap_at _ _ _ (by first | (simp; done) | (simp; omega)) | rw [Below.heap_alloc _ _ _ (by first | (simp; done) | (simp; omega))])
  have r2 : W.heap[w.heap.size + 1 + 1]? = some (.cells #[.int .i64 0, .int .i64 0, .int .i64 0] 123) := by
    rw [<- hW]
    repeat (first | exact heap_at _ _ _ (by first | (simp; done) | (simp; omega)) | rw [Below.heap_alloc _ _ _ (by first | (simp; done) | (simp; omega))])
  have r3 : W.heap[w.heap.size + 1 + 1 + 1]? = some (.cells #[.int .i64 1, .int .i64 0, .int .i64 0] 123) := by
    rw [<- hW]
    repeat (first | exact heap_at _ _ _ (by first | (simp; done) | (simp; omega)) | rw [Below.heap_alloc _ _ _ (by first | (simp; done) | (simp; omega))])
  have r4 : W.heap[w.heap.size + 1 + 1 + 1 + 1]? = some (.cells #[.int .i64 0, .int .i64 1, .int .i64 0] 123) := by
    rw [<- hW]
    repeat (first | exact heap_at _ _ _ (by first | (simp; done) | (simp; omega)) | rw [Below.heap_alloc _ _ _ (by first | (simp; done) | (simp; omega))])
  have r5 : W.heap[w.heap.size + 1 + 1 + 1 + 1 + 1]? = some (.cells #[.int .i64 0, .int .i64 0, .int .i64 1] 123) := by
    rw [<- hW]
    repeat (first | exact heap_at _ _ _ (by first | (simp; done) | (simp; omega)) | rw [Below.heap_alloc _ _ _ (by first | (simp; done) | (simp; omega))])
  have r6 : W.heap[w.heap.size + 1 + 1 + 1 + 1 + 1 + 1]? = some (.cells #[.int .i64 0, .int .i64 0, .int .i64 0] 123) := by
    rw [<- hW]
    repeat (first | exact heap_at _ _ _ (by first | (simp; done) | (simp; omega)) | rw [Below.heap_alloc _ _ _ (by first | (simp; done) | (simp; omega))])
  have KS : Hid (∀ w', A3 W w.heap.size w' -> A3 W w.heap.size w' /\ w'.cell? ⟨w.heap.size + 1 + 1 + 1, 0, none⟩ = some (.int .i64 1) /\ w'.cell? ⟨w.heap.size + 1 + 1 + 1, 1, none⟩ = some (.int .i64 0) /\ w'.cell? ⟨w.heap.size + 1 + 1 + 1, 2, none⟩ = some (.int .i64 0) /\ w'.cell? ⟨w.heap.size + 1 + 1 + 1 + 1, 0, none⟩ = some (.int .i64 0) /\ w'.cell? ⟨w.heap.size + 1 + 1 + 1 + 1, 1, none⟩ = some (.int .i64 1) /\ w'.cell? ⟨w.heap.size + 1 + 1 + 1 + 1, 2, none⟩ = some (.int .i64 0) /\ w'.cell? ⟨w.heap.size + 1 + 1 + 1 + 1 + 1, 0, none⟩ = some (.int .i64 0) /\ w'.cell? ⟨w.heap.size + 1 + 1 + 1 + 1 + 1, 1, none⟩ = some (.int .i64 0) /\ w'.cell? ⟨w.heap.size + 1 + 1 + 1 + 1 + 1, 2, none⟩ = some (.int .i64 1) /\ w'.cell? ⟨w.heap.size + 1 + 1 + 1 + 1 + 1 + 1, 0, none⟩ = some (.int .i64 0) /\ w'.cell? ⟨w.heap.size + 1 + 1 + 1 + 1 + 1 + 1, 1, none⟩ = some (.int .i64 0) /\ w'.cell? ⟨w.heap.size + 1 + 1 + 1 + 1 + 1 + 1, 2, none⟩ = some (.int .i64 0) /\ w'.frozen? ⟨w.heap.size, 0, none⟩ = false /\ w'.frozen? ⟨w.heap.size, 1, none⟩ = false /\ w'.frozen? ⟨w.heap.size, 2, none⟩ = false /\ w'.frozen? ⟨w.heap.size + 1, 0, none⟩ = false /\ w'.frozen? ⟨w.heap.size + 1, 1, none⟩ = false /\ w'.frozen? ⟨w.heap.size + 1, 2, none⟩ = false /\ w'.frozen? ⟨w.heap.size + 1 + 1, 0, none⟩ = false /\ w'.frozen? ⟨w.heap.size + 1 + 1, 1, none⟩ = false /\ w'.frozen? ⟨w.heap.size + 1 + 1, 2, none⟩ = false /\ w'.cell? ⟨w.heap.size, 0, none⟩ = some (rv w' (w.heap.size) 0) /\ w'.cell? ⟨w.heap.size, 1, none⟩ = some (rv w' (w.heap.size) 1) /\ w'.cell? ⟨w.heap.size, 2, none⟩ = some (rv w' (w.heap.size) 2) /\ w'.cell? ⟨w.heap.size + 1, 0, none⟩ = some (rv w' (w.heap.size + 1) 0) /\ w'.cell? ⟨w.heap.size + 1, 1, none⟩ = some (rv w' (w.heap.size + 1) 1) /\ w'.cell? ⟨w.heap.size + 1, 2, none⟩ = some (rv w' (w.heap.size + 1) 2) /\ w'.cell? ⟨w.heap.size + 1 + 1, 0, none⟩ = some (rv w' (w.heap.size + 1 + 1) 0) /\ w'.cell? ⟨w.heap.size + 1 + 1, 1, none⟩ = some (rv w' (w.heap.size + 1 + 1) 1) /\ w'.cell? ⟨w.heap.size + 1 + 1, 2, none⟩ = some (rv w' (w.heap.size + 1 + 1) 2)) := by
    intro w' hw
    obtain ⟨-, p0, p1, p2⟩ := rowfacts (hw.heap (by omega) r3)
    obtain ⟨-, p3, p4, p5⟩ := rowfacts (hw.heap (by omega) r4)
    obtain ⟨-, p6, p7, p8⟩ := rowfacts (hw.heap (by omega) r5)
    obtain ⟨-, p9, p10, p11⟩ := rowfacts (hw.heap (by omega) r6)
    obtain ⟨⟨f0, f1, f2⟩, c0, c1, c2⟩ := hw.facts 0 (by omega)
    obtain ⟨⟨f3, f4, f5⟩, c3, c4, c5⟩ := hw.facts 1 (by omega)
    obtain ⟨⟨f6, f7, f8⟩, c6, c7, c8⟩ := hw.facts 2 (by omega)
    exact ⟨hw, p0, p1, p2, p3, p4, p5, p6, p7, p8, p9, p10, p11, f0, f1, f2, f3, f4, f5, f6, f7, f8, c0, c1, c2, c3, c4, c5, c6, c7, c8⟩
  have A0 : A3 W w.heap.size W := (Ab.refl W).a3 (fun j hj => by
    rcases (show j = 0 \/ j = 1 \/ j = 2 by omega) with rfl | rfl | rfl
    · exact ⟨_, _, _, r0⟩
    · exact ⟨_, _, _, r1⟩
    · exact ⟨_, _, _, r2⟩)
  clear r0 r1 r2 r3 r4 r5 r6 hW
  go_region_held3 (fun w' => A3 W w.heap.size w' /\ w'.cell? ⟨w.heap.size + 1 + 1 + 1, 0, none⟩ = some (.int .i64 1) /\ w'.cell? ⟨w.heap.size + 1 + 1 + 1, 1, none⟩ = some (.int .i64 0) /\ w'.cell? ⟨w.heap.size + 1 + 1 + 1, 2, none⟩ = some (.int .i64 0) /\ w'.cell? ⟨w.heap.size + 1 + 1 + 1 + 1, 0, none⟩ = some (.int .i64 0) /\ w'.cell? ⟨w.heap.size + 1 + 1 + 1 + 1, 1, none⟩ = some (.int .i64 1) /\ w'.cell? ⟨w.heap.size + 1 + 1 + 1 + 1, 2, none⟩ = some (.int .i64 0) /\ w'.cell? ⟨w.heap.size + 1 + 1 + 1 + 1 + 1, 0, none⟩ = some (.int .i64 0) /\ w'.cell? ⟨w.heap.size + 1 + 1 + 1 + 1 + 1, 1, none⟩ = some (.int .i64 0) /\ w'.cell? ⟨w.heap.size + 1 + 1 + 1 + 1 + 1, 2, none⟩ = some (.int .i64 1) /\ w'.cell? ⟨w.heap.size + 1 + 1 + 1 + 1 + 1 + 1, 0, none⟩ = some (.int .i64 0) /\ w'.cell? ⟨w.heap.size + 1 + 1 + 1 + 1 + 1 + 1, 1, none⟩ = some (.int .i64 0) /\ w'.cell? ⟨w.heap.size + 1 + 1 + 1 + 1 + 1 + 1, 2, none⟩ = some (.int .i64 0) /\ w'.frozen? ⟨w.heap.size, 0, none⟩ = false /\ w'.frozen? ⟨w.heap.size, 1, none⟩ = false /\ w'.frozen? ⟨w.heap.size, 2, none⟩ = false /\ w'.frozen? ⟨w.heap.size + 1, 0, none⟩ = false /\ w'.frozen? ⟨w.heap.size + 1, 1, none⟩ = false /\ w'.frozen? ⟨w.heap.size + 1, 2, none⟩ = false /\ w'.frozen? ⟨w.heap.size + 1 + 1, 0, none⟩ = false /\ w'.frozen? ⟨w.heap.size + 1 + 1, 1, none⟩ = false /\ w'.frozen? ⟨w.heap.size + 1 + 1, 2, none⟩ = false /\ w'.cell? ⟨w.heap.size, 0, none⟩ = some (rv w' (w.heap.size) 0) /\ w'.cell? ⟨w.heap.size, 1, none⟩ = some (rv w' (w.heap.size) 1) /\ w'.cell? ⟨w.heap.size, 2, none⟩ = some (rv w' (w.heap.size) 2) /\ w'.cell? ⟨w.heap.size + 1, 0, none⟩ = some (rv w' (w.heap.size + 1) 0) /\ w'.cell? ⟨w.heap.size + 1, 1, none⟩ = some (rv w' (w.heap.size + 1) 1) /\ w'.cell? ⟨w.heap.size + 1, 2, none⟩ = some (rv w' (w.heap.size + 1) 2) /\ w'.cell? ⟨w.heap.size + 1 + 1, 0, none⟩ = some (rv w' (w.heap.size + 1 + 1) 0) /\ w'.cell? ⟨w.heap.size + 1 + 1, 1, none⟩ = some (rv w' (w.heap.size + 1 + 1) 1) /\ w'.cell? ⟨w.heap.size + 1 + 1, 2, none⟩ = some (rv w' (w.heap.size + 1 + 1) 2)) ((refine KS.out _ ?_; (with_reducible (repeat (first | assumption | apply A3.drew | apply A3.set0 | apply A3.set1 | apply A3.set2 | (refine A3.call ?_ (by assumption))))); done)) (first | (go_at_call 129; have hb := b1; refine (Ty.out _).mono ?_; clear hb; rintro e w2 ⟨rfl, b2⟩) | (go_at_call 129; refine (Tx.out _).mono ?_; rintro e w1 ⟨rfl, b1⟩))
  have A2 := (A0.drew.call b1).call b2
  obtain ⟨s0, s1, s2, s3⟩ := rows3 (x0 := .int .i64 (cC 2).1) (x1 := .int .i64 (cC 2).2.1) (x2 := .int .i64 (cC 2).2.2) (y0 := .int .i64 (cR 2).1) (y1 := .int .i64 (cR 2).2.1) (y2 := .int .i64 (cR 2).2.2) (z0 := .int .i64 (cU 2).1) (z1 := .int .i64 (cU 2).2.1) (z2 := .int .i64 (cU 2).2.2) A2
  have S0 := hid s0
  have S1 := hid s1
  have S2 := hid s2
  have S3 := hid s3
  clear KS A0 A2 s0 s1 s2 s3
  go_wp2
  refine bodyPost_ret ?_ rfl ⟨rfl, ?_⟩
  · exact results_cell3 Tryz.results100 _ _ w.heap.size (w.heap.size + 1) (w.heap.size + 1 + 1) _ _ _ _ _ rfl rfl rfl S0.out S1.out S2.out Tryz.underlying123 rfl (by kernel_rfl) (by kernel_rfl) (by kernel_rfl)
  · exact S3.out.ab AW.out (Nat.le_refl _)
theorem rframe3 (w : World) : Calls Tryz.prog 100 #[.int .i64 3] w fun e w' => e = .returned (.tuple #[.agg #[.int .i64 (cC 3).1, .int .i64 (cC 3).2.1, .int .i64 (cC 3).2.2], .agg #[.int .i64 (cR 3).1, .int .i64 (cR 3).2.1, .int .i64 (cR 3).2.2], .agg #[.int .i64 (cU 3).1, .int .i64 (cU 3).2.1, .int .i64 (cU 3).2.2]]) /\ Below w.heap.size w w' := by
  have Ty : Hid (∀ u, Calls Tryz.prog 129 #[.agg #[.int .i64 0, .int .i64 0, .int .i64 0], .int .i64 (-1), .agg #[.int .i64 0, .int .i64 1, .int .i64 0]] u fun e w' => e = .returned (.agg #[.int .i64 (0), .int .i64 (-1), .int .i64 (0)]) /\ Below u.heap.size u w') := fun u => rplus_at (0, 0, 0) (-1) (0, 1, 0) u (by simp [Sm]) (by simp [Sm, sc])
  go_enter Tryz.func100, Tryz.ntmps100
  go_upto_region 13 with fail
  generalize hW : World.alloc _ _ = W
  have AW : Hid (Ab w W) := by
    rw [<- hW]
    exact ((((((((Ab.refl w).alloc _).alloc _).alloc _).alloc _).alloc _).alloc _).alloc _)
  have r0 : W.heap[w.heap.size]? = some (.cells #[.int .i64 0, .int .i64 0, .int .i64 0] 123) := by
    rw [<- hW]
    repeat (first | exact heap_at _ _ _ (by first | (simp; done) | (simp; omega)) | rw [Below.heap_alloc _ _ _ (by first | (simp; done) | (simp; omega))])
  have r1 : W.heap[w.heap.size + 1]? = some (.cells #[.int .i64 0, .int .i64 0, .int .i64 0] 123) := by
    rw [<- hW]
    repeat (first | exact heap_at _ _ _ (by first | (simp; done) | (simp; omega)) | rw [Below.heap_alloc _ _ _ (by first | (simp; done) | (simp; omega))])
  have r2 : W.heap[w.heap.size + 1 + 1]? = some (.cells #[.int .i64 0, .int .i64 0, .int .i64 0] 123) := by
    rw [<- hW]
    repeat (first | exact heap_at _ _ _ (by first | (simp; done) | (simp; omega)) | rw [Below.heap_alloc _ _ _ (by first | (simp; done) | (simp; omega))])
  have r3 : W.heap[w.heap.size + 1 + 1 + 1]? = some (.cells #[.int .i64 1, .int .i64 0, .int .i64 0] 123) := by
    rw [<- hW]
    repeat (first | exact heap_at _ _ _ (by first | (simp; done) | (simp; omega)) | rw [Below.heap_alloc _ _ _ (by first | (simp; done) | (simp; omega))])
  have r4 : W.heap[w.heap.size + 1 + 1 + 1 + 1]? = some (.cells #[.int .i64 0, .int .i64 1, .int .i64 0] 123) := by
    rw [<- hW]
    repeat (first | exact heap_at _ _ _ (by first | (simp; done) | (simp; omega)) | rw [Below.heap_alloc _ _ _ (by first | (simp; done) | (simp; omega))])
  have r5 : W.heap[w.heap.size + 1 + 1 + 1 + 1 + 1]? = some (.cells #[.int .i64 0, .int .i64 0, .int .i64 1] 123) := by
    rw [<- hW]
    repeat (first | exact heap_at _ _ _ (by first | (simp; done) | (simp; omega)) | rw [Below.heap_alloc _ _ _ (by first | (simp; done) | (simp; omega))])
  have r6 : W.heap[w.heap.size + 1 + 1 + 1 + 1 + 1 + 1]? = some (.cells #[.int .i64 0, .int .i64 0, .int .i64 0] 123) := by
    rw [<- hW]
    repeat (first | exact heap_at _ _ _ (by first | (simp; done) | (simp; omega)) | rw [Below.heap_alloc _ _ _ (by first | (simp; done) | (simp; omega))])
  have KS : Hid (∀ w', A3 W w.heap.size w' -> A3 W w.heap.size w' /\ w'.cell? ⟨w.heap.size + 1 + 1 + 1, 0, none⟩ = some (.int .i64 1) /\ w'.cell? ⟨w.heap.size + 1 + 1 + 1, 1, none⟩ = some (.int .i64 0) /\ w'.cell? ⟨w.heap.size + 1 + 1 + 1, 2, none⟩ = some (.int .i64 0) /\ w'.cell? ⟨w.heap.size + 1 + 1 + 1 + 1, 0, none⟩ = some (.int .i64 0) /\ w'.cell? ⟨w.heap.size + 1 + 1 + 1 + 1, 1, none⟩ = some (.int .i64 1) /\ w'.cell? ⟨w.heap.size + 1 + 1 + 1 + 1, 2, none⟩ = some (.int .i64 0) /\ w'.cell? ⟨w.heap.size + 1 + 1 + 1 + 1 + 1, 0, none⟩ = some (.int .i64 0) /\ w'.cell? ⟨w.heap.size + 1 + 1 + 1 + 1 + 1, 1, none⟩ = some (.int .i64 0) /\ w'.cell? ⟨w.heap.size + 1 + 1 + 1 + 1 + 1, 2, none⟩ = some (.int .i64 1) /\ w'.cell? ⟨w.heap.size + 1 + 1 + 1 + 1 + 1 + 1, 0, none⟩ = some (.int .i64 0) /\ w'.cell? ⟨w.heap.size + 1 + 1 + 1 + 1 + 1 + 1, 1, none⟩ = some (.int .i64 0) /\ w'.cell? ⟨w.heap.size + 1 + 1 + 1 + 1 + 1 + 1, 2, none⟩ = some (.int .i64 0) /\ w'.frozen? ⟨w.heap.size, 0, none⟩ = false /\ w'.frozen? ⟨w.heap.size, 1, none⟩ = false /\ w'.frozen? ⟨w.heap.size, 2, none⟩ = false /\ w'.frozen? ⟨w.heap.size + 1, 0, none⟩ = false /\ w'.frozen? ⟨w.heap.size + 1, 1, none⟩ = false /\ w'.frozen? ⟨w.heap.size + 1, 2, none⟩ = false /\ w'.frozen? ⟨w.heap.size + 1 + 1, 0, none⟩ = false /\ w'.frozen? ⟨w.heap.size + 1 + 1, 1, none⟩ = false /\ w'.frozen? ⟨w.heap.size + 1 + 1, 2, none⟩ = false /\ w'.cell? ⟨w.heap.size, 0, none⟩ = some (rv w' (w.heap.size) 0) /\ w'.cell? ⟨w.heap.size, 1, none⟩ = some (rv w' (w.heap.size) 1) /\ w'.cell? ⟨w.heap.size, 2, none⟩ = some (rv w' (w.heap.size) 2) /\ w'.cell? ⟨w.heap.size + 1, 0, none⟩ = some (rv w' (w.heap.size + 1) 0) /\ w'.cell? ⟨w.heap.size + 1, 1, none⟩ = some (rv w' (w.heap.size + 1) 1) /\ w'.cell? ⟨w.heap.size + 1, 2, none⟩ = some (rv w' (w.heap.size + 1) 2) /\ w'.cell? ⟨w.heap.size + 1 + 1, 0, none⟩ = some (rv w' (w.heap.size + 1 + 1) 0) /\ w'.cell? ⟨w.heap.size + 1 + 1, 1, none⟩ = some (rv w' (w.heap.size + 1 + 1) 1) /\ w'.cell? ⟨w.heap.size + 1 + 1, 2, none⟩ = some (rv w' (w.heap.size + 1 + 1) 2)) := by
    intro w' hw
    obtain ⟨-, p0, p1, p2⟩ := rowfacts (hw.heap (by omega) r3)
    obtain ⟨-, p3, p4, p5⟩ := rowfacts (hw.heap (by omega) r4)
    obtain ⟨-, p6, p7, p8⟩ := rowfacts (hw.heap (by omega) r5)
    obtain ⟨-, p9, p10, p11⟩ := rowfacts (hw.heap (by omega) r6)
    obtain ⟨⟨f0, f1, f2⟩, c0, c1, c2⟩ := hw.facts 0 (by omega)
    obtain ⟨⟨f3, f4, f5⟩, c3, c4, c5⟩ := hw.facts 1 (by omega)
    obtain ⟨⟨f6, f7, f8⟩, c6, c7, c8⟩ := hw.facts 2 (by omega)
    exact ⟨hw, p0, p1, p2, p3, p4, p5, p6, p7, p8, p9, p10, p11, f0, f1, f2, f3, f4, f5, f6, f7, f8, c0, c1, c2, c3, c4, c5, c6, c7, c8⟩
  have A0 : A3 W w.heap.size W := (Ab.refl W).a3 (fun j hj => by
    rcases (show j = 0 \/ j = 1 \/ j = 2 by omega) with rfl | rfl | rfl
    · exact ⟨_, _, _, r0⟩
    · exact ⟨_, _, _, r1⟩
    · exact ⟨_, _, _, r2⟩)
  clear r0 r1 r2 r3 r4 r5 r6 hW
  go_region_held3 (fun w' => A3 W w.heap.size w' /\ w'.cell? ⟨w.heap.size + 1 + 1 + 1, 0, none⟩ = some (.int .i64 1) /\ w'.cell? ⟨w.heap.size + 1 + 1 + 1, 1, none⟩ = some (.int .i64 0) /\ w'.cell? ⟨w.heap.size + 1 + 1 + 1, 2, none⟩ = some (.int .i64 0) /\ w'.cell? ⟨w.heap.size + 1 + 1 + 1 + 1, 0, none⟩ = some (.int .i64 0) /\ w'.cell? ⟨w.heap.size + 1 + 1 + 1 + 1, 1, none⟩ = some (.int .i64 1) /\ w'.cell? ⟨w.heap.size + 1 + 1 + 1 + 1, 2, none⟩ = some (.int .i64 0) /\ w'.cell? ⟨w.heap.size + 1 + 1 + 1 + 1 + 1, 0, none⟩ = some (.int .i64 0) /\ w'.cell? ⟨w.heap.size + 1 + 1 + 1 + 1 + 1, 1, none⟩ = some (.int .i64 0) /\ w'.cell? ⟨w.heap.size + 1 + 1 + 1 + 1 + 1, 2, none⟩ = some (.int .i64 1) /\ w'.cell? ⟨w.heap.size + 1 + 1 + 1 + 1 + 1 + 1, 0, none⟩ = some (.int .i64 0) /\ w'.cell? ⟨w.heap.size + 1 + 1 + 1 + 1 + 1 + 1, 1, none⟩ = some (.int .i64 0) /\ w'.cell? ⟨w.heap.size + 1 + 1 + 1 + 1 + 1 + 1, 2, none⟩ = some (.int .i64 0) /\ w'.frozen? ⟨w.heap.size, 0, none⟩ = false /\ w'.frozen? ⟨w.heap.size, 1, none⟩ = false /\ w'.frozen? ⟨w.heap.size, 2, none⟩ = false /\ w'.frozen? ⟨w.heap.size + 1, 0, none⟩ = false /\ w'.frozen? ⟨w.heap.size + 1, 1, none⟩ = false /\ w'.frozen? ⟨w.heap.size + 1, 2, none⟩ = false /\ w'.frozen? ⟨w.heap.size + 1 + 1, 0, none⟩ = false /\ w'.frozen? ⟨w.heap.size + 1 + 1, 1, none⟩ = false /\ w'.frozen? ⟨w.heap.size + 1 + 1, 2, none⟩ = false /\ w'.cell? ⟨w.heap.size, 0, none⟩ = some (rv w' (w.heap.size) 0) /\ w'.cell? ⟨w.heap.size, 1, none⟩ = some (rv w' (w.heap.size) 1) /\ w'.cell? ⟨w.heap.size, 2, none⟩ = some (rv w' (w.heap.size) 2) /\ w'.cell? ⟨w.heap.size + 1, 0, none⟩ = some (rv w' (w.heap.size + 1) 0) /\ w'.cell? ⟨w.heap.size + 1, 1, none⟩ = some (rv w' (w.heap.size + 1) 1) /\ w'.cell? ⟨w.heap.size + 1, 2, none⟩ = some (rv w' (w.heap.size + 1) 2) /\ w'.cell? ⟨w.heap.size + 1 + 1, 0, none⟩ = some (rv w' (w.heap.size + 1 + 1) 0) /\ w'.cell? ⟨w.heap.size + 1 + 1, 1, none⟩ = some (rv w' (w.heap.size + 1 + 1) 1) /\ w'.cell? ⟨w.heap.size + 1 + 1, 2, none⟩ = some (rv w' (w.heap.size + 1 + 1) 2)) ((refine KS.out _ ?_; (with_reducible (repeat (first | assumption | apply A3.drew | apply A3.set0 | apply A3.set1 | apply A3.set2 | (refine A3.call ?_ (by assumption))))); done)) ((go_at_call 129; refine (Ty.out _).mono ?_; rintro e w1 ⟨rfl, b1⟩))
  have A2 := A0.drew.call b1
  obtain ⟨s0, s1, s2, s3⟩ := rows3 (x0 := .int .i64 (cC 3).1) (x1 := .int .i64 (cC 3).2.1) (x2 := .int .i64 (cC 3).2.2) (y0 := .int .i64 (cR 3).1) (y1 := .int .i64 (cR 3).2.1) (y2 := .int .i64 (cR 3).2.2) (z0 := .int .i64 (cU 3).1) (z1 := .int .i64 (cU 3).2.1) (z2 := .int .i64 (cU 3).2.2) A2
  have S0 := hid s0
  have S1 := hid s1
  have S2 := hid s2
  have S3 := hid s3
  clear KS A0 A2 s0 s1 s2 s3
  go_wp2
  refine bodyPost_ret ?_ rfl ⟨rfl, ?_⟩
  · exact results_cell3 Tryz.results100 _ _ w.heap.size (w.heap.size + 1) (w.heap.size + 1 + 1) _ _ _ _ _ rfl rfl rfl S0.out S1.out S2.out Tryz.underlying123 rfl (by kernel_rfl) (by kernel_rfl) (by kernel_rfl)
  · exact S3.out.ab AW.out (Nat.le_refl _)
theorem rframe4 (w : World) : Calls Tryz.prog 100 #[.int .i64 4] w fun e w' => e = .returned (.tuple #[.agg #[.int .i64 (cC 4).1, .int .i64 (cC 4).2.1, .int .i64 (cC 4).2.2], .agg #[.int .i64 (cR 4).1, .int .i64 (cR 4).2.1, .int .i64 (cR 4).2.2], .agg #[.int .i64 (cU 4).1, .int .i64 (cU 4).2.1, .int .i64 (cU 4).2.2]]) /\ Below w.heap.size w w' := by
  have Tx : Hid (∀ u, Calls Tryz.prog 129 #[.agg #[.int .i64 0, .int .i64 0, .int .i64 0], .int .i64 (-1), .agg #[.int .i64 1, .int .i64 0, .int .i64 0]] u fun e w' => e = .returned (.agg #[.int .i64 (-1), .int .i64 (0), .int .i64 (0)]) /\ Below u.heap.size u w') := fun u => rplus_at (0, 0, 0) (-1) (1, 0, 0) u (by simp [Sm]) (by simp [Sm, sc])
  go_enter Tryz.func100, Tryz.ntmps100
  go_upto_region 15 with fail
  generalize hW : World.alloc _ _ = W
  have AW : Hid (Ab w W) := by
    rw [<- hW]
    exact ((((((((Ab.refl w).alloc _).alloc _).alloc _).alloc _).alloc _).alloc _).alloc _)
  have r0 : W.heap[w.heap.size]? = some (.cells #[.int .i64 0, .int .i64 0, .int .i64 0] 123) := by
    rw [<- hW]
    repeat (first | exact heap_at _ _ _ (by first | (simp; done) | (simp; omega)) | rw [Below.heap_alloc _ _ _ (by first | (simp; done) | (simp; omega))])
  have r1 : W.heap[w.heap.size + 1]? = some (.cells #[.int .i64 0, .int .i64 0, .int .i64 0] 123) := by
    rw [<- hW]
    repeat (first | exact heap_at _ _ _ (by first | (simp; done) | (simp; omega)) | rw [Below.heap_alloc _ _ _ (by first | (simp; done) | (simp; omega))])
  have r2 : W.heap[w.heap.size + 1 + 1]? = some (.cells #[.int .i64 0, .int .i64 0, .int .i64 0] 123) := by
    rw [<- hW]
    repeat (first | exact heap_at _ _ _ (by first | (simp; done) | (simp; omega)) | rw [Below.heap_alloc _ _ _ (by first | (simp; done) | (simp; omega))])
  have r3 : W.heap[w.heap.size + 1 + 1 + 1]? = some (.cells #[.int .i64 1, .int .i64 0, .int .i64 0] 123) := by
    rw [<- hW]
    repeat (first | exact heap_at _ _ _ (by first | (simp; done) | (simp; omega)) | rw [Below.heap_alloc _ _ _ (by first | (simp; done) | (simp; omega))])
  have r4 : W.heap[w.heap.size + 1 + 1 + 1 + 1]? = some (.cells #[.int .i64 0, .int .i64 1, .int .i64 0] 123) := by
    rw [<- hW]
    repeat (first | exact heap_at _ _ _ (by first | (simp; done) | (simp; omega)) | rw [Below.heap_alloc _ _ _ (by first | (simp; done) | (simp; omega))])
  have r5 : W.heap[w.heap.size + 1 + 1 + 1 + 1 + 1]? = some (.cells #[.int .i64 0, .int .i64 0, .int .i64 1] 123) := by
    rw [<- hW]
    repeat (first | exact heap_at _ _ _ (by first | (simp; done) | (simp; omega)) | rw [Below.heap_alloc _ _ _ (by first | (simp; done) | (simp; omega))])
  have r6 : W.heap[w.heap.size + 1 + 1 + 1 + 1 + 1 + 1]? = some (.cells #[.int .i64 0, .int .i64 0, .int .i64 0] 123) := by
    rw [<- hW]
    repeat (first | exact heap_at _ _ _ (by first | (simp; done) | (simp; omega)) | rw [Below.heap_alloc _ _ _ (by first | (simp; done) | (simp; omega))])
  have KS : Hid (∀ w', A3 W w.heap.size w' -> A3 W w.heap.size w' /\ w'.cell? ⟨w.heap.size + 1 + 1 + 1, 0, none⟩ = some (.int .i64 1) /\ w'.cell? ⟨w.heap.size + 1 + 1 + 1, 1, none⟩ = some (.int .i64 0) /\ w'.cell? ⟨w.heap.size + 1 + 1 + 1, 2, none⟩ = some (.int .i64 0) /\ w'.cell? ⟨w.heap.size + 1 + 1 + 1 + 1, 0, none⟩ = some (.int .i64 0) /\ w'.cell? ⟨w.heap.size + 1 + 1 + 1 + 1, 1, none⟩ = some (.int .i64 1) /\ w'.cell? ⟨w.heap.size + 1 + 1 + 1 + 1, 2, none⟩ = some (.int .i64 0) /\ w'.cell? ⟨w.heap.size + 1 + 1 + 1 + 1 + 1, 0, none⟩ = some (.int .i64 0) /\ w'.cell? ⟨w.heap.size + 1 + 1 + 1 + 1 + 1, 1, none⟩ = some (.int .i64 0) /\ w'.cell? ⟨w.heap.size + 1 + 1 + 1 + 1 + 1, 2, none⟩ = some (.int .i64 1) /\ w'.cell? ⟨w.heap.size + 1 + 1 + 1 + 1 + 1 + 1, 0, none⟩ = some (.int .i64 0) /\ w'.cell? ⟨w.heap.size + 1 + 1 + 1 + 1 + 1 + 1, 1, none⟩ = some (.int .i64 0) /\ w'.cell? ⟨w.heap.size + 1 + 1 + 1 + 1 + 1 + 1, 2, none⟩ = some (.int .i64 0) /\ w'.frozen? ⟨w.heap.size, 0, none⟩ = false /\ w'.frozen? ⟨w.heap.size, 1, none⟩ = false /\ w'.frozen? ⟨w.heap.size, 2, none⟩ = false /\ w'.frozen? ⟨w.heap.size + 1, 0, none⟩ = false /\ w'.frozen? ⟨w.heap.size + 1, 1, none⟩ = false /\ w'.frozen? ⟨w.heap.size + 1, 2, none⟩ = false /\ w'.frozen? ⟨w.heap.size + 1 + 1, 0, none⟩ = false /\ w'.frozen? ⟨w.heap.size + 1 + 1, 1, none⟩ = false /\ w'.frozen? ⟨w.heap.size + 1 + 1, 2, none⟩ = false /\ w'.cell? ⟨w.heap.size, 0, none⟩ = some (rv w' (w.heap.size) 0) /\ w'.cell? ⟨w.heap.size, 1, none⟩ = some (rv w' (w.heap.size) 1) /\ w'.cell? ⟨w.heap.size, 2, none⟩ = some (rv w' (w.heap.size) 2) /\ w'.cell? ⟨w.heap.size + 1, 0, none⟩ = some (rv w' (w.heap.size + 1) 0) /\ w'.cell? ⟨w.heap.size + 1, 1, none⟩ = some (rv w' (w.heap.size + 1) 1) /\ w'.cell? ⟨w.heap.size + 1, 2, none⟩ = some (rv w' (w.heap.size + 1) 2) /\ w'.cell? ⟨w.heap.size + 1 + 1, 0, none⟩ = some (rv w' (w.heap.size + 1 + 1) 0) /\ w'.cell? ⟨w.heap.size + 1 + 1, 1, none⟩ = some (rv w' (w.heap.size + 1 + 1) 1) /\ w'.cell? ⟨w.heap.size + 1 + 1, 2, none⟩ = some (rv w' (w.heap.size + 1 + 1) 2)) := by
    intro w' hw
    obtain ⟨-, p0, p1, p2⟩ := rowfacts (hw.heap (by omega) r3)
    obtain ⟨-, p3, p4, p5⟩ := rowfacts (hw.heap (by omega) r4)
    obtain ⟨-, p6, p7, p8⟩ := rowfacts (hw.heap (by omega) r5)
    obtain ⟨-, p9, p10, p11⟩ := rowfacts (hw.heap (by omega) r6)
    obtain ⟨⟨f0, f1, f2⟩, c0, c1, c2⟩ := hw.facts 0 (by omega)
    obtain ⟨⟨f3, f4, f5⟩, c3, c4, c5⟩ := hw.facts 1 (by omega)
    obtain ⟨⟨f6, f7, f8⟩, c6, c7, c8⟩ := hw.facts 2 (by omega)
    exact ⟨hw, p0, p1, p2, p3, p4, p5, p6, p7, p8, p9, p10, p11, f0, f1, f2, f3, f4, f5, f6, f7, f8, c0, c1, c2, c3, c4, c5, c6, c7, c8⟩
  have A0 : A3 W w.heap.size W := (Ab.refl W).a3 (fun j hj => by
    rcases (show j = 0 \/ j = 1 \/ j = 2 by omega) with rfl | rfl | rfl
    · exact ⟨_, _, _, r0⟩
    · exact ⟨_, _, _, r1⟩
    · exact ⟨_, _, _, r2⟩)
  clear r0 r1 r2 r3 r4 r5 r6 hW
  go_region_held3 (fun w' => A3 W w.heap.size w' /\ w'.cell? ⟨w.heap.size + 1 + 1 + 1, 0, none⟩ = some (.int .i64 1) /\ w'.cell? ⟨w.heap.size + 1 + 1 + 1, 1, none⟩ = some (.int .i64 0) /\ w'.cell? ⟨w.heap.size + 1 + 1 + 1, 2, none⟩ = some (.int .i64 0) /\ w'.cell? ⟨w.heap.size + 1 + 1 + 1 + 1, 0, none⟩ = some (.int .i64 0) /\ w'.cell? ⟨w.heap.size + 1 + 1 + 1 + 1, 1, none⟩ = some (.int .i64 1) /\ w'.cell? ⟨w.heap.size + 1 + 1 + 1 + 1, 2, none⟩ = some (.int .i64 0) /\ w'.cell? ⟨w.heap.size + 1 + 1 + 1 + 1 + 1, 0, none⟩ = some (.int .i64 0) /\ w'.cell? ⟨w.heap.size + 1 + 1 + 1 + 1 + 1, 1, none⟩ = some (.int .i64 0) /\ w'.cell? ⟨w.heap.size + 1 + 1 + 1 + 1 + 1, 2, none⟩ = some (.int .i64 1) /\ w'.cell? ⟨w.heap.size + 1 + 1 + 1 + 1 + 1 + 1, 0, none⟩ = some (.int .i64 0) /\ w'.cell? ⟨w.heap.size + 1 + 1 + 1 + 1 + 1 + 1, 1, none⟩ = some (.int .i64 0) /\ w'.cell? ⟨w.heap.size + 1 + 1 + 1 + 1 + 1 + 1, 2, none⟩ = some (.int .i64 0) /\ w'.frozen? ⟨w.heap.size, 0, none⟩ = false /\ w'.frozen? ⟨w.heap.size, 1, none⟩ = false /\ w'.frozen? ⟨w.heap.size, 2, none⟩ = false /\ w'.frozen? ⟨w.heap.size + 1, 0, none⟩ = false /\ w'.frozen? ⟨w.heap.size + 1, 1, none⟩ = false /\ w'.frozen? ⟨w.heap.size + 1, 2, none⟩ = false /\ w'.frozen? ⟨w.heap.size + 1 + 1, 0, none⟩ = false /\ w'.frozen? ⟨w.heap.size + 1 + 1, 1, none⟩ = false /\ w'.frozen? ⟨w.heap.size + 1 + 1, 2, none⟩ = false /\ w'.cell? ⟨w.heap.size, 0, none⟩ = some (rv w' (w.heap.size) 0) /\ w'.cell? ⟨w.heap.size, 1, none⟩ = some (rv w' (w.heap.size) 1) /\ w'.cell? ⟨w.heap.size, 2, none⟩ = some (rv w' (w.heap.size) 2) /\ w'.cell? ⟨w.heap.size + 1, 0, none⟩ = some (rv w' (w.heap.size + 1) 0) /\ w'.cell? ⟨w.heap.size + 1, 1, none⟩ = some (rv w' (w.heap.size + 1) 1) /\ w'.cell? ⟨w.heap.size + 1, 2, none⟩ = some (rv w' (w.heap.size + 1) 2) /\ w'.cell? ⟨w.heap.size + 1 + 1, 0, none⟩ = some (rv w' (w.heap.size + 1 + 1) 0) /\ w'.cell? ⟨w.heap.size + 1 + 1, 1, none⟩ = some (rv w' (w.heap.size + 1 + 1) 1) /\ w'.cell? ⟨w.heap.size + 1 + 1, 2, none⟩ = some (rv w' (w.heap.size + 1 + 1) 2)) ((refine KS.out _ ?_; (with_reducible (repeat (first | assumption | apply A3.drew | apply A3.set0 | apply A3.set1 | apply A3.set2 | (refine A3.call ?_ (by assumption))))); done)) ((go_at_call 129; refine (Tx.out _).mono ?_; rintro e w1 ⟨rfl, b1⟩))
  have A2 := A0.drew.call b1
  obtain ⟨s0, s1, s2, s3⟩ := rows3 (x0 := .int .i64 (cC 4).1) (x1 := .int .i64 (cC 4).2.1) (x2 := .int .i64 (cC 4).2.2) (y0 := .int .i64 (cR 4).1) (y1 := .int .i64 (cR 4).2.1) (y2 := .int .i64 (cR 4).2.2) (z0 := .int .i64 (cU 4).1) (z1 := .int .i64 (cU 4).2.1) (z2 := .int .i64 (cU 4).2.2) A2
  have S0 := hid s0
  have S1 := hid s1
  have S2 := hid s2
  have S3 := hid s3
  clear KS A0 A2 s0 s1 s2 s3
  go_wp2
  refine bodyPost_ret ?_ rfl ⟨rfl, ?_⟩
  · exact results_cell3 Tryz.results100 _ _ w.heap.size (w.heap.size + 1) (w.heap.size + 1 + 1) _ _ _ _ _ rfl rfl rfl S0.out S1.out S2.out Tryz.underlying123 rfl (by kernel_rfl) (by kernel_rfl) (by kernel_rfl)
  · exact S3.out.ab AW.out (Nat.le_refl _)
theorem rframe5 (w : World) : Calls Tryz.prog 100 #[.int .i64 5] w fun e w' => e = .returned (.tuple #[.agg #[.int .i64 (cC 5).1, .int .i64 (cC 5).2.1, .int .i64 (cC 5).2.2], .agg #[.int .i64 (cR 5).1, .int .i64 (cR 5).2.1, .int .i64 (cR 5).2.2], .agg #[.int .i64 (cU 5).1, .int .i64 (cU 5).2.1, .int .i64 (cU 5).2.2]]) /\ Below w.heap.size w w' := by
  have Tz : Hid (∀ u, Calls Tryz.prog 129 #[.agg #[.int .i64 0, .int .i64 0, .int .i64 0], .int .i64 (-1), .agg #[.int .i64 0, .int .i64 0, .int .i64 1]] u fun e w' => e = .returned (.agg #[.int .i64 (0), .int .i64 (0), .int .i64 (-1)]) /\ Below u.heap.size u w') := fun u => rplus_at (0, 0, 0) (-1) (0, 0, 1) u (by simp [Sm]) (by simp [Sm, sc])
  go_enter Tryz.func100, Tryz.ntmps100
  go_upto_region 16 with fail
  generalize hW : World.alloc _ _ = W
  have AW : Hid (Ab w W) := by
    rw [<- hW]
    exact ((((((((Ab.refl w).alloc _).alloc _).alloc _).alloc _).alloc _).alloc _).alloc _)
  have r0 : W.heap[w.heap.size]? = some (.cells #[.int .i64 0, .int .i64 0, .int .i64 0] 123) := by
    rw [<- hW]
    repeat (first | exact heap_at _ _ _ (by first | (simp; done) | (simp; omega)) | rw [Below.heap_alloc _ _ _ (by first | (simp; done) | (simp; omega))])
  have r1 : W.heap[w.heap.size + 1]? = some (.cells #[.int .i64 0, .int .i64 0, .int .i64 0] 123) := by
    rw [<- hW]
    repeat (first | exact heap_at _ _ _ (by first | (simp; done) | (simp; omega)) | rw [Below.heap_alloc _ _ _ (by first | (simp; done) | (simp; omega))])
  have r2 : W.heap[w.heap.size + 1 + 1]? = some (.cells #[.int .i64 0, .int .i64 0, .int .i64 0] 123) := by
    rw [<- hW]
    repeat (first | exact heap_at _ _ _ (by first | (simp; done) | (simp; omega)) | rw [Below.heap_alloc _ _ _ (by first | (simp; done) | (simp; omega))])
  have r3 : W.heap[w.heap.size + 1 + 1 + 1]? = some (.cells #[.int .i64 1, .int .i64 0, .int .i64 0] 123) := by
    rw [<- hW]
    repeat (first | exact heap_at _ _ _ (by first | (simp; done) | (simp; omega)) | rw [Below.heap_alloc _ _ _ (by first | (simp; done) | (simp; omega))])
  have r4 : W.heap[w.heap.size + 1 + 1 + 1 + 1]? = some (.cells #[.int .i64 0, .int .i64 1, .int .i64 0] 123) := by
    rw [<- hW]
    repeat (first | exact heap_at _ _ _ (by first | (simp; done) | (simp; omega)) | rw [Below.heap_alloc _ _ _ (by first | (simp; done) | (simp; omega))])
  have r5 : W.heap[w.heap.size + 1 + 1 + 1 + 1 + 1]? = some (.cells #[.int .i64 0, .int .i64 0, .int .i64 1] 123) := by
    rw [<- hW]
    repeat (first | exact heap_at _ _ _ (by first | (simp; done) | (simp; omega)) | rw [Below.heap_alloc _ _ _ (by first | (simp; done) | (simp; omega))])
  have r6 : W.heap[w.heap.size + 1 + 1 + 1 + 1 + 1 + 1]? = some (.cells #[.int .i64 0, .int .i64 0, .int .i64 0] 123) := by
    rw [<- hW]
    repeat (first | exact heap_at _ _ _ (by first | (simp; done) | (simp; omega)) | rw [Below.heap_alloc _ _ _ (by first | (simp; done) | (simp; omega))])
  have KS : Hid (∀ w', A3 W w.heap.size w' -> A3 W w.heap.size w' /\ w'.cell? ⟨w.heap.size + 1 + 1 + 1, 0, none⟩ = some (.int .i64 1) /\ w'.cell? ⟨w.heap.size + 1 + 1 + 1, 1, none⟩ = some (.int .i64 0) /\ w'.cell? ⟨w.heap.size + 1 + 1 + 1, 2, none⟩ = some (.int .i64 0) /\ w'.cell? ⟨w.heap.size + 1 + 1 + 1 + 1, 0, none⟩ = some (.int .i64 0) /\ w'.cell? ⟨w.heap.size + 1 + 1 + 1 + 1, 1, none⟩ = some (.int .i64 1) /\ w'.cell? ⟨w.heap.size + 1 + 1 + 1 + 1, 2, none⟩ = some (.int .i64 0) /\ w'.cell? ⟨w.heap.size + 1 + 1 + 1 + 1 + 1, 0, none⟩ = some (.int .i64 0) /\ w'.cell? ⟨w.heap.size + 1 + 1 + 1 + 1 + 1, 1, none⟩ = some (.int .i64 0) /\ w'.cell? ⟨w.heap.size + 1 + 1 + 1 + 1 + 1, 2, none⟩ = some (.int .i64 1) /\ w'.cell? ⟨w.heap.size + 1 + 1 + 1 + 1 + 1 + 1, 0, none⟩ = some (.int .i64 0) /\ w'.cell? ⟨w.heap.size + 1 + 1 + 1 + 1 + 1 + 1, 1, none⟩ = some (.int .i64 0) /\ w'.cell? ⟨w.heap.size + 1 + 1 + 1 + 1 + 1 + 1, 2, none⟩ = some (.int .i64 0) /\ w'.frozen? ⟨w.heap.size, 0, none⟩ = false /\ w'.frozen? ⟨w.heap.size, 1, none⟩ = false /\ w'.frozen? ⟨w.heap.size, 2, none⟩ = false /\ w'.frozen? ⟨w.heap.size + 1, 0, none⟩ = false /\ w'.frozen? ⟨w.heap.size + 1, 1, none⟩ = false /\ w'.frozen? ⟨w.heap.size + 1, 2, none⟩ = false /\ w'.frozen? ⟨w.heap.size + 1 + 1, 0, none⟩ = false /\ w'.frozen? ⟨w.heap.size + 1 + 1, 1, none⟩ = false /\ w'.frozen? ⟨w.heap.size + 1 + 1, 2, none⟩ = false /\ w'.cell? ⟨w.heap.size, 0, none⟩ = some (rv w' (w.heap.size) 0) /\ w'.cell? ⟨w.heap.size, 1, none⟩ = some (rv w' (w.heap.size) 1) /\ w'.cell? ⟨w.heap.size, 2, none⟩ = some (rv w' (w.heap.size) 2) /\ w'.cell? ⟨w.heap.size + 1, 0, none⟩ = some (rv w' (w.heap.size + 1) 0) /\ w'.cell? ⟨w.heap.size + 1, 1, none⟩ = some (rv w' (w.heap.size + 1) 1) /\ w'.cell? ⟨w.heap.size + 1, 2, none⟩ = some (rv w' (w.heap.size + 1) 2) /\ w'.cell? ⟨w.heap.size + 1 + 1, 0, none⟩ = some (rv w' (w.heap.size + 1 + 1) 0) /\ w'.cell? ⟨w.heap.size + 1 + 1, 1, none⟩ = some (rv w' (w.heap.size + 1 + 1) 1) /\ w'.cell? ⟨w.heap.size + 1 + 1, 2, none⟩ = some (rv w' (w.heap.size + 1 + 1) 2)) := by
    intro w' hw
    obtain ⟨-, p0, p1, p2⟩ := rowfacts (hw.heap (by omega) r3)
    obtain ⟨-, p3, p4, p5⟩ := rowfacts (hw.heap (by omega) r4)
    obtain ⟨-, p6, p7, p8⟩ := rowfacts (hw.heap (by omega) r5)
    obtain ⟨-, p9, p10, p11⟩ := rowfacts (hw.heap (by omega) r6)
    obtain ⟨⟨f0, f1, f2⟩, c0, c1, c2⟩ := hw.facts 0 (by omega)
    obtain ⟨⟨f3, f4, f5⟩, c3, c4, c5⟩ := hw.facts 1 (by omega)
    obtain ⟨⟨f6, f7, f8⟩, c6, c7, c8⟩ := hw.facts 2 (by omega)
    exact ⟨hw, p0, p1, p2, p3, p4, p5, p6, p7, p8, p9, p10, p11, f0, f1, f2, f3, f4, f5, f6, f7, f8, c0, c1, c2, c3, c4, c5, c6, c7, c8⟩
  have A0 : A3 W w.heap.size W := (Ab.refl W).a3 (fun j hj => by
    rcases (show j = 0 \/ j = 1 \/ j = 2 by omega) with rfl | rfl | rfl
    · exact ⟨_, _, _, r0⟩
    · exact ⟨_, _, _, r1⟩
    · exact ⟨_, _, _, r2⟩)
  clear r0 r1 r2 r3 r4 r5 r6 hW
  go_region_held3 (fun w' => A3 W w.heap.size w' /\ w'.cell? ⟨w.heap.size + 1 + 1 + 1, 0, none⟩ = some (.int .i64 1) /\ w'.cell? ⟨w.heap.size + 1 + 1 + 1, 1, none⟩ = some (.int .i64 0) /\ w'.cell? ⟨w.heap.size + 1 + 1 + 1, 2, none⟩ = some (.int .i64 0) /\ w'.cell? ⟨w.heap.size + 1 + 1 + 1 + 1, 0, none⟩ = some (.int .i64 0) /\ w'.cell? ⟨w.heap.size + 1 + 1 + 1 + 1, 1, none⟩ = some (.int .i64 1) /\ w'.cell? ⟨w.heap.size + 1 + 1 + 1 + 1, 2, none⟩ = some (.int .i64 0) /\ w'.cell? ⟨w.heap.size + 1 + 1 + 1 + 1 + 1, 0, none⟩ = some (.int .i64 0) /\ w'.cell? ⟨w.heap.size + 1 + 1 + 1 + 1 + 1, 1, none⟩ = some (.int .i64 0) /\ w'.cell? ⟨w.heap.size + 1 + 1 + 1 + 1 + 1, 2, none⟩ = some (.int .i64 1) /\ w'.cell? ⟨w.heap.size + 1 + 1 + 1 + 1 + 1 + 1, 0, none⟩ = some (.int .i64 0) /\ w'.cell? ⟨w.heap.size + 1 + 1 + 1 + 1 + 1 + 1, 1, none⟩ = some (.int .i64 0) /\ w'.cell? ⟨w.heap.size + 1 + 1 + 1 + 1 + 1 + 1, 2, none⟩ = some (.int .i64 0) /\ w'.frozen? ⟨w.heap.size, 0, none⟩ = false /\ w'.frozen? ⟨w.heap.size, 1, none⟩ = false /\ w'.frozen? ⟨w.heap.size, 2, none⟩ = false /\ w'.frozen? ⟨w.heap.size + 1, 0, none⟩ = false /\ w'.frozen? ⟨w.heap.size + 1, 1, none⟩ = false /\ w'.frozen? ⟨w.heap.size + 1, 2, none⟩ = false /\ w'.frozen? ⟨w.heap.size + 1 + 1, 0, none⟩ = false /\ w'.frozen? ⟨w.heap.size + 1 + 1, 1, none⟩ = false /\ w'.frozen? ⟨w.heap.size + 1 + 1, 2, none⟩ = false /\ w'.cell? ⟨w.heap.size, 0, none⟩ = some (rv w' (w.heap.size) 0) /\ w'.cell? ⟨w.heap.size, 1, none⟩ = some (rv w' (w.heap.size) 1) /\ w'.cell? ⟨w.heap.size, 2, none⟩ = some (rv w' (w.heap.size) 2) /\ w'.cell? ⟨w.heap.size + 1, 0, none⟩ = some (rv w' (w.heap.size + 1) 0) /\ w'.cell? ⟨w.heap.size + 1, 1, none⟩ = some (rv w' (w.heap.size + 1) 1) /\ w'.cell? ⟨w.heap.size + 1, 2, none⟩ = some (rv w' (w.heap.size + 1) 2) /\ w'.cell? ⟨w.heap.size + 1 + 1, 0, none⟩ = some (rv w' (w.heap.size + 1 + 1) 0) /\ w'.cell? ⟨w.heap.size + 1 + 1, 1, none⟩ = some (rv w' (w.heap.size + 1 + 1) 1) /\ w'.cell? ⟨w.heap.size + 1 + 1, 2, none⟩ = some (rv w' (w.heap.size + 1 + 1) 2)) ((refine KS.out _ ?_; (with_reducible (repeat (first | assumption | apply A3.drew | apply A3.set0 | apply A3.set1 | apply A3.set2 | (refine A3.call ?_ (by assumption))))); done)) ((go_at_call 129; refine (Tz.out _).mono ?_; rintro e w1 ⟨rfl, b1⟩))
  have A2 := A0.drew.call b1
  obtain ⟨s0, s1, s2, s3⟩ := rows3 (x0 := .int .i64 (cC 5).1) (x1 := .int .i64 (cC 5).2.1) (x2 := .int .i64 (cC 5).2.2) (y0 := .int .i64 (cR 5).1) (y1 := .int .i64 (cR 5).2.1) (y2 := .int .i64 (cR 5).2.2) (z0 := .int .i64 (cU 5).1) (z1 := .int .i64 (cU 5).2.1) (z2 := .int .i64 (cU 5).2.2) A2
  have S0 := hid s0
  have S1 := hid s1
  have S2 := hid s2
  have S3 := hid s3
  clear KS A0 A2 s0 s1 s2 s3
  go_wp2
  refine bodyPost_ret ?_ rfl ⟨rfl, ?_⟩
  · exact results_cell3 Tryz.results100 _ _ w.heap.size (w.heap.size + 1) (w.heap.size + 1 + 1) _ _ _ _ _ rfl rfl rfl S0.out S1.out S2.out Tryz.underlying123 rfl (by kernel_rfl) (by kernel_rfl) (by kernel_rfl)
  · exact S3.out.ab AW.out (Nat.le_refl _)
theorem rframe_at (f : Nat) (w : World) (hf : f < 6) : Calls Tryz.prog 100 #[.int .i64 f] w fun e w' => e = .returned (.tuple #[.agg #[.int .i64 (cC f).1, .int .i64 (cC f).2.1, .int .i64 (cC f).2.2], .agg #[.int .i64 (cR f).1, .int .i64 (cR f).2.1, .int .i64 (cR f).2.2], .agg #[.int .i64 (cU f).1, .int .i64 (cU f).2.1, .int .i64 (cU f).2.2]]) /\ Below w.heap.size w w' := by
  rcases six hf with rfl | rfl | rfl | rfl | rfl | rfl
  · exact rframe0 w
  · exact rframe1 w
  · exact rframe2 w
  · exact rframe3 w
  · exact rframe4 w
  · exact rframe5 w
end Go.Proofs.YtdigecacmibkpaaGreatDoor

namespace Go.Proofs.YtdigecacmibkpaaGreatDoor
open Go.RowKit Cu
theorem pl_zero (q : P3) : pl (0, 0, 0) q = q := by simp [pl]
end Go.Proofs.YtdigecacmibkpaaGreatDoor
