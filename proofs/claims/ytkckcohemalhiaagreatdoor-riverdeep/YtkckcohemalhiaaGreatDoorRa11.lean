/-
  Some of the texts of this proof, one behind the other.
-/
import Derived.BigRegion
import Derived.Test.YtkckcohemalhiaaGreatDoorRa10
namespace Go.Proofs.YtkckcohemalhiaaGreatDoor
open Go.RowKit Tf Cu Go.Deep
namespace Rv
/-- all blocks of V that are not of P are in w as they were -/
def AbQ (V : World) (P : Nat → Prop) (w : World) : Prop := w.os = V.os ∧ w.tape = V.tape ∧ w.output = V.output ∧ V.heap.size ≤ w.heap.size ∧ ∀ k, k < V.heap.size → ¬ P k → w.heap[k]? = V.heap[k]?
theorem AbQ.refl (V : World) (P : Nat → Prop) : AbQ V P V := ⟨rfl, rfl, rfl, Nat.le_refl _, fun _ _ _ => rfl⟩
theorem AbQ.to {V w w' : World} {P : Nat → Prop} (h : AbQ V P w) (a : Ab w w') : AbQ V P w' := by
  obtain ⟨h1, h2, h3, h4, h5⟩ := h
  exact ⟨a.os.trans h1, a.tape.trans h2, a.output.trans h3, Nat.le_trans h4 a.size, fun k hk hp => (a.block k (by omega)).trans (h5 k hk hp)⟩
theorem AbQ.set {V w : World} {P : Nat → Prop} (h : AbQ V P w) {g k : Nat} (hp : P g ∨ V.heap.size ≤ g) (v : Value) : AbQ V P (w.setCell ⟨g, k, none⟩ v) := by
  obtain ⟨h1, h2, h3, h4, h5⟩ := h
  refine ⟨h1, h2, h3, by simpa [World.setCell] using h4, fun i hi hn => (Below.heap_setCell _ _ _ _ (fun e => ?_)).trans (h5 i hi hn)⟩
  have e2 : i = g := e
  rcases hp with h | h
  · exact hn (by rw [e2]; exact h)
  · omega
theorem AbQ.grown {V wr w' : World} {P : Nat → Prop} {row : Option Nat} (h : AbQ V P wr) (hg : wr.grownBy w' row) (hr : ∀ b, row = some b → P b ∨ V.heap.size ≤ b) : AbQ V P w' := by
  obtain ⟨h1, h2, h3, h4, h5⟩ := h
  refine ⟨hg.os.trans h1, hg.tape.trans h2, hg.output.trans h3, by have := hg.size; omega, fun k hk hn => ?_⟩
  refine (hg.block k (by omega) (fun e => ?_)).trans (h5 k hk hn)
  rcases hr k e.symm with h6 | h6
  · exact hn h6
  · omega
theorem AbQ.ab {w0 V w : World} {P : Nat → Prop} (h : AbQ V P w) (a : Ab w0 V) (hp : ∀ k, k < w0.heap.size → ¬ P k) : Ab w0 w := by
  obtain ⟨h1, h2, h3, h4, h5⟩ := h
  exact ⟨h1.trans a.os, h2.trans a.tape, h3.trans a.output, Nat.le_trans (Below.size a) h4, fun k hk => (h5 k (Nat.lt_of_lt_of_le hk (Below.size a)) (hp k hk)).trans (a.block k hk)⟩
theorem AbQ.isI {V w : World} {P : Nat → Prop} {p : Option Addr} {n : Nat} {f : Nat → Int} (a : AbQ V P w) (h : Sh.IsI V p n f) (hp : ∀ b o, p = some ⟨b, o, none⟩ → ¬ P b) : Sh.IsI w p n f := fun k hk => by
  obtain ⟨h1, b, o, h2, h3, h4⟩ := h k hk
  exact ⟨h1, b, o, h2, Nat.lt_of_lt_of_le h3 a.2.2.2.1, (World.cell?_of_block (a.2.2.2.2 b h3 (hp b o h2))).trans h4⟩
theorem AbQ.isFl {V w : World} {P : Nat → Prop} {p : Option Addr} {n : Nat} {f : Nat → Nat} (a : AbQ V P w) (h : IsFl V p n f) (hp : ∀ b o, p = some ⟨b, o, none⟩ → ¬ P b) : IsFl w p n f := fun k hk => by
  obtain ⟨h1, b, o, h2, h3, h4⟩ := h k hk
  exact ⟨h1, b, o, h2, Nat.lt_of_lt_of_le h3 a.2.2.2.1, (World.cell?_of_block (a.2.2.2.2 b h3 (hp b o h2))).trans h4⟩
/-- a list of the call's own, of whatever kind of whole numbers -/
def OT (t : TypeId) (B : Nat) (v : Value) (l : List Int) (w : World) : Prop := w.ownsRow B t 1 v l.length (l.map (Value.int .i64))
theorem OT.ofN {B : Nat} {v : Value} {l : List Nat} {w : World} (h : OwnN B v l w) : OT 3 B v (l.map fun c => ((c : Nat) : Int)) w := by
  unfold OT
  rw [List.length_map, List.map_map]
  exact h
theorem OT.mono {t : TypeId} {B C : Nat} {v : Value} {l : List Int} {w : World} (h : OT t B v l w) (hc : C ≤ B) : OT t C v l w := by
  rcases h.2 with ⟨q, e⟩ | ⟨g, cap, cur, q, hb, rest⟩
  · exact ⟨h.1, .inl ⟨q, e⟩⟩
  · exact ⟨h.1, .inr ⟨g, cap, cur, q, Nat.le_trans hc hb, rest⟩⟩
theorem OT.val {t : TypeId} {B : Nat} {v : Value} {l : List Int} {w : World} (h : OT t B v l w) : ∃ p cap, v = .slice p l.length cap := by
  rcases h.2 with ⟨q, e⟩ | ⟨g, cap, cur, q, hb, rest⟩
  · exact ⟨none, 0, by rw [q, e]⟩
  · exact ⟨_, cap, q⟩
theorem OT.blk {t : TypeId} {B : Nat} {v : Value} {l : List Int} {w : World} (h : OT t B v l w) {k : Nat} (hk : v.ownBlock = some k) : B ≤ k ∧ k < w.heap.size := World.ownsRow.lt h k hk
theorem OT.at {t : TypeId} {B : Nat} {v : Value} {l : List Int} {w : World} (h : OT t B v l w) {c : Nat} (hc : c < l.length) :
    ∃ g cap, v = .slice (some ⟨g, 0, none⟩) l.length cap ∧ w.cell? ⟨g, c, none⟩ = some (.int .i64 (l.getD c 0)) ∧ w.frozen? ⟨g, c, none⟩ = false ∧ ∀ x, OT t B v (l.set c x) (w.setCell ⟨g, c, none⟩ (.int .i64 x)) := by
  rcases h.2 with ⟨q, e⟩ | ⟨g, cap, cur, q, hb, hg, h1, h2, h3, h4⟩
  · omega
  · have e2 := World.ownsRow.cells (g := g) h (by rw [q]; rfl) c (.int .i64 (l.getD c 0)) (by simp [hc, List.getD])
    rw [Sh.add_off, Nat.zero_add] at e2
    refine ⟨g, cap, q, e2, by simp [World.frozen?, hg], fun x => ⟨by simp, .inr ⟨g, cap, cur.setIfInBounds c (.int .i64 x), by rw [List.length_set]; exact q, hb, one_set hg, by rw [List.length_set]; exact h1, h2, by simpa using h3, ?_⟩⟩⟩
    rw [List.length_set, Array.toList_setIfInBounds, List.take_set, h4, List.map_set]
theorem OT.blkeq {t : TypeId} {B : Nat} {v : Value} {l : List Int} {w w' : World} (h : OT t B v l w) (e : ∀ k, v.ownBlock = some k → w'.heap[k]? = w.heap[k]?) : OT t B v l w' := by
  rcases h.2 with ⟨q, e2⟩ | ⟨g, cap, cur, q, hb, hg, rest⟩
  · exact ⟨h.1, .inl ⟨q, e2⟩⟩
  · exact ⟨h.1, .inr ⟨g, cap, cur, q, hb, (e g (by rw [q]; rfl)).trans hg, rest⟩⟩
theorem OT.grown {t : TypeId} {B : Nat} {v : Value} {l : List Int} {w w' : World} {row : Option Nat} (h : OT t B v l w) (x : w.grownBy w' row) (hg : ∀ k, v.ownBlock = some k → row ≠ some k) : OT t B v l w' := h.blkeq (fun k hk => x.block k (h.blk hk).2 (fun e => hg k hk e.symm))
theorem OT.to {t : TypeId} {B : Nat} {v : Value} {l : List Int} {w w' : World} (h : OT t B v l w) (a : Ab w w') : OT t B v l w' := h.blkeq (fun k hk => a.block k (h.blk hk).2)
theorem OT.isI {t : TypeId} {B : Nat} {v : Value} {l : List Int} {w : World} (h : OT t B v l w) (hl : ∀ x ∈ l, -9223372036854775808 ≤ x ∧ x ≤ 9223372036854775807) : ∃ p cap, v = .slice p l.length cap ∧ Sh.IsI w p l.length (fun j => l.getD j 0) := by
  rcases h.2 with ⟨q, e2⟩ | ⟨g, cap, cur, q, hb, hg, rest⟩
  · exact ⟨none, 0, by rw [q, e2], fun k hk => by omega⟩
  · refine ⟨_, cap, q, fun k hk => ⟨?_, g, 0, rfl, lt_of_block hg, ?_⟩⟩
    · have e : l.getD k 0 = l[k] := by simp [List.getD, hk]
      dsimp only
      rw [e]
      exact hl _ (List.getElem_mem hk)
    · have e := World.ownsRow.cells (g := g) h (by rw [q]; rfl) k (.int .i64 (l.getD k 0)) (by simp [hk, List.getD])
      rw [Sh.add_off] at e
      exact e
theorem infoN : (Tryz.prog.info? 3).map (fun i => (i.zero, i.size, i.bytes)) = some (some (.int .i64 0), 1, 8) := by kernel_rfl
theorem OT.new {t : TypeId} (w : World) (B : Nat) (hB : B ≤ w.heap.size) : OT t B (.slice (some ⟨w.heap.size, 0, none⟩) 0 0) [] (w.alloc (.cells #[] t)) :=
  ⟨by simp, .inr ⟨w.heap.size, 0, #[], rfl, hB, heap_alloc_new _ _, Nat.le_refl _, by unfold maxLen; omega, by simp, by simp⟩⟩
theorem lt_of_get {w : World} {b : Nat} {o : Obj} (h : w.heap[b]? = some o) : b < w.heap.size := by
  rcases Nat.lt_or_ge b w.heap.size with h1 | h1
  · exact h1
  · rw [Array.getElem?_eq_none h1] at h; cases h
theorem AbQ.heap {V w : World} {P : Nat → Prop} (a : AbQ V P w) {b : Nat} {o : Obj} (h : V.heap[b]? = some o) (hp : ¬ P b) : w.heap[b]? = some o := (a.2.2.2.2 b (lt_of_get h) hp).trans h
end Rv
end Go.Proofs.YtkckcohemalhiaaGreatDoor

namespace Go.Proofs.YtkckcohemalhiaaGreatDoor
open Go.RowKit Tf Cu Go.Deep
attribute [local go_sem] run_bits run_from raw_feq raw_fne raw_flt raw_fgt run_neg run_store_float
namespace Rv
set_option maxRecDepth 100000 in
set_option maxHeartbeats 8000000 in
theorem fitw19 (gb : Nat) (pb pw pt ps : Option Addr) (lb cb lw cw lt ct ls cs : Nat) (sky st : Int) (M N : Nat) (q : Bool) (w : World)
    (hq : (((lb : Int) == (M : Int)) = false ∧ q = false) ∨ (((lb : Int) == (M : Int)) = true ∧ ((lw : Int) == (M : Int)) = false ∧ q = false) ∨ (((lb : Int) == (M : Int)) = true ∧ ((lw : Int) == (M : Int)) = true ∧ ((lt : Int) == (M : Int)) = false ∧ q = false) ∨ (((lb : Int) == (M : Int)) = true ∧ ((lw : Int) == (M : Int)) = true ∧ ((lt : Int) == (M : Int)) = true ∧ ((ls : Int) == (N : Int)) = q))
    (CC : Hid (∀ v, Ab w v → Calls Tryz.prog 13 #[(.pointer (some ⟨gb, 0, none⟩))] v fun e w' => e = .returned (.int .i64 (M : Nat)) ∧ Below v.heap.size v w'))
    (CE : Hid (∀ v, Ab w v → Calls Tryz.prog 61 #[(.pointer (some ⟨gb, 0, none⟩))] v fun e w' => e = .returned (.int .i64 (N : Nat)) ∧ Below v.heap.size v w')) :
    Calls Tryz.prog 35 #[(.pointer (some ⟨gb, 0, none⟩)), .agg #[.slice pb lb cb, .slice pw lw cw, .slice pt lt ct, .slice ps ls cs, .int .i64 sky, .int .i64 st]] w fun e w' => e = .returned (.bool q) ∧ Below w.heap.size w w' := by
  have A0 : Hid (Ab w (w.alloc (.cells #[.slice pb lb cb, .slice pw lw cw, .slice pt lt ct, .slice ps ls cs, .int .i64 sky, .int .i64 st] 25))) := bl1 _ _
  have RO : Hid ((w.alloc (.cells #[.slice pb lb cb, .slice pw lw cw, .slice pt lt ct, .slice ps ls cs, .int .i64 sky, .int .i64 st] 25)).heap[w.heap.size]? = some (.cells #[.slice pb lb cb, .slice pw lw cw, .slice pt lt ct, .slice ps ls cs, .int .i64 sky, .int .i64 st] 25)) := heap_alloc_new _ _
  go_enter Tryz.func35, Tryz.ntmps35
  go_wp2_with fail
  refine (CC.out _ A0.out).mono ?_
  rintro e9 v1 ⟨rfl, b1⟩
  have A1 : Hid (Ab w v1) := A0.out.call b1
  have R1 : Hid (v1.heap[w.heap.size]? = some (.cells #[.slice pb lb cb, .slice pw lw cw, .slice pt lt ct, .slice ps ls cs, .int .i64 sky, .int .i64 st] 25)) := Ab.heap b1 RO.out
  clear b1 A0 RO
  go_upto_region 2 with fail
  obtain ⟨gs, hgs⟩ : ∃ g, w.heap.size = g := ⟨_, rfl⟩
  rw [hgs] at R1 ⊢
  clear hgs
  rcases hq with ⟨q1, rfl⟩ | ⟨q1, q2, rfl⟩ | ⟨q1, q2, q3, rfl⟩ | ⟨q1, q2, q3, q4⟩
  · obtain ⟨UU, E, hF1, hF2⟩ := cls v1
    have HU := hid hF2
    have HU1 := hid hF1
    have HX : Hid (∀ u, Ab w (E u)) := fun u => Ab.trans A1.out (hF1 u)
    have s0 : ∀ u, (E u).cell? ⟨gs, 0, none⟩ = some (.slice pb lb cb) := fun u => cell_of_row _ _ 0 _ _ _ ((hF1 u).heap R1.out)
    have s1 : ∀ u, (E u).cell? ⟨gs, 1, none⟩ = some (.slice pw lw cw) := fun u => cell_of_row _ _ 1 _ _ _ ((hF1 u).heap R1.out)
    have s2 : ∀ u, (E u).cell? ⟨gs, 2, none⟩ = some (.slice pt lt ct) := fun u => cell_of_row _ _ 2 _ _ _ ((hF1 u).heap R1.out)
    have s3 : ∀ u, (E u).cell? ⟨gs, 3, none⟩ = some (.slice ps ls cs) := fun u => cell_of_row _ _ 3 _ _ _ ((hF1 u).heap R1.out)
    have DD0 := HU.out _ (Ab.refl v1).drew
    clear hF1 hF2
    refine region_cls E (by kernel_rfl) (by kernel_rfl) DD0 ?_
    repeat (go_big_quiet_step (first
      | (with_reducible rfl)
      | (go_at_call 61; exact calls_cls HU HU1 (CE.out _ (HX.out _)))))
    refine wpQuiet_nil ?_
    intro z hwz
    obtain ⟨u0, hu⟩ := hwz
    have AZ : Hid (Ab w z) := by rw [hu]; exact HX.out u0
    clear hu u0
    clear HU HU1 HX DD0 s0 s1 s2 s3
    clear E UU
    go_wp2
    go_ret
    exact ⟨rfl, AZ.out⟩
  · obtain ⟨UU, E, hF1, hF2⟩ := cls v1
    have HU := hid hF2
    have HU1 := hid hF1
    have HX : Hid (∀ u, Ab w (E u)) := fun u => Ab.trans A1.out (hF1 u)
    have s0 : ∀ u, (E u).cell? ⟨gs, 0, none⟩ = some (.slice pb lb cb) := fun u => cell_of_row _ _ 0 _ _ _ ((hF1 u).heap R1.out)
    have s1 : ∀ u, (E u).cell? ⟨gs, 1, none⟩ = some (.slice pw lw cw) := fun u => cell_of_row _ _ 1 _ _ _ ((hF1 u).heap R1.out)
    have s2 : ∀ u, (E u).cell? ⟨gs, 2, none⟩ = some (.slice pt lt ct) := fun u => cell_of_row _ _ 2 _ _ _ ((hF1 u).heap R1.out)
    have s3 : ∀ u, (E u).cell? ⟨gs, 3, none⟩ = some (.slice ps ls cs) := fun u => cell_of_row _ _ 3 _ _ _ ((hF1 u).heap R1.out)
    have DD0 := HU.out _ (Ab.refl v1).drew
    clear hF1 hF2
    refine region_cls E (by kernel_rfl) (by kernel_rfl) DD0 ?_
    repeat (go_big_quiet_step (first
      | (with_reducible rfl)
      | (go_at_call 61; exact calls_cls HU HU1 (CE.out _ (HX.out _)))))
    refine wpQuiet_nil ?_
    intro z hwz
    obtain ⟨u0, hu⟩ := hwz
    have AZ : Hid (Ab w z) := by rw [hu]; exact HX.out u0
    clear hu u0
    clear HU HU1 HX DD0 s0 s1 s2 s3
    clear E UU
    go_wp2
    go_ret
    exact ⟨rfl, AZ.out⟩
  · obtain ⟨UU, E, hF1, hF2⟩ := cls v1
    have HU := hid hF2
    have HU1 := hid hF1
    have HX : Hid (∀ u, Ab w (E u)) := fun u => Ab.trans A1.out (hF1 u)
    have s0 : ∀ u, (E u).cell? ⟨gs, 0, none⟩ = some (.slice pb lb cb) := fun u => cell_of_row _ _ 0 _ _ _ ((hF1 u).heap R1.out)
    have s1 : ∀ u, (E u).cell? ⟨gs, 1, none⟩ = some (.slice pw lw cw) := fun u => cell_of_row _ _ 1 _ _ _ ((hF1 u).heap R1.out)
    have s2 : ∀ u, (E u).cell? ⟨gs, 2, none⟩ = some (.slice pt lt ct) := fun u => cell_of_row _ _ 2 _ _ _ ((hF1 u).heap R1.out)
    have s3 : ∀ u, (E u).cell? ⟨gs, 3, none⟩ = some (.slice ps ls cs) := fun u => cell_of_row _ _ 3 _ _ _ ((hF1 u).heap R1.out)
    have DD0 := HU.out _ (Ab.refl v1).drew
    clear hF1 hF2
    refine region_cls E (by kernel_rfl) (by kernel_rfl) DD0 ?_
    repeat (go_big_quiet_step (first
      | (with_reducible rfl)
      | (go_at_call 61; exact calls_cls HU HU1 (CE.out _ (HX.out _)))))
    refine wpQuiet_nil ?_
    intro z hwz
    obtain ⟨u0, hu⟩ := hwz
    have AZ : Hid (Ab w z) := by rw [hu]; exact HX.out u0
    clear hu u0
    clear HU HU1 HX DD0 s0 s1 s2 s3
    clear E UU
    go_wp2
    go_ret
    exact ⟨rfl, AZ.out⟩
  · obtain ⟨UU, E, hF1, hF2⟩ := cls v1
    have HU := hid hF2
    have HU1 := hid hF1
    have HX : Hid (∀ u, Ab w (E u)) := fun u => Ab.trans A1.out (hF1 u)
    have s0 : ∀ u, (E u).cell? ⟨gs, 0, none⟩ = some (.slice pb lb cb) := fun u => cell_of_row _ _ 0 _ _ _ ((hF1 u).heap R1.out)
    have s1 : ∀ u, (E u).cell? ⟨gs, 1, none⟩ = some (.slice pw lw cw) := fun u => cell_of_row _ _ 1 _ _ _ ((hF1 u).heap R1.out)
    have s2 : ∀ u, (E u).cell? ⟨gs, 2, none⟩ = some (.slice pt lt ct) := fun u => cell_of_row _ _ 2 _ _ _ ((hF1 u).heap R1.out)
    have s3 : ∀ u, (E u).cell? ⟨gs, 3, none⟩ = some (.slice ps ls cs) := fun u => cell_of_row _ _ 3 _ _ _ ((hF1 u).heap R1.out)
    have DD0 := HU.out _ (Ab.refl v1).drew
    clear hF1 hF2
    refine region_cls E (by kernel_rfl) (by kernel_rfl) DD0 ?_
    repeat (go_big_quiet_step (first
      | (with_reducible rfl)
      | (go_at_call 61; exact calls_cls HU HU1 (CE.out _ (HX.out _)))))
    refine wpQuiet_nil ?_
    intro z hwz
    obtain ⟨u0, hu⟩ := hwz
    have AZ : Hid (Ab w z) := by rw [hu]; exact HX.out u0
    clear hu u0
    clear HU HU1 HX DD0 s0 s1 s2 s3
    clear E UU
    go_wp2
    go_ret
    exact ⟨rfl, AZ.out⟩
theorem fits19_at (gb : Nat) (pb pw pt ps : Option Addr) (lb cb lw cw lt ct ls cs : Nat) (sky st : Int) {n : Nat} (q : Bool) (w : World) (g : GridOf n gb w) (hq : q = true ↔ (lb = 6 * n * n ∧ lw = 6 * n * n ∧ lt = 6 * n * n ∧ ls = 12 * n * n)) :
    Calls Tryz.prog 35 #[.pointer (some ⟨gb, 0, none⟩), .agg #[.slice pb lb cb, .slice pw lw cw, .slice pt lt ct, .slice ps ls cs, .int .i64 sky, .int .i64 st]] w fun e w' => e = .returned (.bool q) ∧ Below w.heap.size w w' := by
  refine fitw19 gb pb pw pt ps lb cb lw cw lt ct ls cs sky st (6 * n * n) (12 * n * n) q w ?_ (fun v hv => (gCells_at (g.to hv)).mono fun _ _ h => ⟨h.1, by obtain ⟨_, rfl⟩ := h; exact Below.refl _ _⟩) (fun v hv => (gEdges_at (g.to hv)).mono fun _ _ h => ⟨h.1, by obtain ⟨_, rfl⟩ := h; exact Below.refl _ _⟩)
  have e : ∀ a b : Nat, ((a : Int) == (b : Int)) = decide (a = b) := fun a b => by rw [Bool.eq_iff_iff]; simp; omega
  have qf : ¬ (lb = 6 * n * n ∧ lw = 6 * n * n ∧ lt = 6 * n * n ∧ ls = 12 * n * n) → q = false := fun h => by
    cases hc : q
    · rfl
    · exact absurd (hq.1 hc) h
  rw [e, e, e, e]
  by_cases c1 : lb = 6 * n * n
  · by_cases c2 : lw = 6 * n * n
    · by_cases c3 : lt = 6 * n * n
      · refine .inr (.inr (.inr ⟨decide_eq_true c1, decide_eq_true c2, decide_eq_true c3, ?_⟩))
        rw [Bool.eq_iff_iff, decide_eq_true_eq, hq]
        exact ⟨fun h => ⟨c1, c2, c3, h⟩, fun h => h.2.2.2⟩
      · exact .inr (.inr (.inl ⟨decide_eq_true c1, decide_eq_true c2, decide_eq_false c3, qf (fun h => c3 h.2.2.1)⟩))
    · exact .inr (.inl ⟨decide_eq_true c1, decide_eq_false c2, qf (fun h => c2 h.2.1)⟩)
  · exact .inl ⟨decide_eq_false c1, qf (fun h => c1 h.1)⟩
set_option maxRecDepth 100000 in
set_option maxHeartbeats 16000000 in
theorem canbe_yes (p : Option Addr) (N c : Nat) (f : Nat → Int) (w : World) (hN : N ≤ 6144) (hf : Sh.IsI w p N f) (OK : Hid (okV N f)) :
    Calls Tryz.prog 36 #[.slice p N c] w fun e w' => e = .returned (.bool true) ∧ Below w.heap.size w w' := by
  have HF := hid hf
  have HN := hid hN
  clear hf hN
  go_enter Tryz.func36, Tryz.ntmps36
  go_wp2
  go_loopw [3, 8] (fun sv iv wr => ∃ k : Nat, k ≤ N ∧ iv = .int .i64 (k : Nat) ∧ sv = .int .i64 (4503599627370496 - Sh.sumN f k) ∧ (0 ≤ Sh.sumN f k ∧ Sh.sumN f k ≤ 4503599627370496) ∧ wr = w) (fun _ iv _ => N - (intOf iv).toNat)
  case atStart => exact ⟨0, by omega, rfl, rfl, ⟨Int.le_refl 0, by show (0 : Int) ≤ _; omega⟩, rfl⟩
  case round =>
    obtain ⟨k, hk, rfl, rfl, hb, hwr⟩ := hrel
    have hwr2 := hwr.symm
    subst hwr2
    have s1 := hb.1
    have s2 := hb.2
    obtain ⟨s, hs⟩ : ∃ s, 4503599627370496 - Sh.sumN f k = s := ⟨_, rfl⟩
    have SE := hid hs
    have s3 : 0 ≤ s := by omega
    have s4 : s ≤ 4503599627370496 := by omega
    rw [hs]
    clear hb
    by_cases hkn : k < N
    · have HK := hid hkn
      have kI : (k : Int) < N := by omega
      have kB : (k : Int) ≤ 6144 := by have := HN.out; omega
      obtain ⟨b0, o0, rfl⟩ := HF.out.some0 (show 0 < N by omega)
      obtain ⟨x, hx⟩ : ∃ x, f k = x := ⟨_, rfl⟩
      have xc := (HF.out.at0 hkn).2.2
      rw [hx] at xc
      have XE := hid hx
      have m3 : Sh.sumN f (k + 1) = Sh.sumN f k + x := by show Sh.sumN f k + f k = _; rw [hx]
      have M3 : Hid (4503599627370496 - Sh.sumN f (k + 1) = s - x) := by show _ = _; rw [m3]; omega
      have m1 := OK.out.1 k hkn
      have m2 := Sh.sumN_mono OK.out.1 (m := k + 1) (by omega)
      have m4 := OK.out.2
      rw [hx] at m1
      have n1 : 0 ≤ s - x := by omega
      have n2 : Hid (0 ≤ Sh.sumN f (k + 1) ∧ Sh.sumN f (k + 1) ≤ 4503599627370496) := ⟨by omega, by omega⟩
      have d1 : decide (x < 0) = false := decide_eq_false (by omega)
      have d2 : decide (s < x) = false := decide_eq_false (by omega)
      clear hx hs m2 m3 m4 hkn hk s1 s2
      go_wp2
      exact ⟨⟨k + 1, by have := HK.out; omega, by simp, by rw [M3.out], n2.out, by first | trivial | rfl⟩, by have := HK.out; simp [intOf]; omega⟩
    · have e6 : N = k := by omega
      subst e6
      go_wp2
      go_ret
      exact ⟨rfl, Below.refl _ _⟩
set_option maxRecDepth 100000 in
set_option maxHeartbeats 16000000 in
theorem canbe_no (p : Option Addr) (N c : Nat) (f : Nat → Int) (w : World) (hN : N ≤ 6144) (hf : Sh.IsI w p N f) (NO : Hid (¬ okV N f)) :
    Calls Tryz.prog 36 #[.slice p N c] w fun e w' => e = .returned (.bool false) ∧ Below w.heap.size w w' := by
  have HF := hid hf
  have HN := hid hN
  clear hf hN
  go_enter Tryz.func36, Tryz.ntmps36
  go_wp2
  go_loopw [3, 8] (fun sv iv wr => ∃ k : Nat, k ≤ N ∧ iv = .int .i64 (k : Nat) ∧ sv = .int .i64 (4503599627370496 - Sh.sumN f k) ∧ (0 ≤ Sh.sumN f k ∧ Sh.sumN f k ≤ 4503599627370496) ∧ (∀ i, i < k → 0 ≤ f i) ∧ wr = w) (fun _ iv _ => N - (intOf iv).toNat)
  case atStart => exact ⟨0, by omega, rfl, rfl, ⟨Int.le_refl 0, by show (0 : Int) ≤ _; omega⟩, fun i hi => absurd hi (Nat.not_lt_zero i), rfl⟩
  case round =>
    obtain ⟨k, hk, rfl, rfl, hb, g1, hwr⟩ := hrel
    have hwr2 := hwr.symm
    subst hwr2
    have G1 := hid g1
    clear g1
    have s1 := hb.1
    have s2 := hb.2
    obtain ⟨s, hs⟩ : ∃ s, 4503599627370496 - Sh.sumN f k = s := ⟨_, rfl⟩
    have SE := hid hs
    have s3 : 0 ≤ s := by omega
    have s4 : s ≤ 4503599627370496 := by omega
    rw [hs]
    clear hb
    by_cases hkn : k < N
    · have HK := hid hkn
      have kI : (k : Int) < N := by omega
      have kB : (k : Int) ≤ 6144 := by have := HN.out; omega
      obtain ⟨b0, o0, rfl⟩ := HF.out.some0 (show 0 < N by omega)
      obtain ⟨x, hx⟩ : ∃ x, f k = x := ⟨_, rfl⟩
      have xc := (HF.out.at0 hkn).2.2
      rw [hx] at xc
      have XE := hid hx
      have m3 : Sh.sumN f (k + 1) = Sh.sumN f k + x := by show Sh.sumN f k + f k = _; rw [hx]
      have M3 : Hid (4503599627370496 - Sh.sumN f (k + 1) = s - x) := by show _ = _; rw [m3]; omega
      by_cases q1 : x < 0
      · have d1 : decide (x < 0) = true := decide_eq_true q1
        clear hx hs m3 hkn hk s1 s2
        go_wp2
        go_ret
        exact ⟨rfl, Below.refl _ _⟩
      · have d1 : decide (x < 0) = false := decide_eq_false q1
        by_cases q2 : s < x
        · have d2 : decide (s < x) = true := decide_eq_true q2
          clear hx hs m3 hkn hk s1 s2
          go_wp2
          go_ret
          exact ⟨rfl, Below.refl _ _⟩
        · have d2 : decide (s < x) = false := decide_eq_false q2
          have n1 : 0 ≤ s - x := by omega
          have n2 : Hid (0 ≤ Sh.sumN f (k + 1) ∧ Sh.sumN f (k + 1) ≤ 4503599627370496) := ⟨by omega, by omega⟩
          have n3 : 0 ≤ x := by omega
          have G2 : Hid (∀ i, i < k + 1 → 0 ≤ f i) := fun i hi => by
            by_cases l : i < k
            · exact G1.out i l
            · obtain rfl : i = k := by omega
              rw [XE.out]
              omega
          clear q1 q2 hx hs m3 hkn hk s1 s2
          go_wp2
          exact ⟨⟨k + 1, by have := HK.out; omega, by simp, by rw [M3.out], n2.out, G2.out, by first | trivial | rfl⟩, by have := HK.out; simp [intOf]; omega⟩
    · have e6 : N = k := by omega
      subst e6
      exact absurd ⟨G1.out, s2⟩ NO.out
set_option maxRecDepth 100000 in
set_option maxHeartbeats 16000000 in
theorem runs19_at (x a : Int) (w : World) (h1 : -9223372036854775808 ≤ x ∧ x ≤ 9223372036854775807) (h2 : a ≤ 9223372036854775807) :
    Calls Tryz.prog 38 #[.int .i64 x, .int .i64 a] w fun e w' => e = .returned (.bool (decide (0 < x) && flt (dpB x a) 4602678819172646912)) ∧ Below w.heap.size w w' := by
  have CD := hid (depth_at x a w h1.2 h2)
  have dl : x ≤ 4503599627370496 → dpB x a < 18446744073709551616 := fun h => by
    have := dp_le (w := x) (a := a) (by omega) h2
    omega
  obtain ⟨d, hd⟩ : ∃ d, dpB x a = d := ⟨_, rfl⟩
  rw [hd] at CD
  rw [hd]
  clear hd dl
  cases e1 : decide (0 < x) with
  | false =>
    clear CD
    go_enter Tryz.func38, Tryz.ntmps38
    go_wp2
    go_ret
    exact ⟨rfl, Below.refl _ _⟩
  | true =>
    go_enter Tryz.func38, Tryz.ntmps38
    go_wp2_with fail
    refine CD.out.mono ?_
    rintro e9 v9 ⟨rfl, k, rfl⟩
    go_wp2
    go_ret
    exact ⟨rfl, Ab.drewN (Ab.refl w) k⟩
end Rv
end Go.Proofs.YtkckcohemalhiaaGreatDoor

namespace Go.Proofs.YtkckcohemalhiaaGreatDoor
open Go.RowKit
namespace Sh
theorem ret_int {k : IntKind} {a b : Int} (h : a = b) : Ending.returned (.int k a) = .returned (.int k b) := by rw [h]
theorem pow_pos (k : Nat) : 0 < 2 ^ k := Nat.two_pow_pos k
theorem and32 (z : Int) (h0 : 0 ≤ z) (h1 : z < 18446744073709551616) : bits .and .u64 z 4294967295 = z % 4294967296 := by go_bits2
set_option maxHeartbeats 2000000 in
theorem mul64_go (x y x0 x1 y0 y1 a b c d t w1 l : Int) (w : World) (_hx : 0 ≤ x) (_hx1 : x < 18446744073709551616) (_hy : 0 ≤ y) (_hy1 : y < 18446744073709551616)
    (e1 : bits .and .u64 x 4294967295 = x0) (e2 : x / 4294967296 = x1) (e3 : bits .and .u64 y 4294967295 = y0) (e4 : y / 4294967296 = y1)
    (ma : IntKind.u64.wrap (x0 * y0) = a) (mb : IntKind.u64.wrap (x1 * y0) = b) (mc : IntKind.u64.wrap (x0 * y1) = c) (md : IntKind.u64.wrap (x1 * y1) = d) (ml : IntKind.u64.wrap (x * y) = l)
    (a0 : 0 ≤ a) (a1 : a ≤ 18446744065119617025) (b0 : 0 ≤ b) (b1 : b ≤ 18446744065119617025) (c0 : 0 ≤ c) (c1 : c ≤ 18446744065119617025) (d0 : 0 ≤ d) (d1 : d ≤ 18446744065119617025)
    (ht : b + a / 4294967296 = t) (t0 : 0 ≤ t) (t1 : t < 18446744073709551616) (hw : bits .and .u64 t 4294967295 = w1) (w0 : 0 ≤ w1) (w2 : w1 < 4294967296) (hr : d + t / 4294967296 + (w1 + c) / 4294967296 < 18446744073709551616) :
    Calls Tryz.prog 67 #[.int .u64 x, .int .u64 y] w fun r w' => r = .returned (.tuple #[.int .u64 (d + t / 4294967296 + (w1 + c) / 4294967296), .int .u64 l]) ∧ w' = w := by
  go_enter Tryz.func67, Tryz.ntmps67
  go_wp2
  go_ret2
  exact ⟨rfl, rfl⟩
theorem u64wr (v : Int) : IntKind.u64.wrap v = v % 18446744073709551616 := by
  simp [IntKind.wrap, IntKind.bits, IntKind.signed]
theorem prod_le (a b : Int) (ha : 0 ≤ a) (ha1 : a ≤ 4294967295) (hb : 0 ≤ b) (hb1 : b ≤ 4294967295) : 0 ≤ a * b ∧ a * b ≤ 18446744065119617025 := by
  refine ⟨Int.mul_nonneg ha hb, ?_⟩
  exact Int.le_trans (Int.mul_le_mul ha1 hb1 hb (by decide)) (by decide)
/-- THE LONG PRODUCT -/
theorem mul64_at (x y : Int) (w : World) (hx : 0 ≤ x) (hx1 : x < 18446744073709551616) (hy : 0 ≤ y) (hy1 : y < 18446744073709551616) :
    Calls Tryz.prog 67 #[.int .u64 x, .int .u64 y] w fun r w' => r = .returned (.tuple #[.int .u64 (x * y / 18446744073709551616), .int .u64 (x * y % 18446744073709551616)]) ∧ w' = w := by
  obtain ⟨a0, a1⟩ := prod_le (x % 4294967296) (y % 4294967296) (by omega) (by omega) (by omega) (by omega)
  obtain ⟨b0, b1⟩ := prod_le (x / 4294967296) (y % 4294967296) (by omega) (by omega) (by omega) (by omega)
  obtain ⟨c0, c1⟩ := prod_le (x % 4294967296) (y / 4294967296) (by omega) (by omega) (by omega) (by omega)
  obtain ⟨d0, d1⟩ := prod_le (x / 4294967296) (y / 4294967296) (by omega) (by omega) (by omega) (by omega)
  have hxy : x * y = x % 4294967296 * (y % 4294967296) + (x / 4294967296 * (y % 4294967296) + x % 4294967296 * (y / 4294967296)) * 4294967296 + x / 4294967296 * (y / 4294967296) * 18446744073709551616 := by
    have ex : x = x % 4294967296 + x / 4294967296 * 4294967296 := by omega
    have ey : y = y % 4294967296 + y / 4294967296 * 4294967296 := by omega
    generalize x % 4294967296 = p at *
    generalize x / 4294967296 = q at *
    generalize y % 4294967296 = r at *
    generalize y / 4294967296 = s at *
    subst ex ey
    rw [Int.add_mul, Int.mul_add, Int.mul_add]
    have z1 : p * (s * 4294967296) = p * s * 4294967296 := by rw [Int.mul_assoc]
    have z2 : q * 4294967296 * r = q * r * 4294967296 := by rw [Int.mul_assoc, Int.mul_comm 4294967296, ← Int.mul_assoc]
    have z3 : q * 4294967296 * (s * 4294967296) = q * s * 18446744073709551616 := by
      rw [Int.mul_assoc, Int.mul_left_comm 4294967296, ← Int.mul_assoc]; rfl
    rw [z1, z2, z3]
    generalize p * r = A
    generalize p * s = B
    generalize q * r = C
    generalize q * s = D
    omega
  have w1 := and32 (x / 4294967296 * (y % 4294967296) + x % 4294967296 * (y % 4294967296) / 4294967296)
  have ma := u64wr (x % 4294967296 * (y % 4294967296))
  have mb := u64wr (x / 4294967296 * (y % 4294967296))
  have mc := u64wr (x % 4294967296 * (y / 4294967296))
  have md := u64wr (x / 4294967296 * (y / 4294967296))
  have e1 := and32 x hx hx1
  have e3 := and32 y hy hy1
  have h := mul64_go x y (x % 4294967296) (x / 4294967296) (y % 4294967296) (y / 4294967296)
  generalize x % 4294967296 * (y % 4294967296) = a at *
  generalize x / 4294967296 * (y % 4294967296) = b at *
  generalize x % 4294967296 * (y / 4294967296) = c at *
  generalize x / 4294967296 * (y / 4294967296) = d at *
  have w1' := w1 (by omega) (by omega)
  have h2 := h a b c d _ _ _ w hx hx1 hy hy1 e1 rfl e3 rfl (by rw [ma]; omega) (by rw [mb]; omega) (by rw [mc]; omega) (by rw [md]; omega) (u64wr _) a0 a1 b0 b1 c0 c1 d0 d1 rfl (by omega) (by omega) w1' (by omega) (by omega) (by omega)
  have e : d + (b + a / 4294967296) / 4294967296 + ((b + a / 4294967296) % 4294967296 + c) / 4294967296 = x * y / 18446744073709551616 := by
    rw [hxy]; omega
  rw [e] at h2
  exact h2
theorem log2_of {n k : Nat} (h : 2 ^ k ≤ n) (h' : n < 2 ^ (k + 1)) : n.log2 = k := by
  have : n ≠ 0 := by have := pow_pos k; omega
  exact (Nat.log2_eq_iff this).2 ⟨h, h'⟩

theorem ba_get (b : ByteArray) (i : Nat) (h : i < b.size) : b[i]'h = (b[i]?).getD 0 := by simp [h]
/-- how many bits a number below 256 has -/
def len8 (n : Nat) : Int := if n = 0 then 0 else ((n.log2 + 1 : Nat) : Int)
set_option maxHeartbeats 2000000 in
set_option maxRecDepth 100000 in
theorem len_0 (x : Int) (w : World) (h0 : 0 ≤ x) (h1 : x < 18446744073709551616) (t32 : x < 4294967296) (t16 : x < 65536) (t8 : x < 256) : Calls Tryz.prog 100 #[.int .u64 x] w fun e w' => e = .returned (.int .i64 (0 + len8 x.toNat)) ∧ w' = w := by
  go_enter Tryz.func100, Tryz.ntmps100
  go_wp2
  go_ret
  refine ⟨ret_int ?_, rfl⟩
  have hl : x.toNat < 256 := by omega
  rw [ba_get]
  generalize hn : x.toNat = n at hl ⊢
  clear hn
  revert n
  decide +kernel
set_option maxHeartbeats 2000000 in
set_option maxRecDepth 100000 in
theorem len_8 (x y0 : Int) (w : World) (h0 : 0 ≤ x) (h1 : x < 18446744073709551616) (t32 : x < 4294967296) (t16 : x < 65536) (t8 : 256 ≤ x) (e8 : x / 256 = y0) (p8 : 0 ≤ y0) (fl : y0 < 256) : Calls Tryz.prog 100 #[.int .u64 x] w fun e w' => e = .returned (.int .i64 (8 + len8 y0.toNat)) ∧ w' = w := by
  go_enter Tryz.func100, Tryz.ntmps100
  go_wp2
  go_ret
  refine ⟨ret_int ?_, rfl⟩
  have hl : y0.toNat < 256 := by omega
  rw [ba_get]
  generalize hn : y0.toNat = n at hl ⊢
  clear hn
  revert n
  decide +kernel
set_option maxHeartbeats 2000000 in
set_option maxRecDepth 100000 in
theorem len_16 (x y0 : Int) (w : World) (h0 : 0 ≤ x) (h1 : x < 18446744073709551616) (t32 : x < 4294967296) (t16 : 65536 ≤ x) (e16 : x / 65536 = y0) (p16 : 0 ≤ y0) (t8 : y0 < 256) (_fl : y0 < 256) : Calls Tryz.prog 100 #[.int .u64 x] w fun e w' => e = .returned (.int .i64 (16 + len8 y0.toNat)) ∧ w' = w := by
  go_enter Tryz.func100, Tryz.ntmps100
  go_wp2
  go_ret
  refine ⟨ret_int ?_, rfl⟩
  have hl : y0.toNat < 256 := by omega
  rw [ba_get]
  generalize hn : y0.toNat = n at hl ⊢
  clear hn
  revert n
  decide +kernel
set_option maxHeartbeats 2000000 in
set_option maxRecDepth 100000 in
theorem len_24 (x y0 y1 : Int) (w : World) (h0 : 0 ≤ x) (h1 : x < 18446744073709551616) (t32 : x < 4294967296) (t16 : 65536 ≤ x) (e16 : x / 65536 = y0) (_p16 : 0 ≤ y0) (t8 : 256 ≤ y0) (e8 : y0 / 256 = y1) (p8 : 0 ≤ y1) (fl : y1 < 256) : Calls Tryz.prog 100 #[.int .u64 x] w fun e w' => e = .returned (.int .i64 (24 + len8 y1.toNat)) ∧ w' = w := by
  go_enter Tryz.func100, Tryz.ntmps100
  go_wp2
  go_ret
  refine ⟨ret_int ?_, rfl⟩
  have hl : y1.toNat < 256 := by omega
  rw [ba_get]
  generalize hn : y1.toNat = n at hl ⊢
  clear hn
  revert n
  decide +kernel
set_option maxHeartbeats 2000000 in
set_option maxRecDepth 100000 in
theorem len_32 (x y0 : Int) (w : World) (_h0 : 0 ≤ x) (_h1 : x < 18446744073709551616) (t32 : 4294967296 ≤ x) (e32 : x / 4294967296 = y0) (p32 : 0 ≤ y0) (t16 : y0 < 65536) (t8 : y0 < 256) (_fl : y0 < 256) : Calls Tryz.prog 100 #[.int .u64 x] w fun e w' => e = .returned (.int .i64 (32 + len8 y0.toNat)) ∧ w' = w := by
  go_enter Tryz.func100, Tryz.ntmps100
  go_wp2
  go_ret
  refine ⟨ret_int ?_, rfl⟩
  have hl : y0.toNat < 256 := by omega
  rw [ba_get]
  generalize hn : y0.toNat = n at hl ⊢
  clear hn
  revert n
  decide +kernel
set_option maxHeartbeats 2000000 in
set_option maxRecDepth 100000 in
theorem len_40 (x y0 y1 : Int) (w : World) (_h0 : 0 ≤ x) (_h1 : x < 18446744073709551616) (t32 : 4294967296 ≤ x) (e32 : x / 4294967296 = y0) (p32 : 0 ≤ y0) (t16 : y0 < 65536) (t8 : 256 ≤ y0) (e8 : y0 / 256 = y1) (p8 : 0 ≤ y1) (fl : y1 < 256) : Calls Tryz.prog 100 #[.int .u64 x] w fun e w' => e = .returned (.int .i64 (40 + len8 y1.toNat)) ∧ w' = w := by
  go_enter Tryz.func100, Tryz.ntmps100
  go_wp2
  go_ret
  refine ⟨ret_int ?_, rfl⟩
  have hl : y1.toNat < 256 := by omega
  rw [ba_get]
  generalize hn : y1.toNat = n at hl ⊢
  clear hn
  revert n
  decide +kernel
set_option maxHeartbeats 2000000 in
set_option maxRecDepth 100000 in
theorem len_48 (x y0 y1 : Int) (w : World) (_h0 : 0 ≤ x) (_h1 : x < 18446744073709551616) (t32 : 4294967296 ≤ x) (e32 : x / 4294967296 = y0) (_p32 : 0 ≤ y0) (t16 : 65536 ≤ y0) (e16 : y0 / 65536 = y1) (p16 : 0 ≤ y1) (t8 : y1 < 256) (_fl : y1 < 256) : Calls Tryz.prog 100 #[.int .u64 x] w fun e w' => e = .returned (.int .i64 (48 + len8 y1.toNat)) ∧ w' = w := by
  go_enter Tryz.func100, Tryz.ntmps100
  go_wp2
  go_ret
  refine ⟨ret_int ?_, rfl⟩
  have hl : y1.toNat < 256 := by omega
  rw [ba_get]
  generalize hn : y1.toNat = n at hl ⊢
  clear hn
  revert n
  decide +kernel
set_option maxHeartbeats 2000000 in
set_option maxRecDepth 100000 in
theorem len_56 (x y0 y1 y2 : Int) (w : World) (_h0 : 0 ≤ x) (_h1 : x < 18446744073709551616) (t32 : 4294967296 ≤ x) (e32 : x / 4294967296 = y0) (_p32 : 0 ≤ y0) (t16 : 65536 ≤ y0) (e16 : y0 / 65536 = y1) (_p16 : 0 ≤ y1) (t8 : 256 ≤ y1) (e8 : y1 / 256 = y2) (p8 : 0 ≤ y2) (fl : y2 < 256) : Calls Tryz.prog 100 #[.int .u64 x] w fun e w' => e = .returned (.int .i64 (56 + len8 y2.toNat)) ∧ w' = w := by
  go_enter Tryz.func100, Tryz.ntmps100
  go_wp2
  go_ret
  refine ⟨ret_int ?_, rfl⟩
  have hl : y2.toNat < 256 := by omega
  rw [ba_get]
  generalize hn : y2.toNat = n at hl ⊢
  clear hn
  revert n
  decide +kernel
theorem log2_shift (n s : Nat) (h : 0 < n / 2 ^ s) : n.log2 = (n / 2 ^ s).log2 + s := by
  have hy : n / 2 ^ s ≠ 0 := by omega
  have h1 := Nat.log2_self_le hy
  have h2 := Nat.lt_log2_self (n := n / 2 ^ s)
  apply log2_of
  · rw [Nat.pow_add]
    exact Nat.le_trans (Nat.mul_le_mul_right _ h1) (Nat.div_mul_le_self n (2 ^ s))
  · have : n < (n / 2 ^ s + 1) * 2 ^ s := by
      have := Nat.lt_mul_div_succ n (pow_pos s)
      rw [Nat.mul_comm] at this; exact this
    refine Nat.lt_of_lt_of_le this ?_
    have e : (n / 2 ^ s).log2 + s + 1 = ((n / 2 ^ s).log2 + 1) + s := by omega
    rw [e, Nat.pow_add]
    exact Nat.mul_le_mul_right _ h2
theorem len8_log (n s : Nat) (h : 0 < n / 2 ^ s) : (s : Int) + len8 (n / 2 ^ s) = ((n.log2 + 1 : Nat) : Int) := by
  have := log2_shift n s h
  unfold len8
  rw [if_neg (by omega)]; omega
theorem len64_at (x : Nat) (w : World) (h0 : 0 < x) (h1 : x < 18446744073709551616) :
    Calls Tryz.prog 100 #[.int .u64 (x : Int)] w fun e w' => e = .returned (.int .i64 ((x.log2 + 1 : Nat) : Int)) ∧ w' = w := by
  by_cases a : x < 4294967296
  · by_cases b : x < 65536
    · by_cases c : x < 256
      · have h := len_0 (x : Int) w (by omega) (by omega) (by omega) (by omega) (by omega)
        have e := len8_log x 0 (by rw [Nat.pow_zero, Nat.div_one]; exact h0)
        rw [Nat.pow_zero, Nat.div_one] at e
        rw [Int.toNat_natCast] at h
        rw [← e]; exact h
      · have h := len_8 (x : Int) _ w (by omega) (by omega) (by omega) (by omega) (by omega) rfl (by omega) (by omega)
        have e := len8_log x 8 (by omega)
        rw [show ((x : Int) / 256).toNat = x / 2 ^ 8 by omega] at h
        rw [← e]; exact h
    · by_cases c : x / 65536 < 256
      · have h := len_16 (x : Int) _ w (by omega) (by omega) (by omega) (by omega) rfl (by omega) (by omega) (by omega)
        have e := len8_log x 16 (by omega)
        rw [show ((x : Int) / 65536).toNat = x / 2 ^ 16 by omega] at h
        rw [← e]; exact h
      · have h := len_24 (x : Int) _ _ w (by omega) (by omega) (by omega) (by omega) rfl (by omega) (by omega) rfl (by omega) (by omega)
        have e := len8_log x 24 (by omega)
        rw [show ((x : Int) / 65536 / 256).toNat = x / 2 ^ 24 by omega] at h
        rw [← e]; exact h
  · by_cases b : x / 4294967296 < 65536
    · by_cases c : x / 4294967296 < 256
      · have h := len_32 (x : Int) _ w (by omega) (by omega) (by omega) rfl (by omega) (by omega) (by omega) (by omega)
        have e := len8_log x 32 (by omega)
        rw [show ((x : Int) / 4294967296).toNat = x / 2 ^ 32 by omega] at h
        rw [← e]; exact h
      · have h := len_40 (x : Int) _ _ w (by omega) (by omega) (by omega) rfl (by omega) (by omega) (by omega) rfl (by omega) (by omega)
        have e := len8_log x 40 (by omega)
        rw [show ((x : Int) / 4294967296 / 256).toNat = x / 2 ^ 40 by omega] at h
        rw [← e]; exact h
    · by_cases c : x / 4294967296 / 65536 < 256
      · have h := len_48 (x : Int) _ _ w (by omega) (by omega) (by omega) rfl (by omega) (by omega) rfl (by omega) (by omega) (by omega)
        have e := len8_log x 48 (by omega)
        rw [show ((x : Int) / 4294967296 / 65536).toNat = x / 2 ^ 48 by omega] at h
        rw [← e]; exact h
      · have h := len_56 (x : Int) _ _ _ w (by omega) (by omega) (by omega) rfl (by omega) (by omega) rfl (by omega) (by omega) rfl (by omega) (by omega)
        have e := len8_log x 56 (by omega)
        rw [show ((x : Int) / 4294967296 / 65536 / 256).toNat = x / 2 ^ 56 by omega] at h
        rw [← e]; exact h

theorem two_pow_cast (k : Nat) : ((2 : Int) ^ k) = ((2 ^ k : Nat) : Int) := by rw [Int.natCast_pow]; rfl
theorem or_add (a b s : Nat) (hb : b < 2 ^ s) (h : a * 2 ^ s + b < 18446744073709551616) : bits .or .u64 ((a * 2 ^ s : Nat) : Int) (b : Int) = ((a * 2 ^ s + b : Nat) : Int) := by
  show IntKind.u64.wrap ((BitVec.ofInt 64 ((a * 2 ^ s : Nat) : Int) ||| BitVec.ofInt 64 (b : Int)).toNat : Int) = _
  rw [BitVec.toNat_or, ofInt_u64 _ (by omega), ofInt_u64 _ (by omega)]
  have := Nat.shiftLeft_add_eq_or_of_lt hb a
  rw [Nat.shiftLeft_eq] at this
  rw [← this, u64wr]
  omega

set_option maxRecDepth 100000 in
theorem lead_go (x n : Int) (w : World) (L : Hid (Calls Tryz.prog 100 #[.int .u64 x] w fun e w' => e = .returned (.int .i64 n) ∧ w' = w)) (h0 : 0 ≤ n) (h1 : n ≤ 64) : Calls Tryz.prog 88 #[.int .u64 x] w fun e w' => e = .returned (.int .i64 (64 - n)) ∧ w' = w := by
  go_enter Tryz.func88, Tryz.ntmps88
  go_wp2_with fail
  refine L.out.mono ?_
  rintro e9 v ⟨rfl, hv⟩
  have hv2 := hv.symm
  subst hv2
  go_wp2
  go_ret
  exact ⟨rfl, rfl⟩
/-- HOW MANY ZEROS LEAD -/
theorem lead_at (x : Nat) (w : World) (h0 : 0 < x) (h1 : x < 18446744073709551616) : Calls Tryz.prog 88 #[.int .u64 (x : Int)] w fun e w' => e = .returned (.int .i64 (64 - ((x.log2 + 1 : Nat) : Int))) ∧ w' = w := by
  have l : x.log2 < 64 := (Nat.log2_lt (by omega)).2 h1
  exact lead_go _ _ w (len64_at x w h0 h1) (by omega) (by omega)
end Sh
end Go.Proofs.YtkckcohemalhiaaGreatDoor

namespace Go.Proofs.YtkckcohemalhiaaGreatDoor.Sh
/-- the guess so far -/
def DI (y yn1 u32 U q rh : Int) : Prop := q * yn1 + rh = u32 ∧ U / y ≤ q ∧ 0 ≤ rh ∧ 0 ≤ q
section
variable {y yn1 yn0 u32 u1 U q rh : Int}
theorem DI.start (hy : y = yn1 * 4294967296 + yn0) (h0 : 0 ≤ yn0) (h1 : 0 < yn1) (hu : U = u32 * 4294967296 + u1) (hu1 : 0 ≤ u1 ∧ u1 < 4294967296) (hu0 : 0 ≤ u32) : DI y yn1 u32 U (u32 / yn1) (u32 - u32 / yn1 * yn1) := by
  have d := div_two (a := u32) h1
  rw [Int.mul_comm] at d
  have q0 : 0 ≤ u32 / yn1 := Int.ediv_nonneg hu0 (by omega)
  refine ⟨by omega, ?_, by omega, q0⟩
  generalize u32 / yn1 = k at *
  have hy0 : 0 < y := by omega
  refine Int.le_of_lt_add_one (Int.ediv_lt_of_lt_mul hy0 ?_)
  have e1 : (k + 1) * y = (k * yn1 + yn1) * 4294967296 + (k + 1) * yn0 := by
    rw [hy, Int.mul_add, ← Int.mul_assoc, Int.add_mul k 1 yn1, Int.one_mul]
  have e2 : 0 ≤ (k + 1) * yn0 := Int.mul_nonneg (by omega) h0
  rw [e1]
  have e3 : u32 + 1 ≤ k * yn1 + yn1 := by omega
  omega
/-- the test against the whole -/
theorem DI.test (hy : y = yn1 * 4294967296 + yn0) (hu : U = u32 * 4294967296 + u1) (h : DI y yn1 u32 U q rh) : (4294967296 * rh + u1 < q * yn0 ↔ U < q * y) := by
  have e : q * y = q * yn1 * 4294967296 + q * yn0 := by rw [hy, Int.mul_add, ← Int.mul_assoc]
  have h1 := h.1
  rw [e, hu]
  constructor <;> intro k <;> omega
theorem DI.small (hy0 : 0 < y) (hu : U = u32 * 4294967296 + u1) (hu1 : 0 ≤ u1 ∧ u1 < 4294967296) (hl : u32 < y) : U / y < 4294967296 := by
  refine Int.ediv_lt_of_lt_mul hy0 ?_
  omega
theorem DI.next (hy : y = yn1 * 4294967296 + yn0) (hy0 : 0 < y) (hu : U = u32 * 4294967296 + u1) (hu1 : 0 ≤ u1 ∧ u1 < 4294967296) (hl : u32 < y) (hU : 0 ≤ U) (h1 : 0 < yn1) (h : DI y yn1 u32 U q rh) (c : 4294967296 ≤ q ∨ 4294967296 * rh + u1 < q * yn0) : DI y yn1 u32 U (q - 1) (rh + yn1) := by
  have lt : U / y < q := by
    rcases c with c | c
    · have := DI.small hy0 hu hu1 hl; omega
    · have k := (DI.test hy hu h).1 c
      exact Int.ediv_lt_of_lt_mul hy0 k
  have p := Int.ediv_nonneg hU (show 0 ≤ y by omega)
  obtain ⟨a, b, r, s⟩ := h
  refine ⟨?_, by omega, by omega, by omega⟩
  rw [Int.sub_mul, Int.one_mul]
  omega
theorem DI.done (hy : y = yn1 * 4294967296 + yn0) (hy0 : 0 < y) (hu : U = u32 * 4294967296 + u1) (h : DI y yn1 u32 U q rh) (c : ¬ 4294967296 * rh + u1 < q * yn0) : q = U / y := by
  have k : q * y ≤ U := by
    have := (DI.test hy hu h)
    rcases Int.lt_or_le U (q * y) with l | l
    · exact absurd (this.2 l) c
    · exact l
  have g := h.2.1
  have l := (Int.le_ediv_iff_mul_le hy0).2 k
  omega
/-- where the rest is great the test would not strike -/
theorem DI.great (hy : y = yn1 * 4294967296 + yn0) (h0 : 0 ≤ yn0 ∧ yn0 < 4294967296) (h1 : 0 < yn1) (hu1 : 0 ≤ u1) (hl : u32 < y) (h : DI y yn1 u32 U q rh) (g : 4294967296 ≤ rh) : q < 4294967296 ∧ ¬ 4294967296 * rh + u1 < q * yn0 := by
  obtain ⟨a, b, r, s⟩ := h
  have lq : q < 4294967296 := by
    have k : yn1 * q < yn1 * 4294967296 := by
      have : yn1 * q = q * yn1 := Int.mul_comm _ _
      omega
    exact Int.lt_of_mul_lt_mul_left k (by omega)
  refine ⟨lq, fun c => ?_⟩
  have m : q * yn0 ≤ 4294967295 * 4294967295 := Int.mul_le_mul (by omega) (by omega) h0.1 (by omega)
  have e : (4294967295 : Int) * 4294967295 = 18446744065119617025 := by decide
  omega
end
end Go.Proofs.YtkckcohemalhiaaGreatDoor.Sh
