/-
  What falls and what goes up: walks over the program's closures (layer 18).
-/
import Derived.Test.YthcgbjkbnbeobaaRnN
import Derived.Test.YthcgbjkbnbeobaaBq
import Derived.Laws.Small
namespace Go.Proofs.Ythcgbjkbnbeobaa
open Go.RowKit Go.Deep
namespace Rn
open Sh
/-- sky, cells and what moves water, as they lie -/
def At18 (gs gh gm og oc lw : Nat) (Tm : TypeId) (sk : Int) (X : Nat → Int) (v : World) : Prop :=
  v.heap[gs]? = some (.cells #[.int .i64 sk] 2) ∧ v.heap[gh]? = some (.cells #[.slice (some ⟨og, 0, none⟩) lw oc] 22) ∧
  v.heap[gm]? = some (.cells #[.func (.func 19) #[] #[.pointer (some ⟨gh, 0, none⟩), .pointer (some ⟨gs, 0, none⟩)]] Tm) ∧ ∃ F, v.rowIs og 2 oc F ∧ ∀ i, i < lw → F i = .int .i64 (X i)
/-- no two of them in one place -/
def Dis18 (gs gh gm og : Nat) : Prop := gs ≠ gh ∧ gs ≠ gm ∧ gs ≠ og ∧ gh ≠ og ∧ gm ≠ og
/-- the world behind a move -/
def mov18 (gs og k : Nat) (y z : Int) (v : World) : World := (v.setCell ⟨og, k, none⟩ (.int .i64 y)).setCell ⟨gs, 0, none⟩ (.int .i64 z)
theorem At18.to {gs gh gm og oc lw : Nat} {Tm : TypeId} {sk : Int} {X : Nat → Int} {v v' : World} (h : At18 gs gh gm og oc lw Tm sk X v) (a : Ab v v') : At18 gs gh gm og oc lw Tm sk X v' := by
  obtain ⟨h1, h2, h3, F, h4, h5⟩ := h
  exact ⟨a.heap h1, a.heap h2, a.heap h3, F, row_ab h4 a, h5⟩
theorem At18.cell {gs gh gm og oc lw : Nat} {Tm : TypeId} {sk : Int} {X : Nat → Int} {v : World} (h : At18 gs gh gm og oc lw Tm sk X v) (hc : lw ≤ oc) {k : Nat} (hk : k < lw) : v.cell? ⟨og, k, none⟩ = some (.int .i64 (X k)) ∧ v.frozen? ⟨og, k, none⟩ = false := by
  obtain ⟨-, -, -, F, h4, h5⟩ := h
  exact ⟨by rw [← h5 k hk]; exact h4.cell (by omega), h4.frozen k⟩
theorem At18.mov {gs gh gm og oc lw : Nat} {Tm : TypeId} {sk : Int} {X : Nat → Int} {v : World} (h : At18 gs gh gm og oc lw Tm sk X v) (d : Dis18 gs gh gm og) (k : Nat) (y z : Int) : At18 gs gh gm og oc lw Tm z (fun i => if i = k then y else X i) (mov18 gs og k y z v) := by
  obtain ⟨h1, h2, h3, F, h4, h5⟩ := h
  obtain ⟨d1, d2, d3, d4, d5⟩ := d
  unfold mov18
  refine ⟨?_, ?_, ?_, _, (h4.set k (.int .i64 y)).setOther (a := ⟨gs, 0, none⟩) (fun e => d3 e.symm) _, fun i hi => ?_⟩
  · have := one_set (k := 0) (v := .int .i64 z) ((Below.heap_setCell v ⟨og, k, none⟩ (.int .i64 y) gs d3).trans h1)
    simpa using this
  · exact (Below.heap_setCell _ ⟨gs, 0, none⟩ _ gh (fun e => d1 e.symm)).trans ((Below.heap_setCell v ⟨og, k, none⟩ _ gh d4).trans h2)
  · exact (Below.heap_setCell _ ⟨gs, 0, none⟩ _ gm (fun e => d2 e.symm)).trans ((Below.heap_setCell v ⟨og, k, none⟩ _ gm d5).trans h3)
  · dsimp only
    by_cases e : i = k
    · rw [if_pos e, if_pos e]
    · rw [if_neg e, if_neg e, h5 i hi]
theorem At18.congr {gs gh gm og oc lw : Nat} {Tm : TypeId} {sk : Int} {X Y : Nat → Int} {v : World} (h : At18 gs gh gm og oc lw Tm sk X v) (e : ∀ i, i < lw → X i = Y i) : At18 gs gh gm og oc lw Tm sk Y v := by
  obtain ⟨h1, h2, h3, F, h4, h5⟩ := h
  exact ⟨h1, h2, h3, F, h4, fun i hi => by rw [h5 i hi, e i hi]⟩
theorem mov_ab {w v : World} {gs og k : Nat} {y z : Int} (a : Ab w v) (h1 : w.heap.size ≤ gs) (h2 : w.heap.size ≤ og) : Ab w (mov18 gs og k y z v) := (a.setk h2 _).setk h1 _
set_option maxRecDepth 100000 in
set_option maxHeartbeats 16000000 in
theorem move18 (gs gh gm og oc lw k : Nat) (Tm : TypeId) (sk x d : Int) (X : Nat → Int) (v : World) (h : At18 gs gh gm og oc lw Tm sk X v) (di : Dis18 gs gh gm og) (hc : lw ≤ oc) (hl : lw ≤ 17592186044416) (hk : k < lw) (hx : X k = x)
    (y1 : -9223372036854775808 ≤ x + d) (y2 : x + d ≤ 9223372036854775807) (z1 : -9223372036854775808 ≤ sk - d) (z2 : sk - d ≤ 9223372036854775807) :
    Calls Try.prog 19 #[.int .i64 (k : Nat), .int .i64 d, .pointer (some ⟨gh, 0, none⟩), .pointer (some ⟨gs, 0, none⟩)] v fun e v' => e = .returned (.tuple #[]) ∧ v' = mov18 gs og k (x + d) (sk - d) v := by
  have kI : (k : Int) < lw := by omega
  have kB : (k : Int) ≤ 17592186044416 := by omega
  obtain ⟨c1, f1⟩ := h.cell hc hk
  rw [hx] at c1
  have c2 := cell_of_row _ _ 0 _ _ _ h.2.1
  have h2 : (v.setCell ⟨og, k, none⟩ (.int .i64 (x + d))).heap[gs]? = some (.cells #[.int .i64 sk] 2) := (Below.heap_setCell v ⟨og, k, none⟩ _ gs di.2.2.1).trans h.1
  have c3 := cell_of_row _ _ 0 _ _ _ h2
  have f3 := free_row h2 0
  clear h2 h di hc hl hk hx
  unfold mov18
  go_enter Try.func19, Try.ntmps19
  go_wp2
  go_end0
  exact ⟨rfl, rfl⟩
set_option maxRecDepth 100000 in
set_option maxHeartbeats 16000000 in
theorem fall18 (gs gh gm og oc lw k : Nat) (Tm : TypeId) (sk x d r2 r3 r4 : Int) (X : Nat → Int) (v : World) (h : At18 gs gh gm og oc lw Tm sk X v) (di : Dis18 gs gh gm og) (hc : lw ≤ oc) (hl : lw ≤ 17592186044416) (hk : k < lw) (hx : X k = x) (hd : (if sk < r2 then sk else r2) = d)
    (y1 : -9223372036854775808 ≤ x + d) (y2 : x + d ≤ 9223372036854775807) (z1 : -9223372036854775808 ≤ sk - d) (z2 : sk - d ≤ 9223372036854775807) :
    Calls Try.prog 20 #[.agg #[.int .i64 (k : Nat), .int .i64 r2, .int .i64 r3, .int .i64 r4], .pointer (some ⟨gm, 0, none⟩), .pointer (some ⟨gs, 0, none⟩)] v fun e v' => e = .returned (.tuple #[]) ∧ ∃ u, Ab v u ∧ v' = mov18 gs og k (x + d) (sk - d) u := by
  have A0 : Hid (Ab v (v.alloc (.cells #[.int .i64 (k : Nat), .int .i64 r2, .int .i64 r3, .int .i64 r4] 29))) := bl1 _ _
  have R0 : Hid ((v.alloc (.cells #[.int .i64 (k : Nat), .int .i64 r2, .int .i64 r3, .int .i64 r4] 29)).heap[v.heap.size]? = some (.cells #[.int .i64 (k : Nat), .int .i64 r2, .int .i64 r3, .int .i64 r4] 29)) := heap_alloc_new _ _
  have HM : ∀ (ts : Array TypeId) (t : TypeId) (w : World), (Builtin.min_ ts t #[.int .i64 r2, .int .i64 sk]).run Try.prog w = .ok (.int .i64 d) w := fun ts t w => by rw [← hd]; exact run_min_int2 w ts t _ _ r2 sk
  have HA := hid (h.to A0.out)
  have CM : Hid (∀ u, At18 gs gh gm og oc lw Tm sk X u → Calls Try.prog 19 #[.int .i64 (k : Nat), .int .i64 d, .pointer (some ⟨gh, 0, none⟩), .pointer (some ⟨gs, 0, none⟩)] u fun e v' => e = .returned (.tuple #[]) ∧ v' = mov18 gs og k (x + d) (sk - d) u) := fun u hu => move18 gs gh gm og oc lw k Tm sk x d X u hu di hc hl hk hx y1 y2 z1 z2
  clear h di hc hl hk hx hd y1 y2 z1 z2
  go_enter Try.func20, Try.ntmps20
  go_upto_region 1 with fail
  generalize hW : World.alloc v _ = V0 at *
  obtain ⟨gw, hgw⟩ : ∃ g, v.heap.size = g := ⟨_, rfl⟩
  rw [hgw] at R0 ⊢
  clear hgw hW
  have x0 := cell_of_row _ _ 0 _ _ _ R0.out
  have x1 := cell_of_row _ _ 1 _ _ _ R0.out
  have x2 := cell_of_row _ _ 0 _ _ _ HA.out.1
  have x3 := cell_of_row _ _ 0 _ _ _ HA.out.2.2.1
  have CV := hid (CM.out V0 HA.out)
  go_wp2_with fail
  refine CV.out.mono ?_
  rintro e9 v9 ⟨rfl, hv9⟩
  have H9 := hid hv9
  clear hv9
  go_wp2
  go_end0
  exact ⟨rfl, V0, A0.out, H9.out⟩
set_option maxRecDepth 100000 in
set_option maxHeartbeats 16000000 in
theorem up18 (gs gh gm og oc lw k : Nat) (Tm : TypeId) (sk x d r2 r3 r4 : Int) (X : Nat → Int) (v : World) (h : At18 gs gh gm og oc lw Tm sk X v) (di : Dis18 gs gh gm og) (hc : lw ≤ oc) (hl : lw ≤ 17592186044416) (hk : k < lw) (hx : X k = x) (hd : (if x < -r2 then x else -r2) = d) (n1 : -9223372036854775808 ≤ -r2) (n2 : -r2 ≤ 9223372036854775807) (d1 : -9223372036854775808 ≤ -d) (d2 : -d ≤ 9223372036854775807)
    (y1 : -9223372036854775808 ≤ x + -d) (y2 : x + -d ≤ 9223372036854775807) (z1 : -9223372036854775808 ≤ sk - -d) (z2 : sk - -d ≤ 9223372036854775807) :
    Calls Try.prog 21 #[.agg #[.int .i64 (k : Nat), .int .i64 r2, .int .i64 r3, .int .i64 r4], .pointer (some ⟨gm, 0, none⟩), .pointer (some ⟨gh, 0, none⟩)] v fun e v' => e = .returned (.tuple #[]) ∧ ∃ u, Ab v u ∧ v' = mov18 gs og k (x + -d) (sk - -d) u := by
  have kI : (k : Int) < lw := by omega
  have kB : (k : Int) ≤ 17592186044416 := by omega
  have A0 : Hid (Ab v (v.alloc (.cells #[.int .i64 (k : Nat), .int .i64 r2, .int .i64 r3, .int .i64 r4] 29))) := bl1 _ _
  have R0 : Hid ((v.alloc (.cells #[.int .i64 (k : Nat), .int .i64 r2, .int .i64 r3, .int .i64 r4] 29)).heap[v.heap.size]? = some (.cells #[.int .i64 (k : Nat), .int .i64 r2, .int .i64 r3, .int .i64 r4] 29)) := heap_alloc_new _ _
  have HM : ∀ (ts : Array TypeId) (t : TypeId) (w : World), (Builtin.min_ ts t #[.int .i64 (-r2), .int .i64 x]).run Try.prog w = .ok (.int .i64 d) w := fun ts t w => by rw [← hd]; exact run_min_int2 w ts t _ _ (-r2) x
  have HA := hid (h.to A0.out)
  have XC : Hid (∀ u, At18 gs gh gm og oc lw Tm sk X u → u.cell? ⟨og, k, none⟩ = some (.int .i64 x)) := fun u hu => by rw [← hx]; exact (hu.cell hc hk).1
  have CM : Hid (∀ u, At18 gs gh gm og oc lw Tm sk X u → Calls Try.prog 19 #[.int .i64 (k : Nat), .int .i64 (-d), .pointer (some ⟨gh, 0, none⟩), .pointer (some ⟨gs, 0, none⟩)] u fun e v' => e = .returned (.tuple #[]) ∧ v' = mov18 gs og k (x + -d) (sk - -d) u) := fun u hu => move18 gs gh gm og oc lw k Tm sk x (-d) X u hu di hc hl hk hx y1 y2 z1 z2
  clear h di hc hl hk hx hd y1 y2 z1 z2
  go_enter Try.func21, Try.ntmps21
  go_upto_region 1 with fail
  generalize hW : World.alloc v _ = V0 at *
  obtain ⟨gw, hgw⟩ : ∃ g, v.heap.size = g := ⟨_, rfl⟩
  rw [hgw] at R0 ⊢
  clear hgw hW
  obtain ⟨UU, E, hF1, hF2⟩ := cls V0
  have HU := hid hF2
  have HU1 := hid hF1
  have x0 : ∀ u, (E u).cell? ⟨gw, 0, none⟩ = some (.int .i64 (k : Nat)) := fun u => cell_of_row _ _ 0 _ _ _ ((hF1 u).heap R0.out)
  have x1 : ∀ u, (E u).cell? ⟨gw, 1, none⟩ = some (.int .i64 r2) := fun u => cell_of_row _ _ 1 _ _ _ ((hF1 u).heap R0.out)
  have x2 : ∀ u, (E u).cell? ⟨gh, 0, none⟩ = some (.slice (some ⟨og, 0, none⟩) lw oc) := fun u => cell_of_row _ _ 0 _ _ _ ((hF1 u).heap HA.out.2.1)
  have x3 : ∀ u, (E u).cell? ⟨gm, 0, none⟩ = some (.func (.func 19) #[] #[.pointer (some ⟨gh, 0, none⟩), .pointer (some ⟨gs, 0, none⟩)]) := fun u => cell_of_row _ _ 0 _ _ _ ((hF1 u).heap HA.out.2.2.1)
  have x4 : ∀ u, (E u).cell? ⟨og, k, none⟩ = some (.int .i64 x) := fun u => XC.out _ (HA.out.to (hF1 u))
  have DD0 := HU.out _ (Ab.refl V0).drew
  clear hF1 hF2
  refine region_tail 13 E (by kernel_rfl) (by kernel_rfl) (by kernel_rfl) DD0 ?_
  simp only [List.take_succ_cons, List.take_zero, List.drop_succ_cons, List.drop_zero]
  repeat (go_big_quiet_step (with_reducible rfl))
  refine wpQuiet_nil ?_
  intro vz hwz
  obtain ⟨u0, hu⟩ := hwz
  have AZ : Hid (Ab V0 vz) := by rw [hu]; exact HU1.out u0
  clear hu u0
  clear HU HU1 DD0 x0 x1 x2 x3 x4
  clear E UU
  have CV := hid (CM.out vz (HA.out.to AZ.out))
  go_wp2_with fail
  refine CV.out.mono ?_
  rintro e9 v9 ⟨rfl, hv9⟩
  have H9 := hid hv9
  clear hv9
  go_wp2
  go_end0
  exact ⟨rfl, vz, A0.out.trans AZ.out, H9.out⟩
end Rn
end Go.Proofs.Ythcgbjkbnbeobaa
