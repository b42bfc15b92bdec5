/-
  The table of frames in memory; ways and middles: contracts.
-/
import Derived.Test.YtdgkmaamjdglmaaDoorKc
namespace Go.Proofs.YtdgkmaamjdglmaaDoor
open Go.RowKit Cu
/-- the nine cells of face f's frame -/
def Fr9 (w : World) (f : Nat) : Prop :=
  (w.cell? ⟨0, f * 9, none⟩ = some (.int .i64 (cC f).1) ∧ w.cell? ⟨0, f * 9 + 1, none⟩ = some (.int .i64 (cC f).2.1) ∧ w.cell? ⟨0, f * 9 + 2, none⟩ = some (.int .i64 (cC f).2.2)) ∧
  (w.cell? ⟨0, f * 9 + 3, none⟩ = some (.int .i64 (cR f).1) ∧ w.cell? ⟨0, f * 9 + 4, none⟩ = some (.int .i64 (cR f).2.1) ∧ w.cell? ⟨0, f * 9 + 5, none⟩ = some (.int .i64 (cR f).2.2)) ∧
  (w.cell? ⟨0, f * 9 + 6, none⟩ = some (.int .i64 (cU f).1) ∧ w.cell? ⟨0, f * 9 + 7, none⟩ = some (.int .i64 (cU f).2.1) ∧ w.cell? ⟨0, f * 9 + 8, none⟩ = some (.int .i64 (cU f).2.2))
/-- the table lies in block 0 -/
def Fr (w : World) : Prop := 0 < w.heap.size ∧ ∀ f, f < 6 → Fr9 w f
theorem Fr.below {w w' : World} {n : Nat} (h : Fr w) (b : Below n w w') (hn : 0 < n) (hs : 0 < w'.heap.size) : Fr w' := by
  refine ⟨hs, fun f hf => ?_⟩
  have hc : ∀ k, w'.cell? ⟨0, k, none⟩ = w.cell? ⟨0, k, none⟩ := fun k => b.cell (by exact hn)
  have := h.2 f hf
  unfold Fr9 at *
  simp only [hc]
  exact this
theorem Fr.to {w w' : World} (h : Fr w) (b : Below w.heap.size w w') : Fr w' := h.below b h.1 (Nat.lt_of_lt_of_le h.1 b.size)
theorem un_tab : ∀ f < 6, ((-1 ≤ (cC f).1 ∧ (cC f).1 ≤ 1) ∧ (-1 ≤ (cC f).2.1 ∧ (cC f).2.1 ≤ 1) ∧ (-1 ≤ (cC f).2.2 ∧ (cC f).2.2 ≤ 1)) := by decide +kernel
theorem un_tab2 : ∀ f < 6, ((-1 ≤ (cR f).1 ∧ (cR f).1 ≤ 1) ∧ (-1 ≤ (cR f).2.1 ∧ (cR f).2.1 ≤ 1) ∧ (-1 ≤ (cR f).2.2 ∧ (cR f).2.2 ≤ 1)) := by decide +kernel
theorem un_tab3 : ∀ f < 6, ((-1 ≤ (cU f).1 ∧ (cU f).1 ≤ 1) ∧ (-1 ≤ (cU f).2.1 ∧ (cU f).2.1 ≤ 1) ∧ (-1 ≤ (cU f).2.2 ∧ (cU f).2.2 ≤ 1)) := by decide +kernel
theorem un_C {f : Nat} (h : f < 6) : Un (cC f) := un_tab f h
theorem un_R {f : Nat} (h : f < 6) : Un (cR f) := un_tab2 f h
theorem un_U {f : Nat} (h : f < 6) : Un (cU f) := un_tab3 f h
theorem un_wy {f s : Nat} (h : f < 6) : Un (wy f s) := by
  have a := un_R h
  have b := un_U h
  unfold Un at *
  unfold wy
  split <;> (try simp only [sc]) <;> refine ⟨⟨?_, ?_⟩, ⟨?_, ?_⟩, ?_, ?_⟩ <;> omega

theorem bl4 (w : World) (A B C D : Obj) : Below w.heap.size w ((((w.alloc A).alloc B).alloc C).alloc D) := (bl3 w A B C).alloc (by simp; omega) _
theorem heap_a4 (w : World) (A B C D : Obj) : ((((w.alloc A).alloc B).alloc C).alloc D).heap[w.heap.size]? = some A := by
  rw [Below.heap_alloc _ _ _ (by simp; omega), Below.heap_alloc _ _ _ (by simp; omega)]
  exact heap_alloc2_old _ _ _
set_option maxHeartbeats 1000000 in
theorem way_at (f s : Nat) (w : World) (hf : f < 6) (hs : s < 4) (h : Fr w) :
    Calls Tryd.prog 25 #[.int .i64 f, .int .i64 s] w fun e w' => e = .returned (.agg #[.int .i64 (wy f s).1, .int .i64 (wy f s).2.1, .int .i64 (wy f s).2.2]) ∧ Below w.heap.size w w' := by
  obtain ⟨⟨k0, k1, k2⟩, ⟨k3, k4, k5⟩, ⟨k6, k7, k8⟩⟩ := h.2 f hf
  have h0 := h.1
  have hf' : (f : Int) < 6 := by omega
  have T1 := hid (fun w => times_ex (cR f) (-1) w (sc_sm (un_R hf) (by omega)))
  have T2 := hid (fun w => times_ex (cU f) (-1) w (sc_sm (un_U hf) (by omega)))
  clear h hf
  rcases four hs with rfl | rfl | rfl | rfl
  · clear T1 T2 hs
    go_enter Tryd.func25, Tryd.ntmps25
    go_wp2
    refine bodyPost_ret ?_ rfl ⟨rfl, bl2 _ _ _⟩
    exact results_cell_row Tryd.results25 _ _ w.heap.size _ _ (0, 0) _ rfl (heap_alloc2_old _ _ _) Tryd.underlying53 rfl (by kernel_rfl)
  · clear T1 T2 hs
    go_enter Tryd.func25, Tryd.ntmps25
    go_wp2
    refine bodyPost_ret ?_ rfl ⟨rfl, bl2 _ _ _⟩
    exact results_cell_row Tryd.results25 _ _ w.heap.size _ _ (0, 0) _ rfl (heap_alloc2_old _ _ _) Tryd.underlying53 rfl (by kernel_rfl)
  · clear T2 hs
    go_enter Tryd.func25, Tryd.ntmps25
    go_wp2_with (go_at_call 28; refine (T1.out _).mono ?_; rintro e w1 ⟨rfl, rfl⟩)
    refine bodyPost_ret ?_ rfl ⟨rfl, ?_⟩
    · exact results_cell_row Tryd.results25 _ _ w.heap.size _ _ (0, 0) _ rfl (heap_a4 _ _ _ _ _) Tryd.underlying53 rfl (by kernel_rfl)
    · exact bl4 _ _ _ _ _
  · clear T1 hs
    go_enter Tryd.func25, Tryd.ntmps25
    go_wp2_with (go_at_call 28; refine (T2.out _).mono ?_; rintro e w1 ⟨rfl, rfl⟩)
    refine bodyPost_ret ?_ rfl ⟨rfl, ?_⟩
    · exact results_cell_row Tryd.results25 _ _ w.heap.size _ _ (0, 0) _ rfl (heap_a4 _ _ _ _ _) Tryd.underlying53 rfl (by kernel_rfl)
    · exact bl4 _ _ _ _ _
end Go.Proofs.YtdgkmaamjdglmaaDoor
