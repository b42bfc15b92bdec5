/-
  The middle of a cell: contract.
-/
import Derived.Test.YtdgkmaamjdglmaaDoorKd
import Derived.Deep.RegionHeld3
import Derived.Deep.RegionWith
import Derived.Deep.Cut
import Derived.Deep.CutRange
namespace Go.Proofs.YtdgkmaamjdglmaaDoor
open Go.RowKit Cu
theorem wr {x : Int} (h : -1000000 ≤ x ∧ x ≤ 1000000) : IntKind.i64.wrap x = x := by rw [IntKind.wrap_i64]; omega
/-- the three cells of a point in memory -/
def Pc (w : World) (g o : Nat) (p : P3) : Prop := w.cell? ⟨g, o, none⟩ = some (.int .i64 p.1) ∧ w.cell? ⟨g, o + 1, none⟩ = some (.int .i64 p.2.1) ∧ w.cell? ⟨g, o + 2, none⟩ = some (.int .i64 p.2.2)
theorem Ab.pc {W w : World} (h : Ab W w) {g o : Nat} {p : P3} (hg : g < W.heap.size) (k : Pc W g o p) : Pc w g o p :=
  ⟨(Below.cell h (by exact hg)).trans k.1, (Below.cell h (by exact hg)).trans k.2.1, (Below.cell h (by exact hg)).trans k.2.2⟩
theorem pc_row {w : World} {g : Nat} {p : P3} {T : TypeId} {fr : Nat × Nat} (h : w.heap[g]? = some (.cells #[.int .i64 p.1, .int .i64 p.2.1, .int .i64 p.2.2] T fr)) : Pc w g 0 p :=
  ⟨cell_of_row w g 0 _ _ _ h, cell_of_row w g 1 _ _ _ h, cell_of_row w g 2 _ _ _ h⟩

theorem Abx.pc {W w : World} {g n : Nat} {T : TypeId} (h : Abx W g n T w) {k o : Nat} {p : P3} (hne : k ≠ g) (hg : k < W.heap.size) (q : Pc W k o p) : Pc w k o p := by
  have e : ∀ j, w.cell? ⟨k, j, none⟩ = W.cell? ⟨k, j, none⟩ := fun j => World.cell?_of_block (h.1.2.2.2.2 k hg hne)
  unfold Pc at *
  simp only [e]
  exact q
set_option maxHeartbeats 4000000 in
theorem middle_at (n f i j : Nat) (w : World) (hn : 1 ≤ (n : Int) ∧ (n : Int) ≤ 32) (hf : f < 6) (hi : (i : Int) < n) (hj : (j : Int) < n) (h : Fr w) :
    Calls Tryd.prog 26 #[.int .i64 n, .int .i64 f, .int .i64 i, .int .i64 j] w fun e w' => e = .returned (.agg #[.int .i64 (md n f i j).1, .int .i64 (md n f i j).2.1, .int .i64 (md n f i j).2.2]) ∧ Below w.heap.size w w' := by
  obtain ⟨⟨k0, k1, k2⟩, ⟨k3, k4, k5⟩, ⟨k6, k7, k8⟩⟩ := h.2 f hf
  have h0 := h.1
  have hf' : (f : Int) < 6 := by omega
  obtain ⟨a, ha⟩ : ∃ a : Int, 2 * (i : Int) + 1 - n = a := ⟨_, rfl⟩
  obtain ⟨b, hb⟩ : ∃ b : Int, 2 * (j : Int) + 1 - n = b := ⟨_, rfl⟩
  have u1 : IntKind.i64.wrap (IntKind.i64.wrap (IntKind.i64.wrap (2 * (i : Int)) + 1) - n) = a := by rw [wr (x := 2 * (i : Int)) (by omega), wr (x := 2 * (i : Int) + 1) (by omega), wr (by omega), ha]
  have u2 : IntKind.i64.wrap (IntKind.i64.wrap (IntKind.i64.wrap (2 * (j : Int)) + 1) - n) = b := by rw [wr (x := 2 * (j : Int)) (by omega), wr (x := 2 * (j : Int) + 1) (by omega), wr (by omega), hb]
  have S1 : Sm (sc a (cR f)) := sc_sm (un_R hf) (by omega)
  have S2 : Sm (sc b (cU f)) := sc_sm (un_U hf) (by omega)
  have S3 : Sm (sc n (cC f)) := sc_sm (un_C hf) (by omega)
  have S4 : Sm (pl (sc a (cR f)) (sc b (cU f))) := by
    have x1 := mul_un (un_R hf).1 32 (show -32 ≤ a ∧ a ≤ 32 by omega)
    have x2 := mul_un (un_R hf).2.1 32 (show -32 ≤ a ∧ a ≤ 32 by omega)
    have x3 := mul_un (un_R hf).2.2 32 (show -32 ≤ a ∧ a ≤ 32 by omega)
    have y1 := mul_un (un_U hf).1 32 (show -32 ≤ b ∧ b ≤ 32 by omega)
    have y2 := mul_un (un_U hf).2.1 32 (show -32 ≤ b ∧ b ≤ 32 by omega)
    have y3 := mul_un (un_U hf).2.2 32 (show -32 ≤ b ∧ b ≤ 32 by omega)
    simp only [Sm, pl, sc]
    omega
  have T1 := hid (fun w => times_ex (cR f) a w S1)
  have T2 := hid (fun w => times_ex (cU f) b w S2)
  have P1 := hid (fun w => plus_ex (sc a (cR f)) (sc b (cU f)) w S1 S2)
  have T3 := hid (fun w => times_at (cC f) n w S3)
  have P2 := hid (fun w => plus_at (sc n (cC f)) (pl (sc a (cR f)) (sc b (cU f))) w S3 S4)
  have E : Hid (md n f i j = pl (sc n (cC f)) (pl (sc a (cR f)) (sc b (cU f)))) := by rw [← ha, ← hb]; exact rfl
  rw [E.out]
  clear h hf S1 S2 S3 S4 ha hb E
  go_enter Tryd.func26, Tryd.ntmps26
  go_upto_region 2 with fail
  generalize hW : World.alloc _ _ = W
  have z1 : Hid (W.heap.size = w.heap.size + 2) := by rw [← hW]; simp [Hid]
  have AW : Hid (Ab w W) := by rw [← hW]; exact bl2 _ _ _
  have r8 : Hid (W.heap[w.heap.size]? = some (.cells #[.int .i64 0, .int .i64 0, .int .i64 0] 53)) := by rw [← hW]; exact heap_alloc2_old _ _ _
  have r9 : W.heap[w.heap.size + 1]? = some (.cells #[.int .i64 (cC f).1, .int .i64 (cC f).2.1, .int .i64 (cC f).2.2, .int .i64 (cR f).1, .int .i64 (cR f).2.1, .int .i64 (cR f).2.2, .int .i64 (cU f).1, .int .i64 (cU f).2.1, .int .i64 (cU f).2.2] 60) := by rw [← hW]; exact heap_alloc2_new _ _ _
  have KS : Hid (∀ w', Ab W w' → Ab W w' ∧ w'.cell? ⟨w.heap.size + 1, 3, none⟩ = some (.int .i64 (cR f).1) ∧ w'.cell? ⟨w.heap.size + 1, 4, none⟩ = some (.int .i64 (cR f).2.1) ∧ w'.cell? ⟨w.heap.size + 1, 5, none⟩ = some (.int .i64 (cR f).2.2) ∧ w'.cell? ⟨w.heap.size + 1, 6, none⟩ = some (.int .i64 (cU f).1) ∧ w'.cell? ⟨w.heap.size + 1, 7, none⟩ = some (.int .i64 (cU f).2.1) ∧ w'.cell? ⟨w.heap.size + 1, 8, none⟩ = some (.int .i64 (cU f).2.2)) := by
    intro w' hw
    have r := hw.heap r9
    exact ⟨hw, cell_of_row _ _ 3 _ _ _ r, cell_of_row _ _ 4 _ _ _ r, cell_of_row _ _ 5 _ _ _ r, cell_of_row _ _ 6 _ _ _ r, cell_of_row _ _ 7 _ _ _ r, cell_of_row _ _ 8 _ _ _ r⟩
  have KC : Hid (∀ w', Ab W w' → Pc w' (w.heap.size + 1) 0 (cC f)) := by
    intro w' hw
    have r := hw.heap r9
    exact ⟨cell_of_row _ _ 0 _ _ _ r, cell_of_row _ _ 1 _ _ _ r, cell_of_row _ _ 2 _ _ _ r⟩
  have A0 := Ab.refl W
  clear r9 k0 k1 k2 k3 k4 k5 k6 k7 k8 hW
  go_cut [10] from 14 to 30 (fun s10 wx => ∃ g10, s10 = .pointer (some ⟨g10, 0, none⟩) ∧ Ab W wx ∧ W.heap.size ≤ g10 ∧ wx.heap[g10]? = some (.cells #[.int .i64 (pl (sc a (cR f)) (sc b (cU f))).1, .int .i64 (pl (sc a (cR f)) (sc b (cU f))).2.1, .int .i64 (pl (sc a (cR f)) (sc b (cU f))).2.2] 53))
  case first =>
    go_region_held3 (fun w' => Ab W w' ∧ w'.cell? ⟨w.heap.size + 1, 3, none⟩ = some (.int .i64 (cR f).1) ∧ w'.cell? ⟨w.heap.size + 1, 4, none⟩ = some (.int .i64 (cR f).2.1) ∧ w'.cell? ⟨w.heap.size + 1, 5, none⟩ = some (.int .i64 (cR f).2.2) ∧ w'.cell? ⟨w.heap.size + 1, 6, none⟩ = some (.int .i64 (cU f).1) ∧ w'.cell? ⟨w.heap.size + 1, 7, none⟩ = some (.int .i64 (cU f).2.1) ∧ w'.cell? ⟨w.heap.size + 1, 8, none⟩ = some (.int .i64 (cU f).2.2)) ((refine KS.out _ ?_; (with_reducible (repeat (first | assumption | apply Ab.drew | apply Ab.alloc))); done)) (first
      | (go_at_call_of 28 a; refine (T1.out _).mono ?_; rintro e w1 ⟨rfl, rfl⟩)
      | (go_at_call_of 28 b; refine (T2.out _).mono ?_; rintro e w1 ⟨rfl, rfl⟩)
      | (go_at_call 27; refine (P1.out _).mono ?_; rintro e w1 ⟨rfl, rfl⟩))
    all_goals go_wp2_with fail
    all_goals go_meet
    all_goals refine ⟨_, rfl, ?_, ?_, ?_⟩
    all_goals first
      | ((with_reducible (repeat (first | assumption | apply Ab.drew | apply Ab.alloc))); done)
      | omega
      | (simp; done)
      | (simp; omega)
      | (rw [heap_drew]; (repeat (first | exact heap_at _ _ _ (by first | (simp; done) | (simp; omega)) | rw [Below.heap_alloc _ _ _ (by first | (simp; done) | (simp; omega))])); done)
      | trace_state
  case rest =>
    obtain ⟨g10, rfl, A1, hg10, r10⟩ := hcut
    clear KS T1 T2 P1 u1 u2
    have KS : Hid (∀ w', Abx wc w.heap.size 3 53 w' → Abx wc w.heap.size 3 53 w' ∧ w'.cell? ⟨w.heap.size + 1, 0, none⟩ = some (.int .i64 (cC f).1) ∧ w'.cell? ⟨w.heap.size + 1, 1, none⟩ = some (.int .i64 (cC f).2.1) ∧ w'.cell? ⟨w.heap.size + 1, 2, none⟩ = some (.int .i64 (cC f).2.2) ∧ w'.cell? ⟨g10, 0, none⟩ = some (.int .i64 (pl (sc a (cR f)) (sc b (cU f))).1) ∧ w'.cell? ⟨g10, 1, none⟩ = some (.int .i64 (pl (sc a (cR f)) (sc b (cU f))).2.1) ∧ w'.cell? ⟨g10, 2, none⟩ = some (.int .i64 (pl (sc a (cR f)) (sc b (cU f))).2.2) ∧ w'.frozen? ⟨w.heap.size, 0, none⟩ = false ∧ w'.frozen? ⟨w.heap.size, 1, none⟩ = false ∧ w'.frozen? ⟨w.heap.size, 2, none⟩ = false ∧ w'.cell? ⟨w.heap.size, 0, none⟩ = some (rv w' w.heap.size 0) ∧ w'.cell? ⟨w.heap.size, 1, none⟩ = some (rv w' w.heap.size 1) ∧ w'.cell? ⟨w.heap.size, 2, none⟩ = some (rv w' w.heap.size 2)) := by
      intro w' hw
      have hz := z1.out
      have r1 := hw.heap (by omega) r10
      obtain ⟨q1, q2, q3⟩ := hw.pc (by omega) (by have := A1.size; omega) (KC.out _ A1)
      exact ⟨hw, q1, q2, q3, cell_of_row _ _ 0 _ _ _ r1, cell_of_row _ _ 1 _ _ _ r1, cell_of_row _ _ 2 _ _ _ r1, hw.free 0, hw.free 1, hw.free 2, hw.some (by omega), hw.some (by omega), hw.some (by omega)⟩
    have A0' : Abx wc w.heap.size 3 53 wc := (Ab.refl wc).x rfl (A1.heap r8.out)
    clear r10 KC r8
    go_upto_region 3 with fail
    go_region_held3 (fun w' => Abx wc w.heap.size 3 53 w' ∧ w'.cell? ⟨w.heap.size + 1, 0, none⟩ = some (.int .i64 (cC f).1) ∧ w'.cell? ⟨w.heap.size + 1, 1, none⟩ = some (.int .i64 (cC f).2.1) ∧ w'.cell? ⟨w.heap.size + 1, 2, none⟩ = some (.int .i64 (cC f).2.2) ∧ w'.cell? ⟨g10, 0, none⟩ = some (.int .i64 (pl (sc a (cR f)) (sc b (cU f))).1) ∧ w'.cell? ⟨g10, 1, none⟩ = some (.int .i64 (pl (sc a (cR f)) (sc b (cU f))).2.1) ∧ w'.cell? ⟨g10, 2, none⟩ = some (.int .i64 (pl (sc a (cR f)) (sc b (cU f))).2.2) ∧ w'.frozen? ⟨w.heap.size, 0, none⟩ = false ∧ w'.frozen? ⟨w.heap.size, 1, none⟩ = false ∧ w'.frozen? ⟨w.heap.size, 2, none⟩ = false ∧ w'.cell? ⟨w.heap.size, 0, none⟩ = some (rv w' w.heap.size 0) ∧ w'.cell? ⟨w.heap.size, 1, none⟩ = some (rv w' w.heap.size 1) ∧ w'.cell? ⟨w.heap.size, 2, none⟩ = some (rv w' w.heap.size 2)) ((refine KS.out _ ?_; (with_reducible (repeat (first | assumption | apply Abx.drew | apply Abx.set | (refine Abx.call ?_ (by assumption))))); done)) (first
      | (go_at_call 28; refine (T3.out _).mono ?_; rintro e w1 ⟨rfl, b1⟩)
      | (go_at_call 27; refine (P2.out _).mono ?_; rintro e w2 ⟨rfl, b2⟩))
    go_wp2
    have A2 := (A0'.drew.call b1).call b2
    refine bodyPost_ret ?_ rfl ⟨rfl, ?_⟩
    · exact results_cell_row Tryd.results26 _ _ w.heap.size _ _ (0, 0) _ rfl (set3 A2) Tryd.underlying53 rfl (by kernel_rfl)
    · exact (((A2.set 0 _).set 1 _).set 2 _).ab (AW.out.trans A1) (Nat.le_refl _)
end Go.Proofs.YtdgkmaamjdglmaaDoor
