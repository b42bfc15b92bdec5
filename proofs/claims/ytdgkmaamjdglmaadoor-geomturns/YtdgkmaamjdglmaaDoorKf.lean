/-
  The least number that is meant; closures of under and sideOf: contracts.
-/
import Derived.Test.YtdgkmaamjdglmaaDoorKg
import Derived.Test.YtdgkmaamjdglmaaDoorMn
import Derived.Deep.Quiet
import Derived.BigQuiet
namespace Go.Proofs.YtdgkmaamjdglmaaDoor
open Go.RowKit Cu
set_option maxHeartbeats 2000000 in
theorem least_u (N k0 : Nat) (m : Nat → Bool) (g0 g1 : Nat) (w : World) (hN : (N : Int) ≤ 24) (hk : (k0 : Int) < N) (h1 : m k0 = true) (h2 : ∀ k, k < k0 → m k = false)
    (H : Hid (∀ k : Nat, k < N → ∀ w', Ab w w' → Calls Tryd.prog 45 #[.int .i64 k, .pointer (some ⟨g0, 0, none⟩), .pointer (some ⟨g1, 0, none⟩)] w' fun e w'' => e = .returned (.bool (m k)) ∧ Below w'.heap.size w' w'')) :
    Calls Tryd.prog 44 #[.int .i64 N, .func (.func 45) #[] #[.pointer (some ⟨g0, 0, none⟩), .pointer (some ⟨g1, 0, none⟩)]] w fun e w' => e = .returned (.int .i64 k0) ∧ Below w.heap.size w w' := by
  have H1 := hid h1
  have H2 := hid h2
  clear h1 h2
  go_enter Tryd.func44, Tryd.ntmps44
  go_wp2
  go_loopw [7] (fun iv wr => ∃ k : Nat, k ≤ k0 ∧ iv = .int .i64 (k : Nat) ∧ Ab w wr) (fun iv _ => k0 - (intOf iv).toNat)
  case atStart => exact ⟨0, by omega, rfl, Ab.refl _⟩
  case round =>
    obtain ⟨k, hk0, rfl, A⟩ := hrel
    have hkN : (k : Int) < N := by omega
    by_cases he : k = k0
    · subst he
      have C := H.out k (by omega) wr A
      rw [H1.out] at C
      have C' := hid C
      clear C H H1 H2
      go_wp2_with fail
      refine C'.out.mono ?_
      rintro e w1 ⟨rfl, b1⟩
      go_wp2
      go_ret
      exact ⟨rfl, A.call b1⟩
    · have C := H.out k (by omega) wr A
      rw [H2.out k (by omega)] at C
      have C' := hid C
      clear C
      go_wp2_with fail
      refine C'.out.mono ?_
      rintro e w1 ⟨rfl, b1⟩
      go_wp2
      go_roundw
      case rel => exact ⟨k + 1, by omega, by simp, A.call b1⟩
      case measure => simp [intOf]; omega
set_option maxHeartbeats 2000000 in
theorem least_s (N k0 : Nat) (m : Nat → Bool) (g0 g1 : Nat) (w : World) (hN : (N : Int) ≤ 24) (hk : (k0 : Int) < N) (h1 : m k0 = true) (h2 : ∀ k, k < k0 → m k = false)
    (H : Hid (∀ k : Nat, k < N → ∀ w', Ab w w' → Calls Tryd.prog 46 #[.int .i64 k, .pointer (some ⟨g0, 0, none⟩), .pointer (some ⟨g1, 0, none⟩)] w' fun e w'' => e = .returned (.bool (m k)) ∧ Below w'.heap.size w' w'')) :
    Calls Tryd.prog 44 #[.int .i64 N, .func (.func 46) #[] #[.pointer (some ⟨g0, 0, none⟩), .pointer (some ⟨g1, 0, none⟩)]] w fun e w' => e = .returned (.int .i64 k0) ∧ Below w.heap.size w w' := by
  have H1 := hid h1
  have H2 := hid h2
  clear h1 h2
  go_enter Tryd.func44, Tryd.ntmps44
  go_wp2
  go_loopw [7] (fun iv wr => ∃ k : Nat, k ≤ k0 ∧ iv = .int .i64 (k : Nat) ∧ Ab w wr) (fun iv _ => k0 - (intOf iv).toNat)
  case atStart => exact ⟨0, by omega, rfl, Ab.refl _⟩
  case round =>
    obtain ⟨k, hk0, rfl, A⟩ := hrel
    have hkN : (k : Int) < N := by omega
    by_cases he : k = k0
    · subst he
      have C := H.out k (by omega) wr A
      rw [H1.out] at C
      have C' := hid C
      clear C H H1 H2
      go_wp2_with fail
      refine C'.out.mono ?_
      rintro e w1 ⟨rfl, b1⟩
      go_wp2
      go_ret
      exact ⟨rfl, A.call b1⟩
    · have C := H.out k (by omega) wr A
      rw [H2.out k (by omega)] at C
      have C' := hid C
      clear C
      go_wp2_with fail
      refine C'.out.mono ?_
      rintro e w1 ⟨rfl, b1⟩
      go_wp2
      go_roundw
      case rel => exact ⟨k + 1, by omega, by simp, A.call b1⟩
      case measure => simp [intOf]; omega
set_option maxHeartbeats 2000000 in
theorem under1_at (k n : Nat) (p : P3) (g0 g1 : Nat) (w : World) (hk : k < 6) (hp : Sm p) (h : Fr w) (hg0 : g0 < w.heap.size) (hg1 : g1 < w.heap.size) (ha : Pc w g0 0 p) (hs : w.cell? ⟨g1, 0, none⟩ = some (.int .i64 n)) :
    Calls Tryd.prog 45 #[.int .i64 k, .pointer (some ⟨g0, 0, none⟩), .pointer (some ⟨g1, 0, none⟩)] w fun e w' => e = .returned (.bool (decide (dt p (cC k) = n))) ∧ Below w.heap.size w w' := by
  obtain ⟨U, F, hF1, hF2⟩ := cls w
  have HF := hid hF2
  have HF1 := hid hF1
  have x0 : ∀ u, (F u).cell? ⟨g0, 0, none⟩ = some (.int .i64 p.1) := fun u => ((hF1 u).pc hg0 ha).1
  have x1 : ∀ u, (F u).cell? ⟨g0, 1, none⟩ = some (.int .i64 p.2.1) := fun u => ((hF1 u).pc hg0 ha).2.1
  have x2 : ∀ u, (F u).cell? ⟨g0, 2, none⟩ = some (.int .i64 p.2.2) := fun u => ((hF1 u).pc hg0 ha).2.2
  have x3 : ∀ u, (F u).cell? ⟨g1, 0, none⟩ = some (.int .i64 n) := fun u => (Below.cell (hF1 u) (by exact hg1)).trans hs
  have y0 : ∀ u, (F u).cell? ⟨0, k * 9, none⟩ = some (.int .i64 (cC k).1) := fun u => ((h.to (hF1 u)).2 k hk).1.1
  have y1 : ∀ u, (F u).cell? ⟨0, k * 9 + 1, none⟩ = some (.int .i64 (cC k).2.1) := fun u => ((h.to (hF1 u)).2 k hk).1.2.1
  have y2 : ∀ u, (F u).cell? ⟨0, k * 9 + 2, none⟩ = some (.int .i64 (cC k).2.2) := fun u => ((h.to (hF1 u)).2 k hk).1.2.2
  have T := hid (fun w => along_at p (cC k) w hp (un_C hk))
  have hk' : (k : Int) < 6 := by omega
  have D := HF.out _ (Ab.refl w).drew
  clear hF1 hF2 h ha hs hk
  go_enter Tryd.func45, Tryd.ntmps45
  go_wp2_with fail
  refine region_cls F (by kernel_rfl) (by kernel_rfl) D ?_
  repeat (go_big_quiet_step (first | rfl | (go_at_call 29; exact calls_cls HF HF1 (T.out _))))
  refine wpQuiet_nil ?_
  intro wz hwz
  obtain ⟨u, rfl⟩ := hwz
  go_wp2
  go_ret
  exact ⟨by simp [Bool.beq_eq_decide_eq], HF1.out u⟩
set_option maxHeartbeats 2000000 in
theorem sideOf1_at (k f : Nat) (p : P3) (g0 g1 : Nat) (w : World) (hk : k < 4) (hf : f < 6) (h : Fr w) (hg0 : g0 < w.heap.size) (hg1 : g1 < w.heap.size) (ha : Pc w g1 0 p) (hs : w.cell? ⟨g0, 0, none⟩ = some (.int .i64 f)) :
    Calls Tryd.prog 46 #[.int .i64 k, .pointer (some ⟨g0, 0, none⟩), .pointer (some ⟨g1, 0, none⟩)] w fun e w' => e = .returned (.bool (decide (wy f k = p))) ∧ Below w.heap.size w w' := by
  obtain ⟨U, F, hF1, hF2⟩ := cls w
  have HF := hid hF2
  have HF1 := hid hF1
  have x0 : ∀ u, (F u).cell? ⟨g1, 0, none⟩ = some (.int .i64 p.1) := fun u => ((hF1 u).pc hg1 ha).1
  have x1 : ∀ u, (F u).cell? ⟨g1, 1, none⟩ = some (.int .i64 p.2.1) := fun u => ((hF1 u).pc hg1 ha).2.1
  have x2 : ∀ u, (F u).cell? ⟨g1, 2, none⟩ = some (.int .i64 p.2.2) := fun u => ((hF1 u).pc hg1 ha).2.2
  have x3 : ∀ u, (F u).cell? ⟨g0, 0, none⟩ = some (.int .i64 f) := fun u => (Below.cell (hF1 u) (by exact hg0)).trans hs
  have T := hid (fun u => way_at f k (F u) hf hk (h.to (hF1 u)))
  have D := HF.out _ (Ab.refl w).drew
  have EQ : ∀ u, (Op.equalIn 10000 53 (.agg #[.int .i64 (wy f k).1, .int .i64 (wy f k).2.1, .int .i64 (wy f k).2.2]) (.agg #[.int .i64 p.1, .int .i64 p.2.1, .int .i64 p.2.2])).run Tryd.prog (F u) = .ok (decide (wy f k = p)) (F u) := fun u => pt_cmp 9998 _ _ _
  clear hF1 hF2 h ha hs hk hf
  go_enter Tryd.func46, Tryd.ntmps46
  go_wp2_with fail
  refine region_cls F (by kernel_rfl) (by kernel_rfl) D ?_
  repeat (go_big_quiet_step (first | rfl | (go_at_call 25; exact calls_cls HF HF1 (T.out _))))
  refine wpQuiet_nil ?_
  intro wz hwz
  obtain ⟨u, rfl⟩ := hwz
  go_wp2
  go_ret
  exact ⟨rfl, HF1.out u⟩
end Go.Proofs.YtdgkmaamjdglmaaDoor
