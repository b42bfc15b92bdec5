/-
  Middles and ways of cells, in the reference: contracts.
-/
import Derived.Test.YthfholdhieigiaaDoorXd
import Derived.Test.YthfholdhieigiaaDoorKm
namespace Go.Proofs.YthfholdhieigiaaDoor
open Go.RowKit Cu
theorem rplace_ok (n c : Nat) (hn : 1 ≤ n ∧ n ≤ 32) (hc : c < 6 * n * n) (w : World) :
    Calls Tryd.prog 36 #[.int .i64 n, .int .i64 c] w fun e w' => e = .returned (.tuple #[.int .i64 (cf n c), .int .i64 (ci n c), .int .i64 (cj n c), .bool true]) ∧ Below w.heap.size w w' := by
  have h := rplace_at n c w
  have hin : inR c (clN n) = true := by rw [inR_iff, clN_nat hn]; omega
  rw [hin, show pF n c = (cf n c : Nat) by simp [pF, hin, cf], show pI n c = (ci n c : Nat) by simp [pI, hin, ci], show pJ n c = (cj n c : Nat) by simp [pJ, hin, cj]] at h
  exact h.mono fun _ _ ⟨he, k, hw⟩ => ⟨he, hw ▸ (Ab.refl w).drewN k⟩
theorem pl_assoc (p q r : P3) : pl (pl p q) r = pl p (pl q r) := by simp [pl, Int.add_assoc]
set_option maxHeartbeats 4000000 in
theorem rmiddle_at (n c : Nat) (w : World) (hn : 1 ≤ n ∧ n ≤ 32) (hc : c < 6 * n * n) :
    Calls Tryd.prog 23 #[.int .i64 n, .int .i64 c] w fun e w' => e = .returned (.agg #[.int .i64 (md n (cf n c) (ci n c) (cj n c)).1, .int .i64 (md n (cf n c) (ci n c) (cj n c)).2.1, .int .i64 (md n (cf n c) (ci n c) (cj n c)).2.2]) ∧ Below w.heap.size w w' := by
  obtain ⟨h1, h2, h3, _⟩ := dec_lt hn.1 hc
  have PLc := fun u => rplace_ok n c hn hc u
  obtain ⟨f, hf⟩ : ∃ x, cf n c = x := ⟨_, rfl⟩
  obtain ⟨i, hi⟩ : ∃ x, ci n c = x := ⟨_, rfl⟩
  obtain ⟨j, hj⟩ : ∃ x, cj n c = x := ⟨_, rfl⟩
  rw [hf, hi, hj]
  rw [hf, hi, hj] at PLc
  rw [hf] at h1
  rw [hi] at h2
  rw [hj] at h3
  obtain ⟨a, ha⟩ : ∃ a : Int, 2 * (i : Int) + 1 - n = a := ⟨_, rfl⟩
  obtain ⟨b, hb⟩ : ∃ b : Int, 2 * (j : Int) + 1 - n = b := ⟨_, rfl⟩
  have u1 : IntKind.i64.wrap (IntKind.i64.wrap (IntKind.i64.wrap (2 * (i : Int)) + 1) - n) = a := by rw [wr (x := 2 * (i : Int)) (by omega), wr (x := 2 * (i : Int) + 1) (by omega), wr (by omega), ha]
  have u2 : IntKind.i64.wrap (IntKind.i64.wrap (IntKind.i64.wrap (2 * (j : Int)) + 1) - n) = b := by rw [wr (x := 2 * (j : Int)) (by omega), wr (x := 2 * (j : Int) + 1) (by omega), wr (by omega), hb]
  have S1 : Sm (sc n (cC f)) := sc_sm (un_C h1) (by omega)
  have S2 : Sm (sc a (cR f)) := sc_sm (un_R h1) (by omega)
  have S3 : Sm (sc b (cU f)) := sc_sm (un_U h1) (by omega)
  have S4 : Sm (pl (sc n (cC f)) (sc a (cR f))) := by
    have x1 := mul_un (un_C h1).1 32 (show -32 ≤ (n : Int) ∧ (n : Int) ≤ 32 by omega)
    have x2 := mul_un (un_C h1).2.1 32 (show -32 ≤ (n : Int) ∧ (n : Int) ≤ 32 by omega)
    have x3 := mul_un (un_C h1).2.2 32 (show -32 ≤ (n : Int) ∧ (n : Int) ≤ 32 by omega)
    have y1 := mul_un (un_R h1).1 32 (show -32 ≤ a ∧ a ≤ 32 by omega)
    have y2 := mul_un (un_R h1).2.1 32 (show -32 ≤ a ∧ a ≤ 32 by omega)
    have y3 := mul_un (un_R h1).2.2 32 (show -32 ≤ a ∧ a ≤ 32 by omega)
    simp only [Sm, pl, sc]
    omega
  have T1 : Hid (∀ u, Calls Tryd.prog 22 #[.agg #[.int .i64 0, .int .i64 0, .int .i64 0], .int .i64 n, .agg #[.int .i64 (cC f).1, .int .i64 (cC f).2.1, .int .i64 (cC f).2.2]] u fun e w' => e = .returned (.agg #[.int .i64 (sc n (cC f)).1, .int .i64 (sc n (cC f)).2.1, .int .i64 (sc n (cC f)).2.2]) ∧ Below u.heap.size u w') := fun u => by
    have := rplus_at (0, 0, 0) n (cC f) u (by simp [Sm]) S1
    rw [pl_zero] at this
    exact this
  have T2 := hid (fun u => rplus_at (sc n (cC f)) a (cR f) u S1 S2)
  have T3 := hid (fun u => rplus_at (pl (sc n (cC f)) (sc a (cR f))) b (cU f) u S4 S3)
  have E : md n f i j = pl (pl (sc n (cC f)) (sc a (cR f))) (sc b (cU f)) := by rw [pl_assoc, ← ha, ← hb]; rfl
  rw [E]
  have PL := hid PLc
  have FR := hid (fun u => rframe_at f u h1)
  have A0 : Ab w (w.alloc (.cells #[.int .i64 0, .int .i64 0, .int .i64 0] 49)) := bl1 _ _
  have AZ := hid A0
  clear S1 S2 S3 S4 A0 E ha hb PLc hf hi hj h1 h2 h3 hn hc
  go_enter Tryd.func23, Tryd.ntmps23
  go_wp2_with fail
  refine (PL.out _).mono ?_
  rintro e w0 ⟨rfl, b0⟩
  go_wp2_with fail
  refine (FR.out _).mono ?_
  rintro e w1 ⟨rfl, b1⟩
  go_upto_region 3 with fail
  generalize hW : World.alloc _ _ = W
  obtain ⟨g5, hg5⟩ : ∃ g, w1.heap.size = g := ⟨_, rfl⟩
  have r5 : W.heap[g5]? = some (.cells #[.int .i64 (cC f).1, .int .i64 (cC f).2.1, .int .i64 (cC f).2.2] 49) := by
    rw [← hW, ← hg5, Below.heap_alloc _ _ _ (by simp; omega)]; exact heap_alloc2_old _ _ _
  have r6 : W.heap[g5 + 1]? = some (.cells #[.int .i64 (cR f).1, .int .i64 (cR f).2.1, .int .i64 (cR f).2.2] 49) := by
    rw [← hW, ← hg5, Below.heap_alloc _ _ _ (by simp)]; exact heap_alloc2_new _ _ _
  have r7 : W.heap[g5 + 1 + 1]? = some (.cells #[.int .i64 (cU f).1, .int .i64 (cU f).2.1, .int .i64 (cU f).2.2] 49) := by rw [← hW, ← hg5]; exact heap_alloc3_new _ _ _ _
  have aw : Ab w1 W := by rw [← hW]; exact bl3 _ _ _ _
  have a1 : Ab (w.alloc (.cells #[.int .i64 0, .int .i64 0, .int .i64 0] 49)) w1 := Ab.call b0 b1
  have A1 : Ab (w.alloc (.cells #[.int .i64 0, .int .i64 0, .int .i64 0] 49)) W := a1.trans aw
  have r4 := A1.heap (heap_alloc_new _ _)
  have n5 : w.heap.size + 1 ≤ g5 := by
    have := a1.size
    rw [hg5] at this
    simp at this
    omega
  have KS : Hid (∀ w', Abx W w.heap.size 3 49 w' → Abx W w.heap.size 3 49 w' ∧ w'.cell? ⟨g5, 0, none⟩ = some (.int .i64 (cC f).1) ∧ w'.cell? ⟨g5, 1, none⟩ = some (.int .i64 (cC f).2.1) ∧ w'.cell? ⟨g5, 2, none⟩ = some (.int .i64 (cC f).2.2) ∧ w'.cell? ⟨g5 + 1, 0, none⟩ = some (.int .i64 (cR f).1) ∧ w'.cell? ⟨g5 + 1, 1, none⟩ = some (.int .i64 (cR f).2.1) ∧ w'.cell? ⟨g5 + 1, 2, none⟩ = some (.int .i64 (cR f).2.2) ∧ w'.cell? ⟨g5 + 1 + 1, 0, none⟩ = some (.int .i64 (cU f).1) ∧ w'.cell? ⟨g5 + 1 + 1, 1, none⟩ = some (.int .i64 (cU f).2.1) ∧ w'.cell? ⟨g5 + 1 + 1, 2, none⟩ = some (.int .i64 (cU f).2.2) ∧ w'.frozen? ⟨w.heap.size, 0, none⟩ = false ∧ w'.frozen? ⟨w.heap.size, 1, none⟩ = false ∧ w'.frozen? ⟨w.heap.size, 2, none⟩ = false ∧ w'.cell? ⟨w.heap.size, 0, none⟩ = some (rv w' w.heap.size 0) ∧ w'.cell? ⟨w.heap.size, 1, none⟩ = some (rv w' w.heap.size 1) ∧ w'.cell? ⟨w.heap.size, 2, none⟩ = some (rv w' w.heap.size 2)) := by
    intro w' hw
    obtain ⟨-, p3, p4, p5⟩ := rowfacts (hw.heap (by omega) r5)
    obtain ⟨-, p6, p7, p8⟩ := rowfacts (hw.heap (by omega) r6)
    obtain ⟨-, p9, p10, p11⟩ := rowfacts (hw.heap (by omega) r7)
    exact ⟨hw, p3, p4, p5, p6, p7, p8, p9, p10, p11, hw.free 0, hw.free 1, hw.free 2, hw.some (by omega), hw.some (by omega), hw.some (by omega)⟩
  have A0 : Abx W w.heap.size 3 49 W := (Ab.refl W).x rfl r4
  have AW := hid (AZ.out.trans A1)
  rw [hg5]
  clear r4 r5 r6 r7 hW hg5 aw a1 A1 b0 b1 AZ n5 PL FR
  go_region_held3 (fun w' => Abx W w.heap.size 3 49 w' ∧ w'.cell? ⟨g5, 0, none⟩ = some (.int .i64 (cC f).1) ∧ w'.cell? ⟨g5, 1, none⟩ = some (.int .i64 (cC f).2.1) ∧ w'.cell? ⟨g5, 2, none⟩ = some (.int .i64 (cC f).2.2) ∧ w'.cell? ⟨g5 + 1, 0, none⟩ = some (.int .i64 (cR f).1) ∧ w'.cell? ⟨g5 + 1, 1, none⟩ = some (.int .i64 (cR f).2.1) ∧ w'.cell? ⟨g5 + 1, 2, none⟩ = some (.int .i64 (cR f).2.2) ∧ w'.cell? ⟨g5 + 1 + 1, 0, none⟩ = some (.int .i64 (cU f).1) ∧ w'.cell? ⟨g5 + 1 + 1, 1, none⟩ = some (.int .i64 (cU f).2.1) ∧ w'.cell? ⟨g5 + 1 + 1, 2, none⟩ = some (.int .i64 (cU f).2.2) ∧ w'.frozen? ⟨w.heap.size, 0, none⟩ = false ∧ w'.frozen? ⟨w.heap.size, 1, none⟩ = false ∧ w'.frozen? ⟨w.heap.size, 2, none⟩ = false ∧ w'.cell? ⟨w.heap.size, 0, none⟩ = some (rv w' w.heap.size 0) ∧ w'.cell? ⟨w.heap.size, 1, none⟩ = some (rv w' w.heap.size 1) ∧ w'.cell? ⟨w.heap.size, 2, none⟩ = some (rv w' w.heap.size 2)) ((refine KS.out _ ?_; (with_reducible (repeat (first | assumption | apply Abx.drew | apply Abx.set | (refine Abx.call ?_ (by assumption))))); done)) (first
    | (go_at_call_of 22 (cU f); refine (T3.out _).mono ?_; rintro e w4 ⟨rfl, b4⟩)
    | (go_at_call_of 22 (cR f); refine (T2.out _).mono ?_; rintro e w3 ⟨rfl, b3⟩)
    | (go_at_call 22; refine (T1.out _).mono ?_; rintro e w2 ⟨rfl, b2⟩))
  have A2 := ((A0.drew.call b2).call b3).call b4
  clear KS A0
  go_wp2
  refine bodyPost_ret ?_ rfl ⟨rfl, ?_⟩
  · exact results_cell_row Tryd.results23 _ _ w.heap.size _ _ (0, 0) _ rfl (set3 A2) Tryd.underlying49 rfl (by kernel_rfl)
  · exact (((A2.set 0 _).set 1 _).set 2 _).ab AW.out (Nat.le_refl _)
set_option maxHeartbeats 4000000 in
theorem rway_at (n c s : Nat) (w : World) (hn : 1 ≤ n ∧ n ≤ 32) (hc : c < 6 * n * n) (hs : s < 4) :
    Calls Tryd.prog 24 #[.int .i64 n, .int .i64 c, .int .i64 s] w fun e w' => e = .returned (.agg #[.int .i64 (wy (cf n c) s).1, .int .i64 (wy (cf n c) s).2.1, .int .i64 (wy (cf n c) s).2.2]) ∧ Below w.heap.size w w' := by
  obtain ⟨h1, _⟩ := dec_lt hn.1 hc
  have PLc := fun u => rplace_ok n c hn hc u
  obtain ⟨f, hf⟩ : ∃ x, cf n c = x := ⟨_, rfl⟩
  rw [hf]
  rw [hf] at PLc h1
  have T2 : Hid (∀ u, Calls Tryd.prog 22 #[.agg #[.int .i64 0, .int .i64 0, .int .i64 0], .int .i64 (-1), .agg #[.int .i64 (cR f).1, .int .i64 (cR f).2.1, .int .i64 (cR f).2.2]] u fun e w' => e = .returned (.agg #[.int .i64 (sc (-1) (cR f)).1, .int .i64 (sc (-1) (cR f)).2.1, .int .i64 (sc (-1) (cR f)).2.2]) ∧ Below u.heap.size u w') := fun u => by
    have := rplus_at (0, 0, 0) (-1) (cR f) u (by simp [Sm]) (sc_sm (un_R h1) (by omega))
    rw [pl_zero] at this
    exact this
  have T3 : Hid (∀ u, Calls Tryd.prog 22 #[.agg #[.int .i64 0, .int .i64 0, .int .i64 0], .int .i64 (-1), .agg #[.int .i64 (cU f).1, .int .i64 (cU f).2.1, .int .i64 (cU f).2.2]] u fun e w' => e = .returned (.agg #[.int .i64 (sc (-1) (cU f)).1, .int .i64 (sc (-1) (cU f)).2.1, .int .i64 (sc (-1) (cU f)).2.2]) ∧ Below u.heap.size u w') := fun u => by
    have := rplus_at (0, 0, 0) (-1) (cU f) u (by simp [Sm]) (sc_sm (un_U h1) (by omega))
    rw [pl_zero] at this
    exact this
  have PL := hid PLc
  have FR := hid (fun u => rframe_at f u h1)
  have A0 : Ab w (w.alloc (.cells #[.int .i64 0, .int .i64 0, .int .i64 0] 49)) := bl1 _ _
  have AZ := hid A0
  clear A0 PLc hf h1 hn hc
  rcases four hs with rfl | rfl | rfl | rfl <;> clear hs
  · go_enter Tryd.func24, Tryd.ntmps24
    go_wp2_with fail
    refine (PL.out _).mono ?_
    rintro e w0 ⟨rfl, b0⟩
    go_wp2_with fail
    refine (FR.out _).mono ?_
    rintro e w1 ⟨rfl, b1⟩
    go_upto_region 3 with fail
    generalize hW : World.alloc _ _ = W
    obtain ⟨g5, hg5⟩ : ∃ g, w1.heap.size = g := ⟨_, rfl⟩
    have r6 : W.heap[g5 + 1]? = some (.cells #[.int .i64 (cR f).1, .int .i64 (cR f).2.1, .int .i64 (cR f).2.2] 49) := by
      rw [← hW, ← hg5, Below.heap_alloc _ _ _ (by simp)]; exact heap_alloc2_new _ _ _
    have r7 : W.heap[g5 + 1 + 1]? = some (.cells #[.int .i64 (cU f).1, .int .i64 (cU f).2.1, .int .i64 (cU f).2.2] 49) := by rw [← hW, ← hg5]; exact heap_alloc3_new _ _ _ _
    have aw : Ab w1 W := by rw [← hW]; exact bl3 _ _ _ _
    have A1 : Ab (w.alloc (.cells #[.int .i64 0, .int .i64 0, .int .i64 0] 49)) W := (Ab.call b0 b1).trans aw
    have r4 := A1.heap (heap_alloc_new _ _)
    obtain ⟨⟨o0, o1, o2⟩, o3, o4, o5⟩ := rowfacts r4
    obtain ⟨-, x0, x1, x2⟩ := rowfacts r6
    have AW := hid (AZ.out.trans A1)
    have R4 := hid r4
    have RR := hid r6
    rw [hg5]
    clear r4 r6 r7 hW hg5 aw A1 b0 b1 AZ PL FR
    go_wp2
    refine bodyPost_ret ?_ rfl ⟨rfl, ?_⟩
    · exact results_cell_row Tryd.results24 _ _ w.heap.size _ _ (0, 0) _ rfl (row3 R4.out) Tryd.underlying49 rfl (by kernel_rfl)
    · exact ((AW.out.setk (Nat.le_refl _) _).setk (Nat.le_refl _) _).setk (Nat.le_refl _) _
  · go_enter Tryd.func24, Tryd.ntmps24
    go_wp2_with fail
    refine (PL.out _).mono ?_
    rintro e w0 ⟨rfl, b0⟩
    go_wp2_with fail
    refine (FR.out _).mono ?_
    rintro e w1 ⟨rfl, b1⟩
    go_upto_region 3 with fail
    generalize hW : World.alloc _ _ = W
    obtain ⟨g5, hg5⟩ : ∃ g, w1.heap.size = g := ⟨_, rfl⟩
    have r6 : W.heap[g5 + 1]? = some (.cells #[.int .i64 (cR f).1, .int .i64 (cR f).2.1, .int .i64 (cR f).2.2] 49) := by
      rw [← hW, ← hg5, Below.heap_alloc _ _ _ (by simp)]; exact heap_alloc2_new _ _ _
    have r7 : W.heap[g5 + 1 + 1]? = some (.cells #[.int .i64 (cU f).1, .int .i64 (cU f).2.1, .int .i64 (cU f).2.2] 49) := by rw [← hW, ← hg5]; exact heap_alloc3_new _ _ _ _
    have aw : Ab w1 W := by rw [← hW]; exact bl3 _ _ _ _
    have A1 : Ab (w.alloc (.cells #[.int .i64 0, .int .i64 0, .int .i64 0] 49)) W := (Ab.call b0 b1).trans aw
    have r4 := A1.heap (heap_alloc_new _ _)
    obtain ⟨⟨o0, o1, o2⟩, o3, o4, o5⟩ := rowfacts r4
    obtain ⟨-, x0, x1, x2⟩ := rowfacts r7
    have AW := hid (AZ.out.trans A1)
    have R4 := hid r4
    have RR := hid r7
    rw [hg5]
    clear r4 r6 r7 hW hg5 aw A1 b0 b1 AZ PL FR
    go_wp2
    refine bodyPost_ret ?_ rfl ⟨rfl, ?_⟩
    · exact results_cell_row Tryd.results24 _ _ w.heap.size _ _ (0, 0) _ rfl (row3 R4.out) Tryd.underlying49 rfl (by kernel_rfl)
    · exact ((AW.out.setk (Nat.le_refl _) _).setk (Nat.le_refl _) _).setk (Nat.le_refl _) _
  · go_enter Tryd.func24, Tryd.ntmps24
    go_wp2_with fail
    refine (PL.out _).mono ?_
    rintro e w0 ⟨rfl, b0⟩
    go_wp2_with fail
    refine (FR.out _).mono ?_
    rintro e w1 ⟨rfl, b1⟩
    go_upto_region 3 with fail
    generalize hW : World.alloc _ _ = W
    obtain ⟨g5, hg5⟩ : ∃ g, w1.heap.size = g := ⟨_, rfl⟩
    have r6 : W.heap[g5 + 1]? = some (.cells #[.int .i64 (cR f).1, .int .i64 (cR f).2.1, .int .i64 (cR f).2.2] 49) := by
      rw [← hW, ← hg5, Below.heap_alloc _ _ _ (by simp)]; exact heap_alloc2_new _ _ _
    have r7 : W.heap[g5 + 1 + 1]? = some (.cells #[.int .i64 (cU f).1, .int .i64 (cU f).2.1, .int .i64 (cU f).2.2] 49) := by rw [← hW, ← hg5]; exact heap_alloc3_new _ _ _ _
    have aw : Ab w1 W := by rw [← hW]; exact bl3 _ _ _ _
    have A1 : Ab (w.alloc (.cells #[.int .i64 0, .int .i64 0, .int .i64 0] 49)) W := (Ab.call b0 b1).trans aw
    have r4 := A1.heap (heap_alloc_new _ _)
    obtain ⟨⟨o0, o1, o2⟩, o3, o4, o5⟩ := rowfacts r4
    obtain ⟨-, x0, x1, x2⟩ := rowfacts r6
    have AW := hid (AZ.out.trans A1)
    have R4 := hid r4
    have RR := hid r6
    rw [hg5]
    clear r4 r6 r7 hW hg5 aw A1 b0 b1 AZ PL FR
    go_wp2_with fail
    refine (T2.out _).mono ?_
    rintro e w2 ⟨rfl, b2⟩
    have r4 := Ab.heap b2 R4.out
    clear o0 o1 o2 o3 o4 o5
    obtain ⟨⟨o0, o1, o2⟩, o3, o4, o5⟩ := rowfacts r4
    have R4' := hid r4
    have AW' := hid (AW.out.call b2)
    clear r4 b2
    go_wp2
    refine bodyPost_ret ?_ rfl ⟨rfl, ?_⟩
    · exact results_cell_row Tryd.results24 _ _ w.heap.size _ _ (0, 0) _ rfl (row3 R4'.out) Tryd.underlying49 rfl (by kernel_rfl)
    · exact ((AW'.out.setk (Nat.le_refl _) _).setk (Nat.le_refl _) _).setk (Nat.le_refl _) _
  · go_enter Tryd.func24, Tryd.ntmps24
    go_wp2_with fail
    refine (PL.out _).mono ?_
    rintro e w0 ⟨rfl, b0⟩
    go_wp2_with fail
    refine (FR.out _).mono ?_
    rintro e w1 ⟨rfl, b1⟩
    go_upto_region 3 with fail
    generalize hW : World.alloc _ _ = W
    obtain ⟨g5, hg5⟩ : ∃ g, w1.heap.size = g := ⟨_, rfl⟩
    have r6 : W.heap[g5 + 1]? = some (.cells #[.int .i64 (cR f).1, .int .i64 (cR f).2.1, .int .i64 (cR f).2.2] 49) := by
      rw [← hW, ← hg5, Below.heap_alloc _ _ _ (by simp)]; exact heap_alloc2_new _ _ _
    have r7 : W.heap[g5 + 1 + 1]? = some (.cells #[.int .i64 (cU f).1, .int .i64 (cU f).2.1, .int .i64 (cU f).2.2] 49) := by rw [← hW, ← hg5]; exact heap_alloc3_new _ _ _ _
    have aw : Ab w1 W := by rw [← hW]; exact bl3 _ _ _ _
    have A1 : Ab (w.alloc (.cells #[.int .i64 0, .int .i64 0, .int .i64 0] 49)) W := (Ab.call b0 b1).trans aw
    have r4 := A1.heap (heap_alloc_new _ _)
    obtain ⟨⟨o0, o1, o2⟩, o3, o4, o5⟩ := rowfacts r4
    obtain ⟨-, x0, x1, x2⟩ := rowfacts r7
    have AW := hid (AZ.out.trans A1)
    have R4 := hid r4
    have RR := hid r7
    rw [hg5]
    clear r4 r6 r7 hW hg5 aw A1 b0 b1 AZ PL FR
    go_wp2_with fail
    refine (T3.out _).mono ?_
    rintro e w2 ⟨rfl, b2⟩
    have r4 := Ab.heap b2 R4.out
    clear o0 o1 o2 o3 o4 o5
    obtain ⟨⟨o0, o1, o2⟩, o3, o4, o5⟩ := rowfacts r4
    have R4' := hid r4
    have AW' := hid (AW.out.call b2)
    clear r4 b2
    go_wp2
    refine bodyPost_ret ?_ rfl ⟨rfl, ?_⟩
    · exact results_cell_row Tryd.results24 _ _ w.heap.size _ _ (0, 0) _ rfl (row3 R4'.out) Tryd.underlying49 rfl (by kernel_rfl)
    · exact ((AW'.out.setk (Nat.le_refl _) _).setk (Nat.le_refl _) _).setk (Nat.le_refl _) _
end Go.Proofs.YthfholdhieigiaaDoor
