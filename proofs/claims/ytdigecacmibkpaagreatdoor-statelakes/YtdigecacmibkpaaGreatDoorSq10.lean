/-
  Some of the texts of this proof, one behind the other.
-/
import Derived.Test.YtdigecacmibkpaaGreatDoorSq09
set_option maxRecDepth 100000
set_option maxHeartbeats 400000000
namespace Go.Proofs.YtdigecacmibkpaaGreatDoor
open Go.RowKit Cu
theorem rplace_ok (n c : Nat) (hn : 1 <= n /\ n <= 32) (hc : c < 6 * n * n) (w : World) :
    Calls Tryz.prog 131 #[.int .i64 n, .int .i64 c] w fun e w' => e = .returned (.tuple #[.int .i64 (cf n c), .int .i64 (ci n c), .int .i64 (cj n c), .bool true]) /\ Below w.heap.size w w' := by
  have h := rplace_at n c w
  have hin : inR c (clN n) = true := by rw [inR_iff, clN_nat hn]; omega
  rw [hin, show pF n c = (cf n c : Nat) by simp [pF, hin, cf], show pI n c = (ci n c : Nat) by simp [pI, hin, ci], show pJ n c = (cj n c : Nat) by simp [pJ, hin, cj]] at h
  exact h.mono fun _ _ ⟨he, k, hw⟩ => ⟨he, hw ▸ (Ab.refl w).drewN k⟩
theorem pl_assoc (p q r : P3) : pl (pl p q) r = pl p (pl q r) := by simp [pl, Int.add_assoc]
theorem rmiddle_at (n c : Nat) (w : World) (hn : 1 <= n /\ n <= 32) (hc : c < 6 * n * n) :
    Calls Tryz.prog 98 #[.int .i64 n, .int .i64 c] w fun e w' => e = .returned (.agg #[.int .i64 (md n (cf n c) (ci n c) (cj n c)).1, .int .i64 (md n (cf n c) (ci n c) (cj n c)).2.1, .int .i64 (md n (cf n c) (ci n c) (cj n c)).2.2]) /\ Below w.heap.size w w' := by
  obtain ⟨h1, h2, h3, _⟩ := dec_lt hn.1 hc
  have PLc := fun u => rplace_ok n c hn hc u
  obtain ⟨f, hf⟩ : ∃ x, cf n c = x := ⟨_, rfl⟩
  obtain ⟨i, hi⟩ : ∃ x, ci n c = x := ⟨_, rfl⟩
  obtain ⟨j, hj⟩ : ∃ x, cj n c = x := ⟨_, rfl⟩
  rw [hf, hi, hj]
  rw [hf, hi, hj] at PLc
  rw [hf] at h1
  rw [hi] at h2
  rw [hj] at h3
  obtain ⟨a, ha⟩ : ∃ a : Int, 2 * (i : Int) + 1 - n = a := ⟨_, rfl⟩
  obtain ⟨b, hb⟩ : ∃ b : Int, 2 * (j : Int) + 1 - n = b := ⟨_, rfl⟩
  have u1 : IntKind.i64.wrap (IntKind.i64.wrap (IntKind.i64.wrap (2 * (i : Int)) + 1) - n) = a := by rw [wr (x := 2 * (i : Int)) (by omega), wr (x := 2 * (i : Int) + 1) (by omega), wr (by omega), ha]
  have u2 : IntKind.i64.wrap (IntKind.i64.wrap (IntKind.i64.wrap (2 * (j : Int)) + 1) - n) = b := by rw [wr (x := 2 * (j : Int)) (by omega), wr (x := 2 * (j : Int) + 1) (by omega), wr (by omega), hb]
  have S1 : Sm (sc n (cC f)) := sc_sm (un_C h1) (by omega)
  have S2 : Sm (sc a (cR f)) := sc_sm (un_R h1) (by omega)
  have S3 : Sm (sc b (cU f)) := sc_sm (un_U h1) (by omega)
  have S4 : Sm (pl (sc n (cC f)) (sc a (cR f))) := by
    have x1 := mul_un (un_C h1).1 32 (show -32 <= (n : Int) /\ (n : Int) <= 32 by omega)
    have x2 := mul_un (un_C h1).2.1 32 (show -32 <= (n : Int) /\ (n : Int) <= 32 by omega)
    have x3 := mul_un (un_C h1).2.2 32 (show -32 <= (n : Int) /\ (n : Int) <= 32 by omega)
    have y1 := mul_un (un_R h1).1 32 (show -32 <= a /\ a <= 32 by omega)
    have y2 := mul_un (un_R h1).2.1 32 (show -32 <= a /\ a <= 32 by omega)
    have y3 := mul_un (un_R h1).2.2 32 (show -32 <= a /\ a <= 32 by omega)
    simp only [Sm, pl, sc]
    omega
  have T1 : Hid (∀ u, Calls Tryz.prog 129 #[.agg #[.int .i64 0, .int .i64 0, .int .i64 0], .int .i64 n, .agg #[.int .i64 (cC f).1, .int .i64 (cC f).2.1, .int .i64 (cC f).2.2]] u fun e w' => e = .returned (.agg #[.int .i64 (sc n (cC f)).1, .int .i64 (sc n (cC f)).2.1, .int .i64 (sc n (cC f)).2.2]) /\ Below u.heap.size u w') := fun u => by
    have := rplus_at (0, 0, 0) n (cC f) u (by simp [Sm]) S1
    rw [pl_zero] at this
    exact this
  have T2 := hid (fun u => rplus_at (sc n (cC f)) a (cR f) u S1 S2)
  have T3 := hid (fun u => rplus_at (pl (sc n (cC f)) (sc a (cR f))) b (cU f) u S4 S3)
  have E : md n f i j = pl (pl (sc n (cC f)) (sc a (cR f))) (sc b (cU f)) := by rw [pl_assoc, <- ha, <- hb]; rfl
  rw [E]
  have PL := hid PLc
  have FR := hid (fun u => rframe_at f u h1)
  have A0 : Ab w (w.alloc (.cells #[.int .i64 0, .int .i64 0, .int .i64 0] 123)) := bl1 _ _
  have AZ := hid A0
  clear S1 S2 S3 S4 A0 E ha hb PLc hf hi hj h1 h2 h3 hn hc
  go_enter Tryz.func98, Tryz.ntmps98
  go_wp2_with fail
  refine (PL.out _).mono ?_
  rintro e w0 ⟨rfl, b0⟩
  go_wp2_with fail
  refine (FR.out _).mono ?_
  rintro e w1 ⟨rfl, b1⟩
  go_upto_region 3 with fail
  generalize hW : World.alloc _ _ = W
  obtain ⟨g5, hg5⟩ : ∃ g, w1.heap.size = g := ⟨_, rfl⟩
  have r5 : W.heap[g5]? = some (.cells #[.int .i64 (cC f).1, .int .i64 (cC f).2.1, .int .i64 (cC f).2.2] 123) := by
    rw [<- hW, <- hg5, Below.heap_alloc _ _ _ (by simp; omega)]; exact heap_alloc2_old _ _ _
  have r6 : W.heap[g5 + 1]? = some (.cells #[.int .i64 (cR f).1, .int .i64 (cR f).2.1, .int .i64 (cR f).2.2] 123) := by
    rw [<- hW, <- hg5, Below.heap_alloc _ _ _ (by simp)]; exact heap_alloc2_new _ _ _
  have r7 : W.heap[g5 + 1 + 1]? = some (.cells #[.int .i64 (cU f).1, .int .i64 (cU f).2.1, .int .i64 (cU f).2.2] 123) := by rw [<- hW, <- hg5]; exact heap_alloc3_new _ _ _ _
  have aw : Ab w1 W := by rw [<- hW]; exact bl3 _ _ _ _
  have a1 : Ab (w.alloc (.cells #[.int .i64 0, .int .i64 0, .int .i64 0] 123)) w1 := Ab.call b0 b1
  have A1 : Ab (w.alloc (.cells #[.int .i64 0, .int .i64 0, .int .i64 0] 123)) W := a1.trans aw
  have r4 := A1.heap (heap_alloc_new _ _)
  have n5 : w.heap.size + 1 <= g5 := by
    have := a1.size
    rw [hg5] at this
    simp at this
    omega
  have KS : Hid (∀ w', Abx W w.heap.size 3 123 w' -> Abx W w.heap.size 3 123 w' /\ w'.cell? ⟨g5, 0, none⟩ = some (.int .i64 (cC f).1) /\ w'.cell? ⟨g5, 1, none⟩ = some (.int .i64 (cC f).2.1) /\ w'.cell? ⟨g5, 2, none⟩ = some (.int .i64 (cC f).2.2) /\ w'.cell? ⟨g5 + 1, 0, none⟩ = some (.int .i64 (cR f).1) /\ w'.cell? ⟨g5 + 1, 1, none⟩ = some (.int .i64 (cR f).2.1) /\ w'.cell? ⟨g5 + 1, 2, none⟩ = some (.int .i64 (cR f).2.2) /\ w'.cell? ⟨g5 + 1 + 1, 0, none⟩ = some (.int .i64 (cU f).1) /\ w'.cell? ⟨g5 + 1 + 1, 1, none⟩ = some (.int .i64 (cU f).2.1) /\ w'.cell? ⟨g5 + 1 + 1, 2, none⟩ = some (.int .i64 (cU f).2.2) /\ w'.frozen? ⟨w.heap.size, 0, none⟩ = false /\ w'.frozen? ⟨w.heap.size, 1, none⟩ = false /\ w'.frozen? ⟨w.heap.size, 2, none⟩ = false /\ w'.cell? ⟨w.heap.size, 0, none⟩ = some (rv w' w.heap.size 0) /\ w'.cell? ⟨w.heap.size, 1, none⟩ = some (rv w' w.heap.size 1) /\ w'.cell? ⟨w.heap.size, 2, none⟩ = some (rv w' w.heap.size 2)) := by
    intro w' hw
    obtain ⟨-, p3, p4, p5⟩ := rowfacts (hw.heap (by omega) r5)
    obtain ⟨-, p6, p7, p8⟩ := rowfacts (hw.heap (by omega) r6)
    obtain ⟨-, p9, p10, p11⟩ := rowfacts (hw.heap (by omega) r7)
    exact ⟨hw, p3, p4, p5, p6, p7, p8, p9, p10, p11, hw.free 0, hw.free 1, hw.free 2, hw.some (by omega), hw.some (by omega), hw.some (by omega)⟩
  have A0 : Abx W w.heap.size 3 123 W := (Ab.refl W).x rfl r4
  have AW := hid (AZ.out.trans A1)
  rw [hg5]
  clear r4 r5 r6 r7 hW hg5 aw a1 A1 b0 b1 AZ n5 PL FR
  go_region_held3 (fun w' => Abx W w.heap.size 3 123 w' /\ w'.cell? ⟨g5, 0, none⟩ = some (.int .i64 (cC f).1) /\ w'.cell? ⟨g5, 1, none⟩ = some (.int .i64 (cC f).2.1) /\ w'.cell? ⟨g5, 2, none⟩ = some (.int .i64 (cC f).2.2) /\ w'.cell? ⟨g5 + 1, 0, none⟩ = some (.int .i64 (cR f).1) /\ w'.cell? ⟨g5 + 1, 1, none⟩ = some (.int .i64 (cR f).2.1) /\ w'.cell? ⟨g5 + 1, 2, none⟩ = some (.int .i64 (cR f).2.2) /\ w'.cell? ⟨g5 + 1 + 1, 0, none⟩ = some (.int .i64 (cU f).1) /\ w'.cell? ⟨g5 + 1 + 1, 1, none⟩ = some (.int .i64 (cU f).2.1) /\ w'.cell? ⟨g5 + 1 + 1, 2, none⟩ = some (.int .i64 (cU f).2.2) /\ w'.frozen? ⟨w.heap.size, 0, none⟩ = false /\ w'.frozen? ⟨w.heap.size, 1, none⟩ = false /\ w'.frozen? ⟨w.heap.size, 2, none⟩ = false /\ w'.cell? ⟨w.heap.size, 0, none⟩ = some (rv w' w.heap.size 0) /\ w'.cell? ⟨w.heap.size, 1, none⟩ = some (rv w' w.heap.size 1) /\ w'.cell? ⟨w.heap.size, 2, none⟩ = some (rv w' w.heap.size 2)) ((refine KS.out _ ?_; (with_reducible (repeat (first | assumption | apply Abx.drew | apply Abx.set | (refine Abx.call ?_ (by assumption))))); done)) (first
    | (go_at_call_of 129 (cU f); refine (T3.out _).mono ?_; rintro e w4 ⟨rfl, b4⟩)
    | (go_at_call_of 129 (cR f); refine (T2.out _).mono ?_; rintro e w3 ⟨rfl, b3⟩)
    | (go_at_call 129; refine (T1.out _).mono ?_; rintro e w2 ⟨rfl, b2⟩))
  have A2 := ((A0.drew.call b2).call b3).call b4
  clear KS A0
  go_wp2
  refine bodyPost_ret ?_ rfl ⟨rfl, ?_⟩
  · exact results_cell_row Tryz.results98 _ _ w.heap.size _ _ (0, 0) _ rfl (set3 A2) Tryz.underlying123 rfl (by kernel_rfl)
  · exact (((A2.set 0 _).set 1 _).set 2 _).ab AW.out (Nat.le_refl _)
theorem rway_at (n c s : Nat) (w : World) (hn : 1 <= n /\ n <= 32) (hc : c < 6 * n * n) (hs : s < 4) :
    Calls Tryz.prog 99 #[.int .i64 n, .int .i64 c, .int .i64 s] w fun e w' => e = .returned (.agg #[.int .i64 (wy (cf n c) s).1, .int .i64 (wy (cf n c) s).2.1, .int .i64 (wy (cf n c) s).2.2]) /\ Below w.heap.size w w' := by
  obtain ⟨h1, _⟩ := dec_lt hn.1 hc
  have PLc := fun u => rplace_ok n c hn hc u
  obtain ⟨f, hf⟩ : ∃ x, cf n c = x := ⟨_, rfl⟩
  rw [hf]
  rw [hf] at PLc h1
  have T2 : Hid (∀ u, Calls Tryz.prog 129 #[.agg #[.int .i64 0, .int .i64 0, .int .i64 0], .int .i64 (-1), .agg #[.int .i64 (cR f).1, .int .i64 (cR f).2.1, .int .i64 (cR f).2.2]] u fun e w' => e = .returned (.agg #[.int .i64 (sc (-1) (cR f)).1, .int .i64 (sc (-1) (cR f)).2.1, .int .i64 (sc (-1) (cR f)).2.2]) /\ Below u.heap.size u w') := fun u => by
    have := rplus_at (0, 0, 0) (-1) (cR f) u (by simp [Sm]) (sc_sm (un_R h1) (by omega))
    rw [pl_zero] at this
    exact this
  have T3 : Hid (∀ u, Calls Tryz.prog 129 #[.agg #[.int .i64 0, .int .i64 0, .int .i64 0], .int .i64 (-1), .agg #[.int .i64 (cU f).1, .int .i64 (cU f).2.1, .int .i64 (cU f).2.2]] u fun e w' => e = .returned (.agg #[.int .i64 (sc (-1) (cU f)).1, .int .i64 (sc (-1) (cU f)).2.1, .int .i64 (sc (-1) (cU f)).2.2]) /\ Below u.heap.size u w') := fun u => by
    have := rplus_at (0, 0, 0) (-1) (cU f) u (by simp [Sm]) (sc_sm (un_U h1) (by omega))
    rw [pl_zero] at this
    exact this
  have PL := hid PLc
  have FR := hid (fun u => rframe_at f u h1)
  have A0 : Ab w (w.alloc (.cells #[.int .i64 0, .int .i64 0, .int .i64 0] 123)) := bl1 _ _
  have AZ := hid A0
  clear A0 PLc hf h1 hn hc
  rcases four hs with rfl | rfl | rfl | rfl <;> clear hs
  · go_enter Tryz.func99, Tryz.ntmps99
    go_wp2_with fail
    refine (PL.out _).mono ?_
    rintro e w0 ⟨rfl, b0⟩
    go_wp2_with fail
    refine (FR.out _).mono ?_
    rintro e w1 ⟨rfl, b1⟩
    go_upto_region 3 with fail
    generalize hW : World.alloc _ _ = W
    obtain ⟨g5, hg5⟩ : ∃ g, w1.heap.size = g := ⟨_, rfl⟩
    have r6 : W.heap[g5 + 1]? = some (.cells #[.int .i64 (cR f).1, .int .i64 (cR f).2.1, .int .i64 (cR f).2.2] 123) := by
      rw [<- hW, <- hg5, Below.heap_alloc _ _ _ (by simp)]; exact heap_alloc2_new _ _ _
    have r7 : W.heap[g5 + 1 + 1]? = some (.cells #[.int .i64 (cU f).1, .int .i64 (cU f).2.1, .int .i64 (cU f).2.2] 123) := by rw [<- hW, <- hg5]; exact heap_alloc3_new _ _ _ _
    have aw : Ab w1 W := by rw [<- hW]; exact bl3 _ _ _ _
    have A1 : Ab (w.alloc (.cells #[.int .i64 0, .int .i64 0, .int .i64 0] 123)) W := (Ab.call b0 b1).trans aw
    have r4 := A1.heap (heap_alloc_new _ _)
    obtain ⟨⟨o0, o1, o2⟩, o3, o4, o5⟩ := rowfacts r4
    obtain ⟨-, x0, x1, x2⟩ := rowfacts r6
    have AW := hid (AZ.out.trans A1)
    have R4 := hid r4
    have RR := hid r6
    rw [hg5]
    clear r4 r6 r7 hW hg5 aw A1 b0 b1 AZ PL FR
    go_wp2
    refine bodyPost_ret ?_ rfl ⟨rfl, ?_⟩
    · exact results_cell_row Tryz.results99 _ _ w.heap.size _ _ (0, 0) _ rfl (row3 R4.out) Tryz.underlying123 rfl (by kernel_rfl)
    · exact ((AW.out.setk (Nat.le_refl _) _).setk (Nat.le_refl _) _).setk (Nat.le_refl _) _
  · go_enter Tryz.func99, Tryz.ntmps99
    go_wp2_with fail
    refine (PL.out _).mono ?_
    rintro e w0 ⟨rfl, b0⟩
    go_wp2_with fail
    refine (FR.out _).mono ?_
    rintro e w1 ⟨rfl, b1⟩
    go_upto_region 3 with fail
    generalize hW : World.alloc _ _ = W
    obtain ⟨g5, hg5⟩ : ∃ g, w1.heap.size = g := ⟨_, rfl⟩
    have r6 : W.heap[g5 + 1]? = some (.cells #[.int .i64 (cR f).1, .int .i64 (cR f).2.1, .int .i64 (cR f).2.2] 123) := by
      rw [<- hW, <- hg5, Below.heap_alloc _ _ _ (by simp)]; exact heap_alloc2_new _ _ _
    have r7 : W.heap[g5 + 1 + 1]? = some (.cells #[.int .i64 (cU f).1, .int .i64 (cU f).2.1, .int .i64 (cU f).2.2] 123) := by rw [<- hW, <- hg5]; exact heap_alloc3_new _ _ _ _
    have aw : Ab w1 W := by rw [<- hW]; exact bl3 _ _ _ _
    have A1 : Ab (w.alloc (.cells #[.int .i64 0, .int .i64 0, .int .i64 0] 123)) W := (Ab.call b0 b1).trans aw
    have r4 := A1.heap (heap_alloc_new _ _)
    obtain ⟨⟨o0, o1, o2⟩, o3, o4, o5⟩ := rowfacts r4
    obtain ⟨-, x0, x1, x2⟩ := rowfacts r7
    have AW := hid (AZ.out.trans A1)
    have R4 := hid r4
    have RR := hid r7
    rw [hg5]
    clear r4 r6 r7 hW hg5 aw A1 b0 b1 AZ PL FR
    go_wp2
    refine bodyPost_ret ?_ rfl ⟨rfl, ?_⟩
    · exact results_cell_row Tryz.results99 _ _ w.heap.size _ _ (0, 0) _ rfl (row3 R4.out) Tryz.underlying123 rfl (by kernel_rfl)
    · exact ((AW.out.setk (Nat.le_refl _) _).setk (Nat.le_refl _) _).setk (Nat.le_refl _) _
  · go_enter Tryz.func99, Tryz.ntmps99
    go_wp2_with fail
    refine (PL.out _).mono ?_
    rintro e w0 ⟨rfl, b0⟩
    go_wp2_with fail
    refine (FR.out _).mono ?_
    rintro e w1 ⟨rfl, b1⟩
    go_upto_region 3 with fail
    generalize hW : World.alloc _ _ = W
    obtain ⟨g5, hg5⟩ : ∃ g, w1.heap.size = g := ⟨_, rfl⟩
    have r6 : W.heap[g5 + 1]? = some (.cells #[.int .i64 (cR f).1, .int .i64 (cR f).2.1, .int .i64 (cR f).2.2] 123) := by
      rw [<- hW, <- hg5, Below.heap_alloc _ _ _ (by simp)]; exact heap_alloc2_new _ _ _
    have r7 : W.heap[g5 + 1 + 1]? = some (.cells #[.int .i64 (cU f).1, .int .i64 (cU f).2.1, .int .i64 (cU f).2.2] 123) := by rw [<- hW, <- hg5]; exact heap_alloc3_new _ _ _ _
    have aw : Ab w1 W := by rw [<- hW]; exact bl3 _ _ _ _
    have A1 : Ab (w.alloc (.cells #[.int .i64 0, .int .i64 0, .int .i64 0] 123)) W := (Ab.call b0 b1).trans aw
    have r4 := A1.heap (heap_alloc_new _ _)
    obtain ⟨⟨o0, o1, o2⟩, o3, o4, o5⟩ := rowfacts r4
    obtain ⟨-, x0, x1, x2⟩ := rowfacts r6
    have AW := hid (AZ.out.trans A1)
    have R4 := hid r4
    have RR := hid r6
    rw [hg5]
    clear r4 r6 r7 hW hg5 aw A1 b0 b1 AZ PL FR
    go_wp2_with fail
    refine (T2.out _).mono ?_
    rintro e w2 ⟨rfl, b2⟩
    have r4 := Ab.heap b2 R4.out
    clear o0 o1 o2 o3 o4 o5
    obtain ⟨⟨o0, o1, o2⟩, o3, o4, o5⟩ := rowfacts r4
    have R4' := hid r4
    have AW' := hid (AW.out.call b2)
    clear r4 b2
    go_wp2
    refine bodyPost_ret ?_ rfl ⟨rfl, ?_⟩
    · exact results_cell_row Tryz.results99 _ _ w.heap.size _ _ (0, 0) _ rfl (row3 R4'.out) Tryz.underlying123 rfl (by kernel_rfl)
    · exact ((AW'.out.setk (Nat.le_refl _) _).setk (Nat.le_refl _) _).setk (Nat.le_refl _) _
  · go_enter Tryz.func99, Tryz.ntmps99
    go_wp2_with fail
    refine (PL.out _).mono ?_
    rintro e w0 ⟨rfl, b0⟩
    go_wp2_with fail
    refine (FR.out _).mono ?_
    rintro e w1 ⟨rfl, b1⟩
    go_upto_region 3 with fail
    generalize hW : World.alloc _ _ = W
    obtain ⟨g5, hg5⟩ : ∃ g, w1.heap.size = g := ⟨_, rfl⟩
    have r6 : W.heap[g5 + 1]? = some (.cells #[.int .i64 (cR f).1, .int .i64 (cR f).2.1, .int .i64 (cR f).2.2] 123) := by
      rw [<- hW, <- hg5, Below.heap_alloc _ _ _ (by simp)]; exact heap_alloc2_new _ _ _
    have r7 : W.heap[g5 + 1 + 1]? = some (.cells #[.int .i64 (cU f).1, .int .i64 (cU f).2.1, .int .i64 (cU f).2.2] 123) := by rw [<- hW, <- hg5]; exact heap_alloc3_new _ _ _ _
    have aw : Ab w1 W := by rw [<- hW]; exact bl3 _ _ _ _
    have A1 : Ab (w.alloc (.cells #[.int .i64 0, .int .i64 0, .int .i64 0] 123)) W := (Ab.call b0 b1).trans aw
    have r4 := A1.heap (heap_alloc_new _ _)
    obtain ⟨⟨o0, o1, o2⟩, o3, o4, o5⟩ := rowfacts r4
    obtain ⟨-, x0, x1, x2⟩ := rowfacts r7
    have AW := hid (AZ.out.trans A1)
    have R4 := hid r4
    have RR := hid r7
    rw [hg5]
    clear r4 r6 r7 hW hg5 aw A1 b0 b1 AZ PL FR
    go_wp2_with fail
    refine (T3.out _).mono ?_
    rintro e w2 ⟨rfl, b2⟩
    have r4 := Ab.heap b2 R4.out
    clear o0 o1 o2 o3 o4 o5
    obtain ⟨⟨o0, o1, o2⟩, o3, o4, o5⟩ := rowfacts r4
    have R4' := hid r4
    have AW' := hid (AW.out.call b2)
    clear r4 b2
    go_wp2
    refine bodyPost_ret ?_ rfl ⟨rfl, ?_⟩
    · exact results_cell_row Tryz.results99 _ _ w.heap.size _ _ (0, 0) _ rfl (row3 R4'.out) Tryz.underlying123 rfl (by kernel_rfl)
    · exact ((AW'.out.setk (Nat.le_refl _) _).setk (Nat.le_refl _) _).setk (Nat.le_refl _) _
end Go.Proofs.YtdigecacmibkpaaGreatDoor

namespace Go.Proofs.YtdigecacmibkpaaGreatDoor
open Cu
def mm (e : P3) (f s : Nat) : P3 := pl e (sc (-1) (wy f s))
def gI (n : Nat) (e : P3) (f s : Nat) : Int := dt (mm e f s) (cR f) + n - 1
def gJ (n : Nat) (e : P3) (f s : Nat) : Int := dt (mm e f s) (cU f) + n - 1
def eg (n f t a b : Nat) : P3 := pl (ms n f t a b) (wy f t)
theorem eg_on {n f t a b : Nat} (hf : f < 6) (ht : t < 4) : dt (eg n f t a b) (cC f) = n := by
  rcases six hf with rfl | rfl | rfl | rfl | rfl | rfl <;> rcases four ht with rfl | rfl | rfl | rfl <;> simp only [eg, ms, pl, sc, dt, cC, cR, cU, wy, Nat.reduceAdd, Nat.reduceMod] <;> omega
theorem eg_only {n f t a b k : Nat} (hf : f < 6) (ht : t < 4) (hk : k < 6) (_ha : a < n) (hb : b < n) : ¬ dt (eg n f t a b) (cC k) = n \/ k = f \/ (a + 1 = n /\ k = nf f t) := by
  rcases six hf with rfl | rfl | rfl | rfl | rfl | rfl <;> rcases four ht with rfl | rfl | rfl | rfl <;> rcases six hk with rfl | rfl | rfl | rfl | rfl | rfl <;> simp only [eg, ms, pl, sc, dt, cC, cR, cU, wy, nf, List.getD, List.getElem?_cons_zero, List.getElem?_cons_succ, Option.getD_some, Nat.reduceAdd, Nat.reduceMod, true_or, or_true, and_true] <;> omega
theorem g_same {n f t a b : Nat} (hf : f < 6) (ht : t < 4) (ha : a < n) (hb : b < n) : gI n (eg n f t a b) f t = 2 * (atI n t a b : Nat) /\ gJ n (eg n f t a b) f t = 2 * (atJ n t a b : Nat) := by
  rcases six hf with rfl | rfl | rfl | rfl | rfl | rfl <;> rcases four ht with rfl | rfl | rfl | rfl <;> simp only [gI, gJ, mm, eg, ms, pl, sc, dt, cC, cR, cU, wy, atI, atJ, Nat.reduceAdd, Nat.reduceMod] <;> omega
def upI (n t a b : Nat) : Int := match t with | 0 => a + 1 | 1 => n - 1 - b | 2 => n - 2 - a | _ => b
def upJ (n t a b : Nat) : Int := match t with | 0 => b | 1 => a + 1 | 2 => n - 1 - b | _ => n - 2 - a
theorem g_next {n f t a b : Nat} (hf : f < 6) (ht : t < 4) : gI n (eg n f t a b) f ((t + 2) % 4) = 2 * upI n t a b /\ gJ n (eg n f t a b) f ((t + 2) % 4) = 2 * upJ n t a b := by
  rcases six hf with rfl | rfl | rfl | rfl | rfl | rfl <;> rcases four ht with rfl | rfl | rfl | rfl <;> simp only [gI, gJ, mm, eg, ms, pl, sc, dt, cC, cR, cU, wy, upI, upJ, Nat.reduceAdd, Nat.reduceMod] <;> omega
theorem g_odd {n f t a b s : Nat} (hf : f < 6) (ht : t < 4) (hs : s < 4) (h1 : s ≠ t) (h2 : s ≠ (t + 2) % 4) : gI n (eg n f t a b) f s % 2 = 1 /\ gJ n (eg n f t a b) f s % 2 = 1 := by
  rcases six hf with rfl | rfl | rfl | rfl | rfl | rfl <;> rcases four ht with rfl | rfl | rfl | rfl <;> rcases four hs with rfl | rfl | rfl | rfl <;> first
    | exact absurd rfl h1
    | exact absurd rfl h2
    | (simp only [gI, gJ, mm, eg, ms, pl, sc, dt, cC, cR, cU, wy, Nat.reduceAdd, Nat.reduceMod]; omega)
theorem ms_rev {n f s a b : Nat} (hf : f < 6) (hs : s < 4) (ha : a < n) (hb : b < n) : ms n f ((s + 2) % 4) (n - 1 - a) (n - 1 - b) = ms n f s a b := by
  rcases six hf with rfl | rfl | rfl | rfl | rfl | rfl <;> rcases four hs with rfl | rfl | rfl | rfl <;> simp only [ms, pl, sc, cC, cR, cU, wy, Nat.reduceAdd, Nat.reduceMod, Prod.mk.injEq] <;> omega
theorem tdm (k : Int) : (2 * k).tdiv 2 = k /\ (2 * k).tmod 2 = 0 := ⟨Int.mul_tdiv_cancel_left k (by omega), Int.mul_tmod_right 2 k⟩
theorem tdo {x : Int} (h : x % 2 = 1) : x.tmod 2 ≠ 0 := by
  intro h2
  have := Int.dvd_of_tmod_eq_zero h2
  omega
def gd (n : Nat) (e : P3) (f s : Nat) : Int := cN n f ((gI n e f s).tdiv 2) ((gJ n e f s).tdiv 2)
theorem cN_nm {n f i j : Nat} (hn : 1 <= n /\ n <= 32) (hf : f < 6) (hi : i < n) (hj : j < n) : cN n f i j = (nm n f i j : Nat) := by
  unfold cN
  rw [if_pos ⟨by omega, by rw [inR_iff]; omega, by rw [inR_iff]; omega, by rw [inR_iff]; omega⟩]
  simp [nm]
theorem cN_out {n f : Nat} {i j : Int} (h : ¬ ((0 <= i /\ i < n) /\ 0 <= j /\ j < n)) : cN n f i j = -1 := by
  unfold cN
  rw [if_neg]
  rintro ⟨_, _, h1, h2⟩
  rw [inR_iff] at h1 h2
  exact h ⟨h1, h2⟩
theorem up_in {n t a b : Nat} (ht : t < 4) (ha : a + 1 < n) (hb : b < n) : upI n t a b = (atI n t (a + 1) b : Nat) /\ upJ n t a b = (atJ n t (a + 1) b : Nat) := by
  rcases four ht with rfl | rfl | rfl | rfl <;> simp only [upI, upJ, atI, atJ, true_and, and_true] <;> omega
theorem up_out {n t a b : Nat} (ht : t < 4) (ha : a + 1 = n) : ¬ ((0 <= upI n t a b /\ upI n t a b < n) /\ 0 <= upJ n t a b /\ upJ n t a b < n) := by
  rcases four ht with rfl | rfl | rfl | rfl <;> simp only [upI, upJ] <;> omega
theorem fam_same {n f t a b : Nat} (hn : 1 <= n /\ n <= 32) (hf : f < 6) (ht : t < 4) (ha : a < n) (hb : b < n) :
    (gI n (eg n f t a b) f t).tmod 2 = 0 /\ (gJ n (eg n f t a b) f t).tmod 2 = 0 /\ gd n (eg n f t a b) f t = (Pn n f t a b : Nat) := by
  obtain ⟨h1, h2⟩ := g_same hf ht ha hb
  unfold gd
  rw [h1, h2, (tdm _).1, (tdm _).1, (tdm _).2, (tdm _).2]
  exact ⟨rfl, rfl, cN_nm hn hf (at_lt ha hb).1 (at_lt ha hb).2⟩
theorem fam_next {n f t a b : Nat} (hn : 1 <= n /\ n <= 32) (hf : f < 6) (ht : t < 4) (ha : a < n) (hb : b < n) :
    (gI n (eg n f t a b) f ((t + 2) % 4)).tmod 2 = 0 /\ (gJ n (eg n f t a b) f ((t + 2) % 4)).tmod 2 = 0 /\ gd n (eg n f t a b) f ((t + 2) % 4) = if a + 1 < n then ((Pn n f t (a + 1) b : Nat) : Int) else -1 := by
  obtain ⟨h1, h2⟩ := g_next (n := n) (a := a) (b := b) hf ht
  unfold gd
  rw [h1, h2, (tdm _).1, (tdm _).1, (tdm _).2, (tdm _).2]
  refine ⟨rfl, rfl, ?_⟩
  by_cases h : a + 1 < n
  · rw [if_pos h, (up_in ht h hb).1, (up_in ht h hb).2]
    exact cN_nm hn hf (at_lt h hb).1 (at_lt h hb).2
  · rw [if_neg h]
    exact cN_out (up_out ht (by omega))
theorem eg_edge {n f t a b : Nat} (hf : f < 6) (ht : t < 4) (ha : a + 1 = n) (hb : b < n) : eg n f t a b = eg n (nf f t) ((ns f t + 2) % 4) a (n - 1 - b) := by
  obtain ⟨h1, h2⟩ := nf_lt f hf t ht
  have h := ms_edge (b := b) hf ht ha
  have hr := ms_rev (a := 0) (b := b) h1 h2 (show 0 < n by omega) hb
  rw [show n - 1 - 0 = a by omega] at hr
  have hb := (wy_back f hf t ht).2
  unfold eg
  rw [hr, <- h, <- hb]
  simp only [pl, sc, Prod.mk.injEq]
  omega
theorem scan {n f t a b k s : Nat} (hn : 1 <= n /\ n <= 32) (hf : f < 6) (ht : t < 4) (ha : a < n) (hb : b < n) (hk : k < 6) (hs : s < 4) (hd : dt (eg n f t a b) (cC k) = n) :
    (gI n (eg n f t a b) k s).tmod 2 ≠ 0 \/ ((gI n (eg n f t a b) k s).tmod 2 = 0 /\ (gJ n (eg n f t a b) k s).tmod 2 = 0 ∧
      (gd n (eg n f t a b) k s = -1 \/ gd n (eg n f t a b) k s = (Pn n f t a b : Nat) \/ (gd n (eg n f t a b) k s = (bsC n (Pn n f t a b) t : Nat) /\ s = bsS n (Pn n f t a b) t))) := by
  obtain ⟨b1, b2⟩ := bs_Pn (f := f) ht ha hb
  rcases (eg_only hf ht hk ha hb).resolve_left (fun h => h hd) with rfl | ⟨he, rfl⟩
  · by_cases h1 : s = t
    · subst h1
      obtain ⟨x, y, z⟩ := fam_same hn hf ht ha hb
      exact .inr ⟨x, y, .inr (.inl z)⟩
    · by_cases h2 : s = (t + 2) % 4
      · subst h2
        obtain ⟨x, y, z⟩ := fam_next hn hf ht ha hb
        refine .inr ⟨x, y, ?_⟩
        rw [z, b1, b2]
        by_cases h : a + 1 < n
        · rw [if_pos h, if_pos h, if_pos h]; exact .inr (.inr ⟨rfl, rfl⟩)
        · rw [if_neg h]; exact .inl rfl
      · exact .inl (tdo (g_odd hf ht hs h1 h2).1)
  · obtain ⟨l1, l2⟩ := nf_lt f hf t ht
    have l3 : (ns f t + 2) % 4 < 4 := Nat.mod_lt _ (by omega)
    have hb' : n - 1 - b < n := by omega
    rw [eg_edge hf ht he hb, b1, b2, if_neg (by omega), if_neg (by omega)]
    have hP : Pn n (nf f t) (ns f t) 0 b = Pn n (nf f t) ((ns f t + 2) % 4) a (n - 1 - b) := by
      rw [Pn_rot2 l2 (show 0 < n by omega) hb, show n - 1 - 0 = a by omega]
    by_cases h1 : s = (ns f t + 2) % 4
    · subst h1
      obtain ⟨x, y, z⟩ := fam_same hn l1 l3 ha hb'
      exact .inr ⟨x, y, .inr (.inr ⟨by rw [z, hP], rfl⟩)⟩
    · by_cases h2 : s = ((ns f t + 2) % 4 + 2) % 4
      · subst h2
        obtain ⟨x, y, z⟩ := fam_next hn l1 l3 ha hb'
        rw [if_neg (by omega)] at z
        exact .inr ⟨x, y, .inl z⟩
      · exact .inl (tdo (g_odd l1 l3 hs h1 h2).1)
theorem scan_hit {n f t a b : Nat} (hn : 1 <= n /\ n <= 32) (hf : f < 6) (ht : t < 4) (ha : a < n) (hb : b < n) :
    ∃ k s, k < 6 /\ s < 4 /\ dt (eg n f t a b) (cC k) = n /\ (gI n (eg n f t a b) k s).tmod 2 = 0 /\ (gJ n (eg n f t a b) k s).tmod 2 = 0 ∧
      gd n (eg n f t a b) k s = (bsC n (Pn n f t a b) t : Nat) /\ s = bsS n (Pn n f t a b) t := by
  obtain ⟨b1, b2⟩ := bs_Pn (f := f) ht ha hb
  by_cases h : a + 1 < n
  · obtain ⟨x, y, z⟩ := fam_next hn hf ht ha hb
    refine ⟨f, (t + 2) % 4, hf, Nat.mod_lt _ (by omega), eg_on hf ht, x, y, ?_, ?_⟩
    · rw [z, b1, if_pos h, if_pos h]
    · rw [b2, if_pos h]
  · obtain ⟨l1, l2⟩ := nf_lt f hf t ht
    have l3 : (ns f t + 2) % 4 < 4 := Nat.mod_lt _ (by omega)
    have hb' : n - 1 - b < n := by omega
    obtain ⟨x, y, z⟩ := fam_same hn l1 l3 ha hb'
    rw [b1, b2, if_neg h, if_neg h, eg_edge hf ht (by omega) hb]
    refine ⟨nf f t, (ns f t + 2) % 4, l1, l3, eg_on l1 l3, x, y, ?_, rfl⟩
    rw [z, Pn_rot2 (s := ns f t) l2 (show 0 < n by omega) hb, show n - 1 - 0 = a by omega]
end Go.Proofs.YtdigecacmibkpaaGreatDoor
