/-
  Where a turn takes the axes, in the reference: contract.
-/
import Derived.Test.YthfholdhieigiaaDoorXb
namespace Go.Proofs.YthfholdhieigiaaDoor
open Go.RowKit Cu
theorem dt_comm (p q : P3) : dt p q = dt q p := by unfold dt; rw [Int.mul_comm p.1, Int.mul_comm p.2.1, Int.mul_comm p.2.2]
theorem prp_is : ∀ F < 6, ∀ m < 4, ∀ j < 6, dt (cC j) (cC F) = 0 → acN F j = m → j = prp F m := by decide +kernel
theorem W3 {W w1 : World} {A B C : Obj} (h : ((w1.alloc A).alloc B).alloc C = W) : W.heap[w1.heap.size]? = some A ∧ Ab w1 W := by
  subst h
  refine ⟨?_, bl3 _ _ _ _⟩
  rw [Below.heap_alloc _ _ _ (by simp; omega)]
  exact heap_alloc2_old _ _ _
set_option maxHeartbeats 8000000 in
theorem images_at (t : Nat) (w : World) (ht : t < 24) :
    Calls Tryd.prog 38 #[.int .i64 t] w fun e w' => e = .returned (.tuple #[.agg #[.int .i64 (rX t).1, .int .i64 (rX t).2.1, .int .i64 (rX t).2.2], .agg #[.int .i64 (rY t).1, .int .i64 (rY t).2.1, .int .i64 (rY t).2.2], .agg #[.int .i64 (rZ t).1, .int .i64 (rZ t).2.1, .int .i64 (rZ t).2.2]]) ∧ Below w.heap.size w w' := by
  obtain ⟨F, hF⟩ : ∃ F, t / 4 = F := ⟨_, rfl⟩
  obtain ⟨m, hm⟩ : ∃ m, t % 4 = m := ⟨_, rfl⟩
  have hF6 : F < 6 := by omega
  have hm4 : m < 4 := by omega
  have v1 : (t : Int).tdiv 4 = F := by rw [Int.tdiv_eq_ediv_of_nonneg (by omega)]; omega
  have v2 : (t : Int) % 4 = m := by omega
  have eX : rX t = cC F := by unfold rX; rw [hF]
  have eY : rY t = cC (prp F m) := by unfold rY; rw [hF, hm]
  have eZ : rZ t = cx (cC F) (cC (prp F m)) := by unfold rZ; rw [eX, eY]
  rw [eX, eY, eZ]
  clear eX eY eZ hF hm
  have FR := hid (fun (f : Nat) (hf : f < 6) u => rframe_at f u hf)
  have A0 : Ab w (((w.alloc (.cells #[.int .i64 0, .int .i64 0, .int .i64 0] 49)).alloc (.cells #[.int .i64 0, .int .i64 0, .int .i64 0] 49)).alloc (.cells #[.int .i64 0, .int .i64 0, .int .i64 0] 49)) := bl3 _ _ _ _
  have q0 : (((w.alloc (.cells #[.int .i64 0, .int .i64 0, .int .i64 0] 49)).alloc (.cells #[.int .i64 0, .int .i64 0, .int .i64 0] 49)).alloc (.cells #[.int .i64 0, .int .i64 0, .int .i64 0] 49)).heap[w.heap.size]? = some (.cells #[.int .i64 0, .int .i64 0, .int .i64 0] 49) := by
    rw [Below.heap_alloc _ _ _ (by simp; omega)]; exact heap_alloc2_old _ _ _
  have q1 : (((w.alloc (.cells #[.int .i64 0, .int .i64 0, .int .i64 0] 49)).alloc (.cells #[.int .i64 0, .int .i64 0, .int .i64 0] 49)).alloc (.cells #[.int .i64 0, .int .i64 0, .int .i64 0] 49)).heap[w.heap.size + 1]? = some (.cells #[.int .i64 0, .int .i64 0, .int .i64 0] 49) := by
    rw [Below.heap_alloc _ _ _ (by simp)]; exact heap_alloc2_new _ _ _
  have q2 : (((w.alloc (.cells #[.int .i64 0, .int .i64 0, .int .i64 0] 49)).alloc (.cells #[.int .i64 0, .int .i64 0, .int .i64 0] 49)).alloc (.cells #[.int .i64 0, .int .i64 0, .int .i64 0] 49)).heap[w.heap.size + 1 + 1]? = some (.cells #[.int .i64 0, .int .i64 0, .int .i64 0] 49) := heap_alloc3_new _ _ _ _
  have HQ := hid (And.intro q0 (And.intro q1 q2))
  have AZ := hid A0
  have hF' : (F : Int) < 6 := by omega
  have FF := hid (rframe_at F (((w.alloc (.cells #[.int .i64 0, .int .i64 0, .int .i64 0] 49)).alloc (.cells #[.int .i64 0, .int .i64 0, .int .i64 0] 49)).alloc (.cells #[.int .i64 0, .int .i64 0, .int .i64 0] 49)) hF6)
  clear q0 q1 q2 A0
  go_enter Tryd.func38, Tryd.ntmps38
  go_wp2_with fail
  refine FF.out.mono ?_
  rintro e w1 ⟨rfl, b1⟩
  go_wp2
  generalize hW : World.alloc _ _ = W
  obtain ⟨g5, hg5⟩ : ∃ g, w1.heap.size = g := ⟨_, rfl⟩
  obtain ⟨r5, aw⟩ := W3 hW
  rw [hg5] at r5
  have A1 := Ab.trans b1 aw
  have n5 : Hid (w.heap.size + 3 ≤ g5) := by
    have := Below.size b1
    rw [hg5] at this
    simp at this
    show w.heap.size + 3 ≤ g5
    omega
  have R5 := hid r5
  have AW := hid (AZ.out.trans A1)
  obtain ⟨q0, q1, q2⟩ := HQ.out
  have HQ' := hid (And.intro (A1.heap q0) (And.intro (A1.heap q1) (A1.heap q2)))
  rw [hg5]
  have V2 := hid v2
  clear hW hg5 r5 aw A1 b1 q0 q1 q2 HQ AZ FF v2 v1
  go_loopw [8, 9] (fun kv iv wr => ∃ j : Nat, j ≤ 6 ∧ acN F j ≤ m ∧ iv = .int .i64 (j : Nat) ∧ kv = .int .i64 ((m : Int) - acN F j) ∧ Ab W wr) (fun _ iv _ => 6 - (intOf iv).toNat)
  case atStart => exact ⟨0, by omega, by simp [acN], rfl, by simp [acN]; exact V2.out, Ab.refl _⟩
  case round =>
    obtain ⟨j, hj, hac, rfl, rfl, A⟩ := hrel
    have hj6 : j < 6 := by
      rcases Nat.lt_or_ge j 6 with h | h
      · exact h
      · have := acN_six F hF6
        rw [show j = 6 by omega, this] at hac
        omega
    have hj' : (j : Int) < 6 := by omega
    obtain ⟨a, ha⟩ : ∃ a, acN F j = a := ⟨_, rfl⟩
    rw [ha] at hac ⊢
    have ha' : (a : Int) ≤ m := by omega
    have hm' : (m : Int) < 4 := by omega
    have F1 := hid (FR.out j hj6 wr)
    have AA := hid A
    have HJ := hid hj6
    have HAC := hid hac
    have HA := hid ha
    have DO := hid (fun u => rdot_at (cC F) (cC j) u (un_C hF6).sm (un_C hj6))
    have CR := hid (fun u => rcross_at (cC F) (cC j) u (un_C hF6) (un_C hj6))
    clear A ha hac hj6
    go_wp2_with fail
    refine F1.out.mono ?_
    rintro e w2 ⟨rfl, b2⟩
    have A2 := hid (AA.out.call b2)
    have r5 := (AA.out.call b2).heap R5.out
    obtain ⟨-, x0, x1, x2⟩ := rowfacts r5
    have hlt := lt_of_block r5
    have hlt1 : g5 < w2.heap.size + 1 := by omega
    have hlt2 : g5 < w2.heap.size + 1 + 1 := by omega
    clear b2 r5
    by_cases hd : dt (cC F) (cC j) = 0
    · rw [hd] at DO
      have HD := hid hd
      clear hd
      by_cases hma : m = a
      · have g0 : ((m : Int) - (a : Int) == 0) = true := by simp; omega
        have g0' : (m : Int) - (a : Int) = 0 := by omega
        have HMA := hid hma
        clear hma
        go_upto_region 9 with (go_at_call 26; refine (DO.out _).mono ?_; rintro e w3 ⟨rfl, b3⟩)
        obtain ⟨g10, hg10⟩ : ∃ g, w2.heap.size = g := ⟨_, rfl⟩
        have r10 : w3.heap[g10]? = some (.cells #[.int .i64 (cC j).1, .int .i64 (cC j).2.1, .int .i64 (cC j).2.2] 49) := by
          refine (b3.block _ (by simp; omega)).trans ?_
          rw [← hg10, Below.heap_alloc _ _ _ (by simp; omega)]
          exact heap_alloc2_old _ _ _
        have A3w : Ab W w3 := (((A2.out.alloc _).alloc _).alloc _).call b3
        have r5 := A3w.heap R5.out
        have hA0 : A3 w3 w.heap.size w3 := (Ab.refl w3).a3 (fun i hi => by
          obtain ⟨q0, q1, q2⟩ := HQ'.out
          rcases (show i = 0 ∨ i = 1 ∨ i = 2 by omega) with rfl | rfl | rfl
          · exact ⟨_, _, _, A3w.heap q0⟩
          · exact ⟨_, _, _, A3w.heap q1⟩
          · exact ⟨_, _, _, A3w.heap q2⟩)
        have n10 : w.heap.size + 3 ≤ g10 := by
          have h1 := A2.out.size
          have h2 := lt_of_block R5.out
          have h3 := n5.out
          omega
        have KS : Hid (∀ w', A3 w3 w.heap.size w' → A3 w3 w.heap.size w' ∧ w'.cell? ⟨g5, 0, none⟩ = some (.int .i64 (cC F).1) ∧ w'.cell? ⟨g5, 1, none⟩ = some (.int .i64 (cC F).2.1) ∧ w'.cell? ⟨g5, 2, none⟩ = some (.int .i64 (cC F).2.2) ∧ w'.cell? ⟨g10, 0, none⟩ = some (.int .i64 (cC j).1) ∧ w'.cell? ⟨g10, 1, none⟩ = some (.int .i64 (cC j).2.1) ∧ w'.cell? ⟨g10, 2, none⟩ = some (.int .i64 (cC j).2.2) ∧ w'.frozen? ⟨w.heap.size, 0, none⟩ = false ∧ w'.frozen? ⟨w.heap.size, 1, none⟩ = false ∧ w'.frozen? ⟨w.heap.size, 2, none⟩ = false ∧ w'.frozen? ⟨w.heap.size + 1, 0, none⟩ = false ∧ w'.frozen? ⟨w.heap.size + 1, 1, none⟩ = false ∧ w'.frozen? ⟨w.heap.size + 1, 2, none⟩ = false ∧ w'.frozen? ⟨w.heap.size + 1 + 1, 0, none⟩ = false ∧ w'.frozen? ⟨w.heap.size + 1 + 1, 1, none⟩ = false ∧ w'.frozen? ⟨w.heap.size + 1 + 1, 2, none⟩ = false ∧ w'.cell? ⟨w.heap.size, 0, none⟩ = some (rv w' (w.heap.size) 0) ∧ w'.cell? ⟨w.heap.size, 1, none⟩ = some (rv w' (w.heap.size) 1) ∧ w'.cell? ⟨w.heap.size, 2, none⟩ = some (rv w' (w.heap.size) 2) ∧ w'.cell? ⟨w.heap.size + 1, 0, none⟩ = some (rv w' (w.heap.size + 1) 0) ∧ w'.cell? ⟨w.heap.size + 1, 1, none⟩ = some (rv w' (w.heap.size + 1) 1) ∧ w'.cell? ⟨w.heap.size + 1, 2, none⟩ = some (rv w' (w.heap.size + 1) 2) ∧ w'.cell? ⟨w.heap.size + 1 + 1, 0, none⟩ = some (rv w' (w.heap.size + 1 + 1) 0) ∧ w'.cell? ⟨w.heap.size + 1 + 1, 1, none⟩ = some (rv w' (w.heap.size + 1 + 1) 1) ∧ w'.cell? ⟨w.heap.size + 1 + 1, 2, none⟩ = some (rv w' (w.heap.size + 1 + 1) 2)) := by
          intro w' hw
          obtain ⟨-, p0, p1, p2⟩ := rowfacts (hw.heap (Or.inr n5.out) r5)
          obtain ⟨-, p3, p4, p5⟩ := rowfacts (hw.heap (Or.inr n10) r10)
          obtain ⟨⟨f0, f1, f2⟩, c0, c1, c2⟩ := hw.facts 0 (by omega)
          obtain ⟨⟨f3, f4, f5⟩, c3, c4, c5⟩ := hw.facts 1 (by omega)
          obtain ⟨⟨f6, f7, f8⟩, c6, c7, c8⟩ := hw.facts 2 (by omega)
          exact ⟨hw, p0, p1, p2, p3, p4, p5, f0, f1, f2, f3, f4, f5, f6, f7, f8, c0, c1, c2, c3, c4, c5, c6, c7, c8⟩
        have AF := hid (AW.out.trans A3w)
        rw [hg10]
        clear r10 r5 A3w b3 x0 x1 x2 hlt hlt1 hlt2 n10 hg10 DO F1 FR
        go_region_held3 (fun w' => A3 w3 w.heap.size w' ∧ w'.cell? ⟨g5, 0, none⟩ = some (.int .i64 (cC F).1) ∧ w'.cell? ⟨g5, 1, none⟩ = some (.int .i64 (cC F).2.1) ∧ w'.cell? ⟨g5, 2, none⟩ = some (.int .i64 (cC F).2.2) ∧ w'.cell? ⟨g10, 0, none⟩ = some (.int .i64 (cC j).1) ∧ w'.cell? ⟨g10, 1, none⟩ = some (.int .i64 (cC j).2.1) ∧ w'.cell? ⟨g10, 2, none⟩ = some (.int .i64 (cC j).2.2) ∧ w'.frozen? ⟨w.heap.size, 0, none⟩ = false ∧ w'.frozen? ⟨w.heap.size, 1, none⟩ = false ∧ w'.frozen? ⟨w.heap.size, 2, none⟩ = false ∧ w'.frozen? ⟨w.heap.size + 1, 0, none⟩ = false ∧ w'.frozen? ⟨w.heap.size + 1, 1, none⟩ = false ∧ w'.frozen? ⟨w.heap.size + 1, 2, none⟩ = false ∧ w'.frozen? ⟨w.heap.size + 1 + 1, 0, none⟩ = false ∧ w'.frozen? ⟨w.heap.size + 1 + 1, 1, none⟩ = false ∧ w'.frozen? ⟨w.heap.size + 1 + 1, 2, none⟩ = false ∧ w'.cell? ⟨w.heap.size, 0, none⟩ = some (rv w' (w.heap.size) 0) ∧ w'.cell? ⟨w.heap.size, 1, none⟩ = some (rv w' (w.heap.size) 1) ∧ w'.cell? ⟨w.heap.size, 2, none⟩ = some (rv w' (w.heap.size) 2) ∧ w'.cell? ⟨w.heap.size + 1, 0, none⟩ = some (rv w' (w.heap.size + 1) 0) ∧ w'.cell? ⟨w.heap.size + 1, 1, none⟩ = some (rv w' (w.heap.size + 1) 1) ∧ w'.cell? ⟨w.heap.size + 1, 2, none⟩ = some (rv w' (w.heap.size + 1) 2) ∧ w'.cell? ⟨w.heap.size + 1 + 1, 0, none⟩ = some (rv w' (w.heap.size + 1 + 1) 0) ∧ w'.cell? ⟨w.heap.size + 1 + 1, 1, none⟩ = some (rv w' (w.heap.size + 1 + 1) 1) ∧ w'.cell? ⟨w.heap.size + 1 + 1, 2, none⟩ = some (rv w' (w.heap.size + 1 + 1) 2)) ((refine KS.out _ ?_; (with_reducible (repeat (first | assumption | apply A3.drew | apply A3.set0 | apply A3.set1 | apply A3.set2 | (refine A3.call ?_ (by assumption))))); done)) ((go_at_call 39; refine (CR.out _).mono ?_; rintro e w4 ⟨rfl, b4⟩))
        have B2 := hA0.drew.call b4
        obtain ⟨s0, s1, s2, s3⟩ := rows3 (x0 := .int .i64 (cC F).1) (x1 := .int .i64 (cC F).2.1) (x2 := .int .i64 (cC F).2.2) (y0 := .int .i64 (cC j).1) (y1 := .int .i64 (cC j).2.1) (y2 := .int .i64 (cC j).2.2) (z0 := .int .i64 (cx (cC F) (cC j)).1) (z1 := .int .i64 (cx (cC F) (cC j)).2.1) (z2 := .int .i64 (cx (cC F) (cC j)).2.2) B2
        have S0 := hid s0
        have S1 := hid s1
        have S2 := hid s2
        have S3 := hid s3
        have ep : j = prp F m := prp_is F hF6 m hm4 j HJ.out (by rw [dt_comm]; exact HD.out) (HA.out.trans HMA.out.symm)
        have EP := hid ep
        clear KS hA0 B2 s0 s1 s2 s3 ep
        go_wp2
        rw [← EP.out]
        refine bodyPost_ret ?_ rfl ⟨rfl, ?_⟩
        · exact results_cell3 Tryd.results38 _ _ w.heap.size (w.heap.size + 1) (w.heap.size + 1 + 1) _ _ _ _ _ rfl rfl rfl S0.out S1.out S2.out Tryd.underlying49 rfl (by kernel_rfl) (by kernel_rfl) (by kernel_rfl)
        · exact S3.out.ab AF.out (Nat.le_refl _)
      · have g0 : ((m : Int) - (a : Int) == 0) = false := by simp; omega
        have g0' : ¬ (m : Int) - (a : Int) = 0 := by omega
        have HMA := hid hma
        clear hma
        go_wp2_with (go_at_call 26; refine (DO.out _).mono ?_; rintro e w3 ⟨rfl, b3⟩)
        have A3w : Ab W w3 := (((A2.out.alloc _).alloc _).alloc _).call b3
        have e1 : acN F (j + 1) = a + 1 := by
          simp only [acN]; rw [HA.out, if_pos (by rw [dt_comm]; exact HD.out)]
        have hjl := HJ.out
        have h1 := HAC.out
        have h2 := HMA.out
        go_roundw
        case rel => exact ⟨j + 1, by omega, by omega, by simp, by rw [e1]; congr 1; omega, A3w⟩
        case measure => simp [intOf]; omega
    · have hd' : (dt (cC F) (cC j) != 0) = true := by simpa using hd
      have HD := hid hd
      go_wp2_with (go_at_call 26; refine (DO.out _).mono ?_; rintro e w3 ⟨rfl, b3⟩)
      have A3w : Ab W w3 := (((A2.out.alloc _).alloc _).alloc _).call b3
      have e1 : acN F (j + 1) = a := by
        simp only [acN]; rw [HA.out, if_neg (by rw [dt_comm]; exact HD.out)]; rfl
      have hjl := HJ.out
      go_roundw
      case rel => exact ⟨j + 1, by omega, by rw [e1]; exact HAC.out, by simp, by rw [e1], A3w⟩
      case measure => simp [intOf]; omega
end Go.Proofs.YthfholdhieigiaaDoor
