/-
  Cells, their numbers and places: the walk.
-/
import Derived.Test.YtmccbhidpjdkfaaDoorKr
namespace Go.Proofs.YtmccbhidpjdkfaaDoor
open Go.RowKit Cu
theorem places_pure {n M c : Nat} (hn : 1 ≤ n) (hM : 6 * n * n = M) (hc : c < M) :
    (cf n c < 6 ∧ ci n c < n ∧ cj n c < n ∧ nm n (cf n c) (ci n c) (cj n c) = c ∧ bsC n c 0 < M ∧ bsC n c 1 < M) ∧
    (ci n c + 1 < n → bsC n c 0 = c + 1 ∧ bsS n c 0 = 2 ∧ nm n (cf n c) (ci n c + 1) (cj n c) = c + 1) ∧
    (cj n c + 1 < n → bsC n c 1 = c + n ∧ bsS n c 1 = 3 ∧ nm n (cf n c) (ci n c) (cj n c + 1) = c + n) ∧
    (ci n c + 1 < n ↔ cf n (bsC n c 0) = cf n c) := by
  subst hM
  obtain ⟨h1, h2, h3, h4⟩ := dec_lt hn hc
  obtain ⟨f1, f2⟩ := nf_lt _ h1 0 (by omega)
  obtain ⟨g1, g2⟩ := nf_lt _ h1 1 (by omega)
  have e1 : nm n (cf n c) (ci n c + 1) (cj n c) = c + 1 := by
    have : nm n (cf n c) (ci n c + 1) (cj n c) = nm n (cf n c) (ci n c) (cj n c) + 1 := by unfold nm; omega
    rw [this, h4]
  have e2 : nm n (cf n c) (ci n c) (cj n c + 1) = c + n := by
    have : nm n (cf n c) (ci n c) (cj n c + 1) = nm n (cf n c) (ci n c) (cj n c) + n := by
      unfold nm
      rw [← Nat.add_assoc, Nat.add_mul (cf n c * n + cj n c) 1 n]
      omega
    rw [this, h4]
  have hne : ∀ f < 6, nf f 0 ≠ f := by decide +kernel
  have h0 : 0 < n := by omega
  have b0 : bsC n c 0 = if ci n c + 1 < n then Pn n (cf n c) 0 (ci n c + 1) (cj n c) else Pn n (nf (cf n c) 0) (ns (cf n c) 0) 0 (cj n c) := rfl
  have b1 : bsC n c 1 = if cj n c + 1 < n then Pn n (cf n c) 1 (cj n c + 1) (n - 1 - ci n c) else Pn n (nf (cf n c) 1) (ns (cf n c) 1) 0 (n - 1 - ci n c) := rfl
  have s0 : bsS n c 0 = if ci n c + 1 < n then (0 + 2) % 4 else (ns (cf n c) 0 + 2) % 4 := rfl
  have s1 : bsS n c 1 = if cj n c + 1 < n then (1 + 2) % 4 else (ns (cf n c) 1 + 2) % 4 := rfl
  refine ⟨⟨h1, h2, h3, h4, ?_, ?_⟩, fun h => ?_, fun h => ?_, ?_⟩
  · rw [b0]; split
    · rename_i h; exact Pn_lt h1 h h3
    · exact Pn_lt f1 h0 h3
  · rw [b1]; split
    · rename_i h; exact Pn_lt h1 h (by omega)
    · exact Pn_lt g1 h0 (by omega)
  · rw [b0, if_pos h, s0, if_pos h]
    exact ⟨e1, rfl, e1⟩
  · rw [b1, if_pos h, s1, if_pos h]
    refine ⟨?_, rfl, e2⟩
    show nm n (cf n c) (n - 1 - (n - 1 - ci n c)) (cj n c + 1) = _
    rw [show n - 1 - (n - 1 - ci n c) = ci n c by omega]; exact e2
  · rw [b0]
    by_cases h : ci n c + 1 < n
    · rw [if_pos h, (Pn_dec (f := cf n c) (by omega) h h3).1]; simp [h]
    · rw [if_neg h, (Pn_dec (f := nf (cf n c) 0) f2 h0 h3).1]
      simp only [h, false_iff]; exact hne _ h1
set_option maxRecDepth 100000 in
set_option maxHeartbeats 4000000 in
theorem cubePlaces_walk (a0 a1 a2 a3 a4 a5 a6 a7 : Int) (w : World) (_i0 : I64 a0) (_i1 : I64 a1) (_i2 : I64 a2) (_i3 : I64 a3) (_i4 : I64 a4) (_i5 : I64 a5) (_i6 : I64 a6) (_i7 : I64 a7) (h : Fr w) :
    Calls Tryd.prog 5 #[.agg #[.int .i64 a0, .int .i64 a1, .int .i64 a2, .int .i64 a3, .int .i64 a4, .int .i64 a5, .int .i64 a6, .int .i64 a7]] w fun e w' => e = .returned (.bool true) ∧ Below w.heap.size w w' := by
  have A0 : Ab w (w.alloc (.cells #[.int .i64 a0, .int .i64 a1, .int .i64 a2, .int .i64 a3, .int .i64 a4, .int .i64 a5, .int .i64 a6, .int .i64 a7] 25)) := bl1 _ _
  have AWK := hid (awake_at (w.alloc (.cells #[.int .i64 a0, .int .i64 a1, .int .i64 a2, .int .i64 a3, .int .i64 a4, .int .i64 a5, .int .i64 a6, .int .i64 a7] 25)) (h.to A0))
  have RB : Hid (∀ u, Ab (w.alloc (.cells #[.int .i64 a0, .int .i64 a1, .int .i64 a2, .int .i64 a3, .int .i64 a4, .int .i64 a5, .int .i64 a6, .int .i64 a7] 25)) u → u.heap[w.heap.size]? = some (.cells #[.int .i64 a0, .int .i64 a1, .int .i64 a2, .int .i64 a3, .int .i64 a4, .int .i64 a5, .int .i64 a6, .int .i64 a7] 25)) := fun u hu => hu.heap (heap_alloc_new _ _)
  have HFR : Hid (∀ u, Ab (w.alloc (.cells #[.int .i64 a0, .int .i64 a1, .int .i64 a2, .int .i64 a3, .int .i64 a4, .int .i64 a5, .int .i64 a6, .int .i64 a7] 25)) u → Fr u) := fun u hu => h.to (A0.trans hu)
  obtain ⟨m0, hm0⟩ : ∃ m, wi a0 32 = m := ⟨_, rfl⟩
  have lm0 : m0 < 32 := by rw [← hm0]; exact wi_lt (by omega)
  have WI0 : Hid (∀ u, Calls Tryd.prog 22 #[.int .i64 a0, .int .i64 32] u fun e w' => e = .returned (.int .i64 m0) ∧ w' = u) := fun u => by rw [← hm0]; exact within_at a0 32 u (by omega)
  obtain ⟨n, hn⟩ : ∃ n : Nat, 1 + m0 = n := ⟨_, rfl⟩
  have hN : (1 : Int) + (m0 : Int) = (n : Int) := by omega
  have hn32 : 1 ≤ n ∧ n ≤ 32 := by omega
  obtain ⟨M, hM⟩ : ∃ M : Nat, 6 * n * n = M := ⟨_, rfl⟩
  have hMM : 6 * (n : Int) * (n : Int) = (M : Int) := by rw [← hM]; simp
  have hM2 : 1 ≤ M ∧ M ≤ 6144 := by have := sq_le (x := n) (by omega) (by omega); rw [hMM] at this; omega
  have hn1 : 1 ≤ (n : Int) := by omega
  have hn2 : (n : Int) ≤ 32 := by omega
  have hM3 : 1 ≤ (M : Int) := by omega
  have hM4 : (M : Int) ≤ 6144 := by omega
  have lm0' : (m0 : Int) < 32 := by omega
  obtain ⟨c, hc⟩ : ∃ m, wi a4 M = m := ⟨_, rfl⟩
  have lc : c < M := by rw [← hc]; exact wi_lt (by omega)
  have WIc : Hid (∀ u, Calls Tryd.prog 22 #[.int .i64 a4, .int .i64 M] u fun e w' => e = .returned (.int .i64 c) ∧ w' = u) := fun u => by rw [← hc]; exact within_at a4 M u (by omega)
  have A0' := hid A0
  clear h A0 hm0 hc
  obtain ⟨⟨p1, p2, p3, p4, p5, p6⟩, p7, p8, p9⟩ := places_pure hn32.1 hM lc
  obtain ⟨f, hf⟩ : ∃ d, cf n c = d := ⟨_, rfl⟩
  obtain ⟨i, hi⟩ : ∃ d, ci n c = d := ⟨_, rfl⟩
  obtain ⟨j, hj⟩ : ∃ d, cj n c = d := ⟨_, rfl⟩
  obtain ⟨d, hd⟩ : ∃ d, bsC n c 0 = d := ⟨_, rfl⟩
  obtain ⟨b, hb⟩ : ∃ d, bsS n c 0 = d := ⟨_, rfl⟩
  obtain ⟨x, hx⟩ : ∃ d, bsC n c 1 = d := ⟨_, rfl⟩
  obtain ⟨q, hq⟩ : ∃ d, bsS n c 1 = d := ⟨_, rfl⟩
  obtain ⟨g, hg⟩ : ∃ d', cf n d = d' := ⟨_, rfl⟩
  rw [hf, hi, hj] at p4
  rw [hf] at p1
  rw [hi] at p2
  rw [hj] at p3
  rw [hd] at p5
  rw [hx] at p6
  rw [hd, hb, hf, hi, hj] at p7
  rw [hx, hq, hf, hi, hj] at p8
  rw [hd, hg, hf, hi] at p9
  have CL : Hid (∀ u, Calls Tryd.prog 12 #[.int .i64 n] u fun e w' => e = .returned (.int .i64 M) ∧ w' = u) := fun u => by have := cells_nat n hn32 u; rwa [hM] at this
  have PL : Hid (∀ u, Calls Tryd.prog 10 #[.int .i64 n, .int .i64 c] u fun e w' => e = .returned (.tuple #[.int .i64 f, .int .i64 i, .int .i64 j, .bool true]) ∧ ∃ k, w' = u.drewN k) := fun u => by have := place_ok n c hn32 (by omega) u; rwa [hf, hi, hj] at this
  have PD : Hid (∀ u, Calls Tryd.prog 10 #[.int .i64 n, .int .i64 d] u fun e w' => e = .returned (.tuple #[.int .i64 g, .int .i64 (ci n d), .int .i64 (cj n d), .bool true]) ∧ ∃ k, w' = u.drewN k) := fun u => by have := place_ok n d hn32 (by omega) u; rwa [hg] at this
  have CE : Hid (∀ u, Calls Tryd.prog 14 #[.int .i64 n, .int .i64 f, .int .i64 i, .int .i64 j] u fun e w' => e = .returned (.int .i64 c) ∧ w' = u) := fun u => by have := cell_at n f i j u; rwa [cN_nat hn32 p1 p2 p3, p4] at this
  have B1 : Hid (∀ u, Ab (w.alloc (.cells #[.int .i64 a0, .int .i64 a1, .int .i64 a2, .int .i64 a3, .int .i64 a4, .int .i64 a5, .int .i64 a6, .int .i64 a7] 25)) u → Calls Tryd.prog 18 #[.int .i64 n, .int .i64 c, .int .i64 0] u fun e w' => e = .returned (.tuple #[.int .i64 d, .int .i64 b]) ∧ Below u.heap.size u w') := fun u hu => by
    have := beside_at n c 0 u hn32 (by omega) (by omega) (HFR.out u hu); rw [hd, hb] at this; exact this
  have B2 : Hid (∀ u, Ab (w.alloc (.cells #[.int .i64 a0, .int .i64 a1, .int .i64 a2, .int .i64 a3, .int .i64 a4, .int .i64 a5, .int .i64 a6, .int .i64 a7] 25)) u → Calls Tryd.prog 18 #[.int .i64 n, .int .i64 c, .int .i64 1] u fun e w' => e = .returned (.tuple #[.int .i64 x, .int .i64 q]) ∧ Below u.heap.size u w') := fun u hu => by
    have := beside_at n c 1 u hn32 (by omega) (by omega) (HFR.out u hu); rw [hx, hq] at this; exact this
  have r1 : (f : Int) < 6 := by omega
  have r2 : (i : Int) < n := by omega
  have r3 : (j : Int) < n := by omega
  have r4 : (c : Int) < M := by omega
  clear p4 p5 p6 hf hi hj hd hb hx hq hg hM hn HFR lc lm0 hM2
  by_cases hI : i + 1 < n
  · obtain ⟨h7a, h7b, h7c⟩ := p7 hI
    have CI : Hid (∀ u, Calls Tryd.prog 14 #[.int .i64 n, .int .i64 f, .int .i64 ((i : Int) + 1), .int .i64 j] u fun e w' => e = .returned (.int .i64 d) ∧ w' = u) := fun u => by
      have := cell_at n f (i + 1 : Nat) j u
      rw [cN_nat hn32 p1 hI p3, h7c, ← h7a] at this
      simpa using this
    have hI' : (i : Int) + 1 < n := by omega
    have hg : f = g := (p9.1 hI).symm
    have e7 : (c : Int) + 1 = d := by omega
    have e7' : (b : Int) = 2 := by omega
    clear h7a h7b h7c
    subst hg
    by_cases hJ : j + 1 < n
    · obtain ⟨h8a, h8b, h8c⟩ := p8 hJ
      have CJ : Hid (∀ u, Calls Tryd.prog 14 #[.int .i64 n, .int .i64 f, .int .i64 i, .int .i64 ((j : Int) + 1)] u fun e w' => e = .returned (.int .i64 x) ∧ w' = u) := fun u => by
        have := cell_at n f i (j + 1 : Nat) u
        rw [cN_nat hn32 p1 p2 hJ, h8c, ← h8a] at this
        simpa using this
      have hJ' : (j : Int) + 1 < n := by omega
      have e8 : (c : Int) + n = x := by omega
      have e8' : (q : Int) = 3 := by omega
      clear p1 p2 p3 p7 p8 p9 hn32 h8a h8b h8c
      go_enter Tryd.func5, Tryd.ntmps5
      go_wp2_with fail
      refine (AWK.out).mono ?_
      rintro e w1 ⟨rfl, b1⟩
      have A1 : Ab (w.alloc (.cells #[.int .i64 a0, .int .i64 a1, .int .i64 a2, .int .i64 a3, .int .i64 a4, .int .i64 a5, .int .i64 a6, .int .i64 a7] 25)) w1 := b1
      have f1_0 : w1.cell? ⟨w.heap.size, 0, none⟩ = some (.int .i64 a0) := cell_of_row _ _ 0 _ _ _ (RB.out _ A1)
      have f1_4 : w1.cell? ⟨w.heap.size, 4, none⟩ = some (.int .i64 a4) := cell_of_row _ _ 4 _ _ _ (RB.out _ A1)
      go_wp2_with fail
      refine (WI0.out _).mono ?_
      rintro e wq ⟨rfl, rfl⟩
      go_wp2_with fail
      refine (WIc.out _).mono ?_
      rintro e wq ⟨rfl, rfl⟩
      go_wp2_with fail
      refine (CL.out _).mono ?_
      rintro e wq ⟨rfl, rfl⟩
      go_wp2_with fail
      refine (PL.out _).mono ?_
      rintro e w2 ⟨rfl, kk2, rfl⟩
      have A2 := A1.drewN kk2
      go_wp2_with fail
      refine (CE.out _).mono ?_
      rintro e wq ⟨rfl, rfl⟩
      go_wp2_with fail
      refine (B1.out _ A2).mono ?_
      rintro e w3 ⟨rfl, b3⟩
      have A3 : Ab (w.alloc (.cells #[.int .i64 a0, .int .i64 a1, .int .i64 a2, .int .i64 a3, .int .i64 a4, .int .i64 a5, .int .i64 a6, .int .i64 a7] 25)) w3 := A2.call b3
      go_wp2_with fail
      refine (CI.out _).mono ?_
      rintro e wq ⟨rfl, rfl⟩
      go_wp2_with fail
      refine (B2.out _ A3).mono ?_
      rintro e w4 ⟨rfl, b4⟩
      have A4 : Ab (w.alloc (.cells #[.int .i64 a0, .int .i64 a1, .int .i64 a2, .int .i64 a3, .int .i64 a4, .int .i64 a5, .int .i64 a6, .int .i64 a7] 25)) w4 := A3.call b4
      go_wp2_with fail
      refine (CJ.out _).mono ?_
      rintro e wq ⟨rfl, rfl⟩
      go_wp2_with fail
      refine (PD.out _).mono ?_
      rintro e w5 ⟨rfl, kk5, rfl⟩
      have A5 := A4.drewN kk5
      go_wp2
      go_ret
      exact ⟨rfl, A0'.out.trans A5⟩
    · have hJ' : ¬ ((j : Int) + 1 < n) := by omega
      clear p1 p2 p3 p7 p8 p9 hn32
      go_enter Tryd.func5, Tryd.ntmps5
      go_wp2_with fail
      refine (AWK.out).mono ?_
      rintro e w1 ⟨rfl, b1⟩
      have A1 : Ab (w.alloc (.cells #[.int .i64 a0, .int .i64 a1, .int .i64 a2, .int .i64 a3, .int .i64 a4, .int .i64 a5, .int .i64 a6, .int .i64 a7] 25)) w1 := b1
      have f1_0 : w1.cell? ⟨w.heap.size, 0, none⟩ = some (.int .i64 a0) := cell_of_row _ _ 0 _ _ _ (RB.out _ A1)
      have f1_4 : w1.cell? ⟨w.heap.size, 4, none⟩ = some (.int .i64 a4) := cell_of_row _ _ 4 _ _ _ (RB.out _ A1)
      go_wp2_with fail
      refine (WI0.out _).mono ?_
      rintro e wq ⟨rfl, rfl⟩
      go_wp2_with fail
      refine (WIc.out _).mono ?_
      rintro e wq ⟨rfl, rfl⟩
      go_wp2_with fail
      refine (CL.out _).mono ?_
      rintro e wq ⟨rfl, rfl⟩
      go_wp2_with fail
      refine (PL.out _).mono ?_
      rintro e w2 ⟨rfl, kk2, rfl⟩
      have A2 := A1.drewN kk2
      go_wp2_with fail
      refine (CE.out _).mono ?_
      rintro e wq ⟨rfl, rfl⟩
      go_wp2_with fail
      refine (B1.out _ A2).mono ?_
      rintro e w3 ⟨rfl, b3⟩
      have A3 : Ab (w.alloc (.cells #[.int .i64 a0, .int .i64 a1, .int .i64 a2, .int .i64 a3, .int .i64 a4, .int .i64 a5, .int .i64 a6, .int .i64 a7] 25)) w3 := A2.call b3
      go_wp2_with fail
      refine (CI.out _).mono ?_
      rintro e wq ⟨rfl, rfl⟩
      go_wp2_with fail
      refine (B2.out _ A3).mono ?_
      rintro e w4 ⟨rfl, b4⟩
      have A4 : Ab (w.alloc (.cells #[.int .i64 a0, .int .i64 a1, .int .i64 a2, .int .i64 a3, .int .i64 a4, .int .i64 a5, .int .i64 a6, .int .i64 a7] 25)) w4 := A3.call b4
      go_wp2_with fail
      refine (PD.out _).mono ?_
      rintro e w5 ⟨rfl, kk5, rfl⟩
      have A5 := A4.drewN kk5
      go_wp2
      go_ret
      exact ⟨rfl, A0'.out.trans A5⟩
  · have hI' : ¬ ((i : Int) + 1 < n) := by omega
    have hI2 : decide ((i : Int) + 1 < n) = false := by simp; omega
    have hg : ((g : Int) == (f : Int)) = false := by
      have : ¬ g = f := fun e => hI (p9.2 e)
      simp; omega
    by_cases hJ : j + 1 < n
    · obtain ⟨h8a, h8b, h8c⟩ := p8 hJ
      have CJ : Hid (∀ u, Calls Tryd.prog 14 #[.int .i64 n, .int .i64 f, .int .i64 i, .int .i64 ((j : Int) + 1)] u fun e w' => e = .returned (.int .i64 x) ∧ w' = u) := fun u => by
        have := cell_at n f i (j + 1 : Nat) u
        rw [cN_nat hn32 p1 p2 hJ, h8c, ← h8a] at this
        simpa using this
      have hJ' : (j : Int) + 1 < n := by omega
      have e8 : (c : Int) + n = x := by omega
      have e8' : (q : Int) = 3 := by omega
      clear p1 p2 p3 p7 p8 p9 hn32 h8a h8b h8c
      go_enter Tryd.func5, Tryd.ntmps5
      go_wp2_with fail
      refine (AWK.out).mono ?_
      rintro e w1 ⟨rfl, b1⟩
      have A1 : Ab (w.alloc (.cells #[.int .i64 a0, .int .i64 a1, .int .i64 a2, .int .i64 a3, .int .i64 a4, .int .i64 a5, .int .i64 a6, .int .i64 a7] 25)) w1 := b1
      have f1_0 : w1.cell? ⟨w.heap.size, 0, none⟩ = some (.int .i64 a0) := cell_of_row _ _ 0 _ _ _ (RB.out _ A1)
      have f1_4 : w1.cell? ⟨w.heap.size, 4, none⟩ = some (.int .i64 a4) := cell_of_row _ _ 4 _ _ _ (RB.out _ A1)
      go_wp2_with fail
      refine (WI0.out _).mono ?_
      rintro e wq ⟨rfl, rfl⟩
      go_wp2_with fail
      refine (WIc.out _).mono ?_
      rintro e wq ⟨rfl, rfl⟩
      go_wp2_with fail
      refine (CL.out _).mono ?_
      rintro e wq ⟨rfl, rfl⟩
      go_wp2_with fail
      refine (PL.out _).mono ?_
      rintro e w2 ⟨rfl, kk2, rfl⟩
      have A2 := A1.drewN kk2
      go_wp2_with fail
      refine (CE.out _).mono ?_
      rintro e wq ⟨rfl, rfl⟩
      go_wp2_with fail
      refine (B1.out _ A2).mono ?_
      rintro e w3 ⟨rfl, b3⟩
      have A3 : Ab (w.alloc (.cells #[.int .i64 a0, .int .i64 a1, .int .i64 a2, .int .i64 a3, .int .i64 a4, .int .i64 a5, .int .i64 a6, .int .i64 a7] 25)) w3 := A2.call b3
      go_wp2_with fail
      refine (B2.out _ A3).mono ?_
      rintro e w4 ⟨rfl, b4⟩
      have A4 : Ab (w.alloc (.cells #[.int .i64 a0, .int .i64 a1, .int .i64 a2, .int .i64 a3, .int .i64 a4, .int .i64 a5, .int .i64 a6, .int .i64 a7] 25)) w4 := A3.call b4
      go_wp2_with fail
      refine (CJ.out _).mono ?_
      rintro e wq ⟨rfl, rfl⟩
      go_wp2_with fail
      refine (PD.out _).mono ?_
      rintro e w5 ⟨rfl, kk5, rfl⟩
      have A5 := A4.drewN kk5
      go_wp2
      go_ret
      exact ⟨rfl, A0'.out.trans A5⟩
    · have hJ' : ¬ ((j : Int) + 1 < n) := by omega
      clear p1 p2 p3 p7 p8 p9 hn32
      go_enter Tryd.func5, Tryd.ntmps5
      go_wp2_with fail
      refine (AWK.out).mono ?_
      rintro e w1 ⟨rfl, b1⟩
      have A1 : Ab (w.alloc (.cells #[.int .i64 a0, .int .i64 a1, .int .i64 a2, .int .i64 a3, .int .i64 a4, .int .i64 a5, .int .i64 a6, .int .i64 a7] 25)) w1 := b1
      have f1_0 : w1.cell? ⟨w.heap.size, 0, none⟩ = some (.int .i64 a0) := cell_of_row _ _ 0 _ _ _ (RB.out _ A1)
      have f1_4 : w1.cell? ⟨w.heap.size, 4, none⟩ = some (.int .i64 a4) := cell_of_row _ _ 4 _ _ _ (RB.out _ A1)
      go_wp2_with fail
      refine (WI0.out _).mono ?_
      rintro e wq ⟨rfl, rfl⟩
      go_wp2_with fail
      refine (WIc.out _).mono ?_
      rintro e wq ⟨rfl, rfl⟩
      go_wp2_with fail
      refine (CL.out _).mono ?_
      rintro e wq ⟨rfl, rfl⟩
      go_wp2_with fail
      refine (PL.out _).mono ?_
      rintro e w2 ⟨rfl, kk2, rfl⟩
      have A2 := A1.drewN kk2
      go_wp2_with fail
      refine (CE.out _).mono ?_
      rintro e wq ⟨rfl, rfl⟩
      go_wp2_with fail
      refine (B1.out _ A2).mono ?_
      rintro e w3 ⟨rfl, b3⟩
      have A3 : Ab (w.alloc (.cells #[.int .i64 a0, .int .i64 a1, .int .i64 a2, .int .i64 a3, .int .i64 a4, .int .i64 a5, .int .i64 a6, .int .i64 a7] 25)) w3 := A2.call b3
      go_wp2_with fail
      refine (B2.out _ A3).mono ?_
      rintro e w4 ⟨rfl, b4⟩
      have A4 : Ab (w.alloc (.cells #[.int .i64 a0, .int .i64 a1, .int .i64 a2, .int .i64 a3, .int .i64 a4, .int .i64 a5, .int .i64 a6, .int .i64 a7] 25)) w4 := A3.call b4
      go_wp2_with fail
      refine (PD.out _).mono ?_
      rintro e w5 ⟨rfl, kk5, rfl⟩
      have A5 := A4.drewN kk5
      go_wp2
      go_ret
      exact ⟨rfl, A0'.out.trans A5⟩
end Go.Proofs.YtmccbhidpjdkfaaDoor
