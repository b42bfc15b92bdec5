/-
  A turn takes cells that lie beside one another to such: the walk.
-/
import Derived.Test.YtmccbhidpjdkfabDoorKr
namespace Go.Proofs.YtmccbhidpjdkfabDoor
open Go.RowKit Cu
theorem turned_pure {n M c s t k : Nat} (hn : 1 ≤ n) (hM : 6 * n * n = M) (hc : c < M) (hs : s < 4) (ht : t < 24) (hk : k < M) :
    (tnC n t c < M ∧ tnS n t c < 4 ∧ bsC n c s < M ∧ bsS n c s < 4 ∧ tnS n t (bsC n c s) < 4) ∧ bsC n (tnC n t c) ((s + tnS n t c) % 4) = tnC n t (bsC n c s) ∧ bsS n (tnC n t c) ((s + tnS n t c) % 4) = (bsS n c s + tnS n t (bsC n c s)) % 4 ∧ (tnC n t k = tnC n t c ↔ k = c) ∧ tnC n 0 c = c ∧ tnS n 0 c = 0 := by
  subst hM
  obtain ⟨f, a, b, hf, ha, hb, rfl⟩ := Pn_ex hn hc hs
  obtain ⟨t1, t2⟩ := tf_lt t ht f hf
  obtain ⟨f1, f2⟩ := nf_lt f hf s hs
  obtain ⟨u1, u2⟩ := tf_lt t ht _ f1
  obtain ⟨b1, b2⟩ := bs_Pn (f := f) hs ha hb
  obtain ⟨c1, c2⟩ := tn_Pn ht hf hs ha hb
  obtain ⟨z1, z2⟩ := tf_zero f hf
  obtain ⟨d1, d2⟩ := tn_Pn (t := 0) (by omega) hf hs ha hb
  have hq : (s + tq t f) % 4 < 4 := by omega
  have hzero : tnC n 0 (Pn n f s a b) = Pn n f s a b ∧ tnS n 0 (Pn n f s a b) = 0 := by
    rw [d1, d2, z1, z2, Nat.add_zero, Nat.mod_eq_of_lt hs]; exact ⟨rfl, rfl⟩
  have hinj : tnC n t k = tnC n t (Pn n f s a b) ↔ k = Pn n f s a b := by
    obtain ⟨f', a', b', hf', ha', hb', rfl⟩ := Pn_ex hn hk hs
    obtain ⟨g1, g2⟩ := tn_Pn ht hf' hs ha' hb'
    refine ⟨fun e => ?_, fun e => by rw [e]⟩
    rw [g1, c1] at e
    have e1 := (Pn_dec (f := tf t f') (show (s + tq t f') % 4 < 4 by omega) ha' hb').1
    have e2 := (Pn_dec (f := tf t f) hq ha hb).1
    rw [e, e2] at e1
    have ef := tf_inj t ht f hf f' hf' e1
    subst ef
    obtain ⟨_, h1, h2⟩ := Pn_inj hq ha' hb' ha hb e
    rw [h1, h2]
  obtain ⟨v1, v2⟩ := nf_tf t ht f hf s hs
  by_cases h : a + 1 < n
  · rw [if_pos h] at b1 b2
    obtain ⟨e1, e2⟩ := tn_Pn (t := t) (f := f) (s := s) (b := b) ht hf hs h hb
    obtain ⟨g1, g2⟩ := bs_Pn (f := tf t f) hq ha hb
    rw [if_pos h] at g1 g2
    rw [b1, b2, e1, e2, c1, c2, g1, g2]
    refine ⟨⟨Pn_lt t1 ha hb, t2, Pn_lt hf h hb, by omega, t2⟩, rfl, by omega, ?_, hzero⟩
    rw [← c1]; exact hinj
  · rw [if_neg h] at b1 b2
    have h0 : 0 < n := by omega
    obtain ⟨e1, e2⟩ := tn_Pn (t := t) ht f1 f2 h0 hb
    obtain ⟨g1, g2⟩ := bs_Pn (f := tf t f) hq ha hb
    rw [if_neg h, v1, v2] at g1
    rw [if_neg h, v2] at g2
    rw [b1, b2, e1, e2, c1, c2, g1, g2]
    refine ⟨⟨Pn_lt t1 ha hb, t2, Pn_lt f1 h0 hb, by omega, u2⟩, rfl, by omega, ?_, hzero⟩
    rw [← c1]; exact hinj
set_option maxRecDepth 100000 in
set_option maxHeartbeats 4000000 in
theorem cubeTurned_walk (a0 a1 a2 a3 a4 a5 a6 a7 : Int) (w : World) (_i0 : I64 a0) (_i1 : I64 a1) (_i2 : I64 a2) (_i3 : I64 a3) (_i4 : I64 a4) (_i5 : I64 a5) (_i6 : I64 a6) (_i7 : I64 a7) (h : Fr w) :
    Calls Tryd.prog 3 #[.agg #[.int .i64 a0, .int .i64 a1, .int .i64 a2, .int .i64 a3, .int .i64 a4, .int .i64 a5, .int .i64 a6, .int .i64 a7]] w fun e w' => e = .returned (.bool true) ∧ Below w.heap.size w w' := by
  have A0 : Ab w (w.alloc (.cells #[.int .i64 a0, .int .i64 a1, .int .i64 a2, .int .i64 a3, .int .i64 a4, .int .i64 a5, .int .i64 a6, .int .i64 a7] 23)) := bl1 _ _
  have AWK := hid (awake_at (w.alloc (.cells #[.int .i64 a0, .int .i64 a1, .int .i64 a2, .int .i64 a3, .int .i64 a4, .int .i64 a5, .int .i64 a6, .int .i64 a7] 23)) (h.to A0))
  have RB : Hid (∀ u, Ab (w.alloc (.cells #[.int .i64 a0, .int .i64 a1, .int .i64 a2, .int .i64 a3, .int .i64 a4, .int .i64 a5, .int .i64 a6, .int .i64 a7] 23)) u → u.heap[w.heap.size]? = some (.cells #[.int .i64 a0, .int .i64 a1, .int .i64 a2, .int .i64 a3, .int .i64 a4, .int .i64 a5, .int .i64 a6, .int .i64 a7] 23)) := fun u hu => hu.heap (heap_alloc_new _ _)
  have HFR : Hid (∀ u, Ab (w.alloc (.cells #[.int .i64 a0, .int .i64 a1, .int .i64 a2, .int .i64 a3, .int .i64 a4, .int .i64 a5, .int .i64 a6, .int .i64 a7] 23)) u → Fr u) := fun u hu => h.to (A0.trans hu)
  obtain ⟨m0, hm0⟩ : ∃ m, wi a0 32 = m := ⟨_, rfl⟩
  have lm0 : m0 < 32 := by rw [← hm0]; exact wi_lt (by omega)
  have WI0 : Hid (∀ u, Calls Tryd.prog 6 #[.int .i64 a0, .int .i64 32] u fun e w' => e = .returned (.int .i64 m0) ∧ w' = u) := fun u => by rw [← hm0]; exact within_at a0 32 u (by omega)
  obtain ⟨n, hn⟩ : ∃ n : Nat, 1 + m0 = n := ⟨_, rfl⟩
  have hN : (1 : Int) + (m0 : Int) = (n : Int) := by omega
  have hn32 : 1 ≤ n ∧ n ≤ 32 := by omega
  obtain ⟨M, hM⟩ : ∃ M : Nat, 6 * n * n = M := ⟨_, rfl⟩
  have hMM : 6 * (n : Int) * (n : Int) = (M : Int) := by rw [← hM]; simp
  have hM2 : 1 ≤ M ∧ M ≤ 6144 := by have := sq_le (x := n) (by omega) (by omega); rw [hMM] at this; omega
  have hn1 : 1 ≤ (n : Int) := by omega
  have hn2 : (n : Int) ≤ 32 := by omega
  have hM3 : 1 ≤ (M : Int) := by omega
  have hM4 : (M : Int) ≤ 6144 := by omega
  have lm0' : (m0 : Int) < 32 := by omega
  obtain ⟨c, hc⟩ : ∃ m, wi a4 M = m := ⟨_, rfl⟩
  have lc : c < M := by rw [← hc]; exact wi_lt (by omega)
  have WIc : Hid (∀ u, Calls Tryd.prog 6 #[.int .i64 a4, .int .i64 M] u fun e w' => e = .returned (.int .i64 c) ∧ w' = u) := fun u => by rw [← hc]; exact within_at a4 M u (by omega)
  obtain ⟨s, hs⟩ : ∃ m, wi a5 4 = m := ⟨_, rfl⟩
  have ls : s < 4 := by rw [← hs]; exact wi_lt (by omega)
  have WIs : Hid (∀ u, Calls Tryd.prog 6 #[.int .i64 a5, .int .i64 4] u fun e w' => e = .returned (.int .i64 s) ∧ w' = u) := fun u => by rw [← hs]; exact within_at a5 4 u (by omega)
  obtain ⟨t, ht⟩ : ∃ m, wi a6 24 = m := ⟨_, rfl⟩
  have lt : t < 24 := by rw [← ht]; exact wi_lt (by omega)
  have WIt : Hid (∀ u, Calls Tryd.prog 6 #[.int .i64 a6, .int .i64 24] u fun e w' => e = .returned (.int .i64 t) ∧ w' = u) := fun u => by rw [← ht]; exact within_at a6 24 u (by omega)
  obtain ⟨k, hk⟩ : ∃ m, wi a2 M = m := ⟨_, rfl⟩
  have lk : k < M := by rw [← hk]; exact wi_lt (by omega)
  have WIk : Hid (∀ u, Calls Tryd.prog 6 #[.int .i64 a2, .int .i64 M] u fun e w' => e = .returned (.int .i64 k) ∧ w' = u) := fun u => by rw [← hk]; exact within_at a2 M u (by omega)
  have A0' := hid A0
  clear h A0 hm0 hc hs ht hk
  obtain ⟨⟨p1, p2, p3, p4, p5⟩, p6, p7, p8, p9, p10⟩ := turned_pure hn32.1 hM lc ls lt lk
  obtain ⟨d, hd⟩ : ∃ d, bsC n c s = d := ⟨_, rfl⟩
  obtain ⟨b, hb⟩ : ∃ d, bsS n c s = d := ⟨_, rfl⟩
  obtain ⟨x, hx⟩ : ∃ d, tnC n t c = d := ⟨_, rfl⟩
  obtain ⟨q, hq⟩ : ∃ d, tnS n t c = d := ⟨_, rfl⟩
  rw [hd] at p3 p5 p6 p7
  rw [hb] at p4 p7
  rw [hx] at p1 p6 p7 p8
  rw [hq] at p2 p6 p7
  obtain ⟨y, hy⟩ : ∃ y, tnC n t d = y := ⟨_, rfl⟩
  obtain ⟨p, hp⟩ : ∃ y, tnS n t d = y := ⟨_, rfl⟩
  obtain ⟨z, hz⟩ : ∃ y, tnC n t k = y := ⟨_, rfl⟩
  obtain ⟨s2, hs2⟩ : ∃ y, (s + q) % 4 = y := ⟨_, rfl⟩
  obtain ⟨o, ho⟩ : ∃ y, (b + p) % 4 = y := ⟨_, rfl⟩
  rw [hy] at p6
  rw [hp] at p5 p7
  rw [hz] at p8
  rw [hs2] at p6 p7
  rw [ho] at p7
  have ls2 : s2 < 4 := by omega
  have MC : 6 * n * n = M := hM
  have B1 : Hid (∀ u, Ab (w.alloc (.cells #[.int .i64 a0, .int .i64 a1, .int .i64 a2, .int .i64 a3, .int .i64 a4, .int .i64 a5, .int .i64 a6, .int .i64 a7] 23)) u → Calls Tryd.prog 7 #[.int .i64 n, .int .i64 c, .int .i64 s] u fun e w' => e = .returned (.tuple #[.int .i64 d, .int .i64 b]) ∧ Below u.heap.size u w') := fun u hu => by
    have := beside_at n c s u hn32 (by omega) ls (HFR.out u hu); rwa [hd, hb] at this
  have T1 : Hid (∀ u, Ab (w.alloc (.cells #[.int .i64 a0, .int .i64 a1, .int .i64 a2, .int .i64 a3, .int .i64 a4, .int .i64 a5, .int .i64 a6, .int .i64 a7] 23)) u → Calls Tryd.prog 8 #[.int .i64 n, .int .i64 t, .int .i64 c] u fun e w' => e = .returned (.tuple #[.int .i64 x, .int .i64 q]) ∧ Below u.heap.size u w') := fun u hu => by
    have := turn_at n t c u hn32 (by omega) lt (HFR.out u hu); rwa [hx, hq] at this
  have T2 : Hid (∀ u, Ab (w.alloc (.cells #[.int .i64 a0, .int .i64 a1, .int .i64 a2, .int .i64 a3, .int .i64 a4, .int .i64 a5, .int .i64 a6, .int .i64 a7] 23)) u → Calls Tryd.prog 8 #[.int .i64 n, .int .i64 t, .int .i64 d] u fun e w' => e = .returned (.tuple #[.int .i64 y, .int .i64 p]) ∧ Below u.heap.size u w') := fun u hu => by
    have := turn_at n t d u hn32 (by omega) lt (HFR.out u hu); rwa [hy, hp] at this
  have B2 : Hid (∀ u, Ab (w.alloc (.cells #[.int .i64 a0, .int .i64 a1, .int .i64 a2, .int .i64 a3, .int .i64 a4, .int .i64 a5, .int .i64 a6, .int .i64 a7] 23)) u → Calls Tryd.prog 7 #[.int .i64 n, .int .i64 x, .int .i64 s2] u fun e w' => e = .returned (.tuple #[.int .i64 y, .int .i64 o]) ∧ Below u.heap.size u w') := fun u hu => by
    have := beside_at n x s2 u hn32 (by omega) ls2 (HFR.out u hu); rwa [p6, p7] at this
  have T3 : Hid (∀ u, Ab (w.alloc (.cells #[.int .i64 a0, .int .i64 a1, .int .i64 a2, .int .i64 a3, .int .i64 a4, .int .i64 a5, .int .i64 a6, .int .i64 a7] 23)) u → Calls Tryd.prog 8 #[.int .i64 n, .int .i64 t, .int .i64 k] u fun e w' => e = .returned (.tuple #[.int .i64 z, .int .i64 (tnS n t k)]) ∧ Below u.heap.size u w') := fun u hu => by
    have := turn_at n t k u hn32 (by omega) lt (HFR.out u hu); rwa [hz] at this
  have T4 : Hid (∀ u, Ab (w.alloc (.cells #[.int .i64 a0, .int .i64 a1, .int .i64 a2, .int .i64 a3, .int .i64 a4, .int .i64 a5, .int .i64 a6, .int .i64 a7] 23)) u → Calls Tryd.prog 8 #[.int .i64 n, .int .i64 0, .int .i64 c] u fun e w' => e = .returned (.tuple #[.int .i64 c, .int .i64 0]) ∧ Below u.heap.size u w') := fun u hu => by
    have := turn_at n 0 c u hn32 (by omega) (by omega) (HFR.out u hu); rw [p9, p10] at this; exact this
  have q1 : ((s : Int) + q) % 4 = s2 := by omega
  have q2 : ((b : Int) + p) % 4 = o := by omega
  have q3 : ((z : Int) == (x : Int)) = ((k : Int) == (c : Int)) := by
    by_cases e : k = c
    · have := p8.2 e; subst e; subst this; simp
    · have h1 : ¬ z = x := fun e2 => e (p8.1 e2)
      have h2 : ((z : Int) == (x : Int)) = false := by simp; omega
      have h3 : ((k : Int) == (c : Int)) = false := by simp; omega
      rw [h2, h3]
  have r1 : (x : Int) < M := by omega
  have r2 : (q : Int) < 4 := by omega
  have r3 : (s : Int) < 4 := by omega
  have r4 : (b : Int) < 4 := by omega
  have r5 : (p : Int) < 4 := by omega
  clear p1 p2 p3 p4 p5 p6 p7 p8 p9 p10 hd hb hx hq hy hp hz hs2 ho MC hM hn HFR lc lt lk ls ls2 hn32 hM2 lm0
  go_enter Tryd.func3, Tryd.ntmps3
  go_wp2_with fail
  refine (AWK.out).mono ?_
  rintro e w1 ⟨rfl, b1⟩
  have A1 : Ab (w.alloc (.cells #[.int .i64 a0, .int .i64 a1, .int .i64 a2, .int .i64 a3, .int .i64 a4, .int .i64 a5, .int .i64 a6, .int .i64 a7] 23)) w1 := b1
  have f1_0 : w1.cell? ⟨w.heap.size, 0, none⟩ = some (.int .i64 a0) := cell_of_row _ _ 0 _ _ _ (RB.out _ A1)
  have f1_2 : w1.cell? ⟨w.heap.size, 2, none⟩ = some (.int .i64 a2) := cell_of_row _ _ 2 _ _ _ (RB.out _ A1)
  have f1_4 : w1.cell? ⟨w.heap.size, 4, none⟩ = some (.int .i64 a4) := cell_of_row _ _ 4 _ _ _ (RB.out _ A1)
  have f1_5 : w1.cell? ⟨w.heap.size, 5, none⟩ = some (.int .i64 a5) := cell_of_row _ _ 5 _ _ _ (RB.out _ A1)
  have f1_6 : w1.cell? ⟨w.heap.size, 6, none⟩ = some (.int .i64 a6) := cell_of_row _ _ 6 _ _ _ (RB.out _ A1)
  go_wp2_with fail
  refine (WI0.out _).mono ?_
  rintro e wq ⟨rfl, rfl⟩
  go_wp2_with fail
  refine (WIc.out _).mono ?_
  rintro e wq ⟨rfl, rfl⟩
  go_wp2_with fail
  refine (WIs.out _).mono ?_
  rintro e wq ⟨rfl, rfl⟩
  go_wp2_with fail
  refine (WIt.out _).mono ?_
  rintro e wq ⟨rfl, rfl⟩
  go_wp2_with fail
  refine (B1.out _ A1).mono ?_
  rintro e w2 ⟨rfl, b2⟩
  have A2 : Ab (w.alloc (.cells #[.int .i64 a0, .int .i64 a1, .int .i64 a2, .int .i64 a3, .int .i64 a4, .int .i64 a5, .int .i64 a6, .int .i64 a7] 23)) w2 := A1.call b2
  go_wp2_with fail
  refine (T1.out _ A2).mono ?_
  rintro e w3 ⟨rfl, b3⟩
  have A3 : Ab (w.alloc (.cells #[.int .i64 a0, .int .i64 a1, .int .i64 a2, .int .i64 a3, .int .i64 a4, .int .i64 a5, .int .i64 a6, .int .i64 a7] 23)) w3 := A2.call b3
  go_wp2_with fail
  refine (T2.out _ A3).mono ?_
  rintro e w4 ⟨rfl, b4⟩
  have A4 : Ab (w.alloc (.cells #[.int .i64 a0, .int .i64 a1, .int .i64 a2, .int .i64 a3, .int .i64 a4, .int .i64 a5, .int .i64 a6, .int .i64 a7] 23)) w4 := A3.call b4
  go_wp2_with fail
  refine (B2.out _ A4).mono ?_
  rintro e w5 ⟨rfl, b5⟩
  have A5 : Ab (w.alloc (.cells #[.int .i64 a0, .int .i64 a1, .int .i64 a2, .int .i64 a3, .int .i64 a4, .int .i64 a5, .int .i64 a6, .int .i64 a7] 23)) w5 := A4.call b5
  have f5_2 : w5.cell? ⟨w.heap.size, 2, none⟩ = some (.int .i64 a2) := cell_of_row _ _ 2 _ _ _ (RB.out _ A5)
  go_wp2_with fail
  refine (WIk.out _).mono ?_
  rintro e wq ⟨rfl, rfl⟩
  go_wp2_with fail
  refine (T3.out _ A5).mono ?_
  rintro e w6 ⟨rfl, b6⟩
  have A6 : Ab (w.alloc (.cells #[.int .i64 a0, .int .i64 a1, .int .i64 a2, .int .i64 a3, .int .i64 a4, .int .i64 a5, .int .i64 a6, .int .i64 a7] 23)) w6 := A5.call b6
  go_wp2_with fail
  refine (T4.out _ A6).mono ?_
  rintro e w7 ⟨rfl, b7⟩
  have A7 : Ab (w.alloc (.cells #[.int .i64 a0, .int .i64 a1, .int .i64 a2, .int .i64 a3, .int .i64 a4, .int .i64 a5, .int .i64 a6, .int .i64 a7] 23)) w7 := A6.call b7
  go_wp2
  go_ret
  exact ⟨rfl, A0'.out.trans A7⟩
end Go.Proofs.YtmccbhidpjdkfabDoor
