/-
  Turns one behind the other: the walk.
-/
import Derived.Test.YtmccbhidpjdkfabDoorKr
namespace Go.Proofs.YtmccbhidpjdkfabDoor
open Go.RowKit Cu
theorem group_pure {n M c t u : Nat} (hn : 1 ≤ n) (hM : 6 * n * n = M) (hc : c < M) (ht : t < 24) (hu : u < 24) :
    (tnC n t c < M ∧ tnS n t c < 4 ∧ tnS n u (tnC n t c) < 4) ∧ tnC n (aft u t) c = tnC n u (tnC n t c) ∧ tnS n (aft u t) c = (tnS n t c + tnS n u (tnC n t c)) % 4 := by
  subst hM
  obtain ⟨f, a, b, hf, ha, hb, rfl⟩ := Pn_ex (s := 0) hn hc (by omega)
  obtain ⟨t1, t2⟩ := tf_lt t ht f hf
  obtain ⟨u1, u2⟩ := tf_lt u hu _ t1
  obtain ⟨c1, c2⟩ := tn_Pn (s := 0) ht hf (by omega) ha hb
  have hq : (0 + tq t f) % 4 < 4 := by omega
  obtain ⟨d1, d2⟩ := tn_Pn hu t1 hq ha hb
  obtain ⟨e1, e2⟩ := tn_Pn (s := 0) (aft_tab u hu t ht).1 hf (by omega) ha hb
  obtain ⟨g1, g2⟩ := tf_aft u hu t ht f hf
  rw [c1, c2, d1, d2, e1, e2, g1, g2]
  refine ⟨⟨Pn_lt t1 ha hb, t2, u2⟩, ?_, rfl⟩
  rw [show (0 + (tq t f + tq u (tf t f)) % 4) % 4 = ((0 + tq t f) % 4 + tq u (tf t f)) % 4 by omega]
set_option maxRecDepth 100000 in
set_option maxHeartbeats 4000000 in
theorem cubeGroup_walk (a0 a1 a2 a3 a4 a5 a6 a7 : Int) (w : World) (_i0 : I64 a0) (_i1 : I64 a1) (_i2 : I64 a2) (_i3 : I64 a3) (_i4 : I64 a4) (_i5 : I64 a5) (_i6 : I64 a6) (_i7 : I64 a7) (h : Fr w) :
    Calls Tryd.prog 4 #[.agg #[.int .i64 a0, .int .i64 a1, .int .i64 a2, .int .i64 a3, .int .i64 a4, .int .i64 a5, .int .i64 a6, .int .i64 a7]] w fun e w' => e = .returned (.bool true) ∧ Below w.heap.size w w' := by
  have A0 : Ab w (w.alloc (.cells #[.int .i64 a0, .int .i64 a1, .int .i64 a2, .int .i64 a3, .int .i64 a4, .int .i64 a5, .int .i64 a6, .int .i64 a7] 23)) := bl1 _ _
  have AWK := hid (awake_at (w.alloc (.cells #[.int .i64 a0, .int .i64 a1, .int .i64 a2, .int .i64 a3, .int .i64 a4, .int .i64 a5, .int .i64 a6, .int .i64 a7] 23)) (h.to A0))
  have RB : Hid (∀ u, Ab (w.alloc (.cells #[.int .i64 a0, .int .i64 a1, .int .i64 a2, .int .i64 a3, .int .i64 a4, .int .i64 a5, .int .i64 a6, .int .i64 a7] 23)) u → u.heap[w.heap.size]? = some (.cells #[.int .i64 a0, .int .i64 a1, .int .i64 a2, .int .i64 a3, .int .i64 a4, .int .i64 a5, .int .i64 a6, .int .i64 a7] 23)) := fun u hu => hu.heap (heap_alloc_new _ _)
  have HFR : Hid (∀ u, Ab (w.alloc (.cells #[.int .i64 a0, .int .i64 a1, .int .i64 a2, .int .i64 a3, .int .i64 a4, .int .i64 a5, .int .i64 a6, .int .i64 a7] 23)) u → Fr u) := fun u hu => h.to (A0.trans hu)
  obtain ⟨m0, hm0⟩ : ∃ m, wi a0 32 = m := ⟨_, rfl⟩
  have lm0 : m0 < 32 := by rw [← hm0]; exact wi_lt (by omega)
  have WI0 : Hid (∀ u, Calls Tryd.prog 6 #[.int .i64 a0, .int .i64 32] u fun e w' => e = .returned (.int .i64 m0) ∧ w' = u) := fun u => by rw [← hm0]; exact within_at a0 32 u (by omega)
  obtain ⟨n, hn⟩ : ∃ n : Nat, 1 + m0 = n := ⟨_, rfl⟩
  have hN : (1 : Int) + (m0 : Int) = (n : Int) := by omega
  have hn32 : 1 ≤ n ∧ n ≤ 32 := by omega
  obtain ⟨M, hM⟩ : ∃ M : Nat, 6 * n * n = M := ⟨_, rfl⟩
  have hMM : 6 * (n : Int) * (n : Int) = (M : Int) := by rw [← hM]; simp
  have hM2 : 1 ≤ M ∧ M ≤ 6144 := by have := sq_le (x := n) (by omega) (by omega); rw [hMM] at this; omega
  have hn1 : 1 ≤ (n : Int) := by omega
  have hn2 : (n : Int) ≤ 32 := by omega
  have hM3 : 1 ≤ (M : Int) := by omega
  have hM4 : (M : Int) ≤ 6144 := by omega
  have lm0' : (m0 : Int) < 32 := by omega
  obtain ⟨c, hc⟩ : ∃ m, wi a4 M = m := ⟨_, rfl⟩
  have lc : c < M := by rw [← hc]; exact wi_lt (by omega)
  have WIc : Hid (∀ u, Calls Tryd.prog 6 #[.int .i64 a4, .int .i64 M] u fun e w' => e = .returned (.int .i64 c) ∧ w' = u) := fun u => by rw [← hc]; exact within_at a4 M u (by omega)
  obtain ⟨t, ht⟩ : ∃ m, wi a6 24 = m := ⟨_, rfl⟩
  have lt : t < 24 := by rw [← ht]; exact wi_lt (by omega)
  have WIt : Hid (∀ u, Calls Tryd.prog 6 #[.int .i64 a6, .int .i64 24] u fun e w' => e = .returned (.int .i64 t) ∧ w' = u) := fun u => by rw [← ht]; exact within_at a6 24 u (by omega)
  obtain ⟨r, hr⟩ : ∃ m, wi a7 24 = m := ⟨_, rfl⟩
  have lr : r < 24 := by rw [← hr]; exact wi_lt (by omega)
  have WIr : Hid (∀ u, Calls Tryd.prog 6 #[.int .i64 a7, .int .i64 24] u fun e w' => e = .returned (.int .i64 r) ∧ w' = u) := fun u => by rw [← hr]; exact within_at a7 24 u (by omega)
  obtain ⟨v, hv⟩ : ∃ m, wi a2 24 = m := ⟨_, rfl⟩
  have lv : v < 24 := by rw [← hv]; exact wi_lt (by omega)
  have WIv : Hid (∀ u, Calls Tryd.prog 6 #[.int .i64 a2, .int .i64 24] u fun e w' => e = .returned (.int .i64 v) ∧ w' = u) := fun u => by rw [← hv]; exact within_at a2 24 u (by omega)
  have A0' := hid A0
  clear h A0 hm0 hc ht hr hv
  obtain ⟨⟨p1, p2, p3⟩, p4, p5⟩ := group_pure hn32.1 hM lc lt lr
  obtain ⟨x, hx⟩ : ∃ d, tnC n t c = d := ⟨_, rfl⟩
  obtain ⟨q, hq⟩ : ∃ d, tnS n t c = d := ⟨_, rfl⟩
  rw [hx] at p1 p3 p4 p5
  rw [hq] at p2 p5
  obtain ⟨y, hy⟩ : ∃ d, tnC n r x = d := ⟨_, rfl⟩
  obtain ⟨p, hp⟩ : ∃ d, tnS n r x = d := ⟨_, rfl⟩
  obtain ⟨g, hg⟩ : ∃ d, aft r t = d := ⟨_, rfl⟩
  obtain ⟨k, hk⟩ : ∃ d, aft v r = d := ⟨_, rfl⟩
  obtain ⟨m, hm⟩ : ∃ d, aft v g = d := ⟨_, rfl⟩
  obtain ⟨o, ho⟩ : ∃ y, (q + p) % 4 = y := ⟨_, rfl⟩
  rw [hy, hg] at p4
  rw [hp] at p3
  rw [hp, hg, ho] at p5
  have lg : g < 24 := by rw [← hg]; exact (aft_tab r lr t lt).1
  have lk : k < 24 := by rw [← hk]; exact (aft_tab v lv r lr).1
  have has := aft_assoc v lv r lr t lt
  rw [hg, hk, hm] at has
  obtain ⟨z1, z2⟩ := aft_zero t lt
  obtain ⟨un1, un2⟩ := und_tab t lt
  obtain ⟨e0, he0⟩ : ∃ e, und t = e := ⟨_, rfl⟩
  rw [he0] at un1 un2
  have T1 : Hid (∀ u, Ab (w.alloc (.cells #[.int .i64 a0, .int .i64 a1, .int .i64 a2, .int .i64 a3, .int .i64 a4, .int .i64 a5, .int .i64 a6, .int .i64 a7] 23)) u → Calls Tryd.prog 8 #[.int .i64 n, .int .i64 t, .int .i64 c] u fun e w' => e = .returned (.tuple #[.int .i64 x, .int .i64 q]) ∧ Below u.heap.size u w') := fun u hu => by
    have := turn_at n t c u hn32 (by omega) lt (HFR.out u hu); rwa [hx, hq] at this
  have T2 : Hid (∀ u, Ab (w.alloc (.cells #[.int .i64 a0, .int .i64 a1, .int .i64 a2, .int .i64 a3, .int .i64 a4, .int .i64 a5, .int .i64 a6, .int .i64 a7] 23)) u → Calls Tryd.prog 8 #[.int .i64 n, .int .i64 r, .int .i64 x] u fun e w' => e = .returned (.tuple #[.int .i64 y, .int .i64 p]) ∧ Below u.heap.size u w') := fun u hu => by
    have := turn_at n r x u hn32 (by omega) lr (HFR.out u hu); rwa [hy, hp] at this
  have T3 : Hid (∀ u, Ab (w.alloc (.cells #[.int .i64 a0, .int .i64 a1, .int .i64 a2, .int .i64 a3, .int .i64 a4, .int .i64 a5, .int .i64 a6, .int .i64 a7] 23)) u → Calls Tryd.prog 8 #[.int .i64 n, .int .i64 g, .int .i64 c] u fun e w' => e = .returned (.tuple #[.int .i64 y, .int .i64 o]) ∧ Below u.heap.size u w') := fun u hu => by
    have := turn_at n g c u hn32 (by omega) lg (HFR.out u hu); rwa [p4, p5] at this
  have F1 : Hid (∀ u, Ab (w.alloc (.cells #[.int .i64 a0, .int .i64 a1, .int .i64 a2, .int .i64 a3, .int .i64 a4, .int .i64 a5, .int .i64 a6, .int .i64 a7] 23)) u → Calls Tryd.prog 9 #[.int .i64 r, .int .i64 t] u fun e w' => e = .returned (.int .i64 g) ∧ Below u.heap.size u w') := fun u hu => by
    have := after_ok r t u (by omega) (by omega) (HFR.out u hu); rwa [hg] at this
  have F2 : Hid (∀ u, Ab (w.alloc (.cells #[.int .i64 a0, .int .i64 a1, .int .i64 a2, .int .i64 a3, .int .i64 a4, .int .i64 a5, .int .i64 a6, .int .i64 a7] 23)) u → Calls Tryd.prog 9 #[.int .i64 v, .int .i64 g] u fun e w' => e = .returned (.int .i64 m) ∧ Below u.heap.size u w') := fun u hu => by
    have := after_ok v g u (by omega) (by omega) (HFR.out u hu); rwa [hm] at this
  have F3 : Hid (∀ u, Ab (w.alloc (.cells #[.int .i64 a0, .int .i64 a1, .int .i64 a2, .int .i64 a3, .int .i64 a4, .int .i64 a5, .int .i64 a6, .int .i64 a7] 23)) u → Calls Tryd.prog 9 #[.int .i64 v, .int .i64 r] u fun e w' => e = .returned (.int .i64 k) ∧ Below u.heap.size u w') := fun u hu => by
    have := after_ok v r u (by omega) (by omega) (HFR.out u hu); rwa [hk] at this
  have F4 : Hid (∀ u, Ab (w.alloc (.cells #[.int .i64 a0, .int .i64 a1, .int .i64 a2, .int .i64 a3, .int .i64 a4, .int .i64 a5, .int .i64 a6, .int .i64 a7] 23)) u → Calls Tryd.prog 9 #[.int .i64 k, .int .i64 t] u fun e w' => e = .returned (.int .i64 m) ∧ Below u.heap.size u w') := fun u hu => by
    have := after_ok k t u (by omega) (by omega) (HFR.out u hu); rwa [← has] at this
  have F5 : Hid (∀ u, Ab (w.alloc (.cells #[.int .i64 a0, .int .i64 a1, .int .i64 a2, .int .i64 a3, .int .i64 a4, .int .i64 a5, .int .i64 a6, .int .i64 a7] 23)) u → Calls Tryd.prog 9 #[.int .i64 0, .int .i64 t] u fun e w' => e = .returned (.int .i64 t) ∧ Below u.heap.size u w') := fun u hu => by
    have := after_ok 0 t u (by omega) (by omega) (HFR.out u hu); rw [z1] at this; exact this
  have F6 : Hid (∀ u, Ab (w.alloc (.cells #[.int .i64 a0, .int .i64 a1, .int .i64 a2, .int .i64 a3, .int .i64 a4, .int .i64 a5, .int .i64 a6, .int .i64 a7] 23)) u → Calls Tryd.prog 9 #[.int .i64 t, .int .i64 0] u fun e w' => e = .returned (.int .i64 t) ∧ Below u.heap.size u w') := fun u hu => by
    have := after_ok t 0 u (by omega) (by omega) (HFR.out u hu); rw [z2] at this; exact this
  have AF := hid (fun (j : Nat) (hj : j < 24) u' (hu' : Ab (w.alloc (.cells #[.int .i64 a0, .int .i64 a1, .int .i64 a2, .int .i64 a3, .int .i64 a4, .int .i64 a5, .int .i64 a6, .int .i64 a7] 23)) u') => after_ok j t u' hj lt (HFR.out u' hu'))
  have AG := hid (fun (j : Nat) (hj : j < 24) u' (hu' : Ab (w.alloc (.cells #[.int .i64 a0, .int .i64 a1, .int .i64 a2, .int .i64 a3, .int .i64 a4, .int .i64 a5, .int .i64 a6, .int .i64 a7] 23)) u') => after_ok t j u' lt hj (HFR.out u' hu'))
  have q2 : ((q : Int) + p) % 4 = o := by omega
  have r2 : (q : Int) < 4 := by omega
  have r5 : (p : Int) < 4 := by omega
  have UN := hid un2
  have LE := hid un1
  clear p1 p2 p3 p4 p5 hx hq hy hp hg hk hm ho has z1 z2 hM hn HFR lc lt lr lv lg lk hn32 hM2 lm0 un1 un2 he0
  go_enter Tryd.func4, Tryd.ntmps4
  go_wp2_with fail
  refine (AWK.out).mono ?_
  rintro e w1 ⟨rfl, b1⟩
  have A1 : Ab (w.alloc (.cells #[.int .i64 a0, .int .i64 a1, .int .i64 a2, .int .i64 a3, .int .i64 a4, .int .i64 a5, .int .i64 a6, .int .i64 a7] 23)) w1 := b1
  have f1_0 : w1.cell? ⟨w.heap.size, 0, none⟩ = some (.int .i64 a0) := cell_of_row _ _ 0 _ _ _ (RB.out _ A1)
  have f1_2 : w1.cell? ⟨w.heap.size, 2, none⟩ = some (.int .i64 a2) := cell_of_row _ _ 2 _ _ _ (RB.out _ A1)
  have f1_4 : w1.cell? ⟨w.heap.size, 4, none⟩ = some (.int .i64 a4) := cell_of_row _ _ 4 _ _ _ (RB.out _ A1)
  have f1_6 : w1.cell? ⟨w.heap.size, 6, none⟩ = some (.int .i64 a6) := cell_of_row _ _ 6 _ _ _ (RB.out _ A1)
  have f1_7 : w1.cell? ⟨w.heap.size, 7, none⟩ = some (.int .i64 a7) := cell_of_row _ _ 7 _ _ _ (RB.out _ A1)
  go_wp2_with fail
  refine (WI0.out _).mono ?_
  rintro e wq ⟨rfl, hwq⟩
  rw [hwq]
  clear hwq wq
  go_wp2_with fail
  refine (WIc.out _).mono ?_
  rintro e wq ⟨rfl, hwq⟩
  rw [hwq]
  clear hwq wq
  go_wp2_with fail
  refine (WIt.out _).mono ?_
  rintro e wq ⟨rfl, hwq⟩
  rw [hwq]
  clear hwq wq
  go_wp2_with fail
  refine (WIr.out _).mono ?_
  rintro e wq ⟨rfl, hwq⟩
  rw [hwq]
  clear hwq wq
  go_wp2_with fail
  refine (WIv.out _).mono ?_
  rintro e wq ⟨rfl, hwq⟩
  rw [hwq]
  clear hwq wq
  go_wp2_with fail
  refine (T1.out _ A1).mono ?_
  rintro e w2 ⟨rfl, b2⟩
  have A2 : Ab (w.alloc (.cells #[.int .i64 a0, .int .i64 a1, .int .i64 a2, .int .i64 a3, .int .i64 a4, .int .i64 a5, .int .i64 a6, .int .i64 a7] 23)) w2 := A1.call b2
  go_wp2_with fail
  refine (T2.out _ A2).mono ?_
  rintro e w3 ⟨rfl, b3⟩
  have A3 : Ab (w.alloc (.cells #[.int .i64 a0, .int .i64 a1, .int .i64 a2, .int .i64 a3, .int .i64 a4, .int .i64 a5, .int .i64 a6, .int .i64 a7] 23)) w3 := A2.call b3
  go_wp2_with fail
  refine (F1.out _ A3).mono ?_
  rintro e w4 ⟨rfl, b4⟩
  have A4 : Ab (w.alloc (.cells #[.int .i64 a0, .int .i64 a1, .int .i64 a2, .int .i64 a3, .int .i64 a4, .int .i64 a5, .int .i64 a6, .int .i64 a7] 23)) w4 := A3.call b4
  go_wp2_with fail
  refine (T3.out _ A4).mono ?_
  rintro e w5 ⟨rfl, b5⟩
  have A5 : Ab (w.alloc (.cells #[.int .i64 a0, .int .i64 a1, .int .i64 a2, .int .i64 a3, .int .i64 a4, .int .i64 a5, .int .i64 a6, .int .i64 a7] 23)) w5 := A4.call b5
  go_wp2_with fail
  refine (F1.out _ A5).mono ?_
  rintro e w6 ⟨rfl, b6⟩
  have A6 : Ab (w.alloc (.cells #[.int .i64 a0, .int .i64 a1, .int .i64 a2, .int .i64 a3, .int .i64 a4, .int .i64 a5, .int .i64 a6, .int .i64 a7] 23)) w6 := A5.call b6
  go_wp2_with fail
  refine (F2.out _ A6).mono ?_
  rintro e w7 ⟨rfl, b7⟩
  have A7 : Ab (w.alloc (.cells #[.int .i64 a0, .int .i64 a1, .int .i64 a2, .int .i64 a3, .int .i64 a4, .int .i64 a5, .int .i64 a6, .int .i64 a7] 23)) w7 := A6.call b7
  go_wp2_with fail
  refine (F3.out _ A7).mono ?_
  rintro e w8 ⟨rfl, b8⟩
  have A8 : Ab (w.alloc (.cells #[.int .i64 a0, .int .i64 a1, .int .i64 a2, .int .i64 a3, .int .i64 a4, .int .i64 a5, .int .i64 a6, .int .i64 a7] 23)) w8 := A7.call b8
  go_wp2_with fail
  refine (F4.out _ A8).mono ?_
  rintro e w9 ⟨rfl, b9⟩
  have A9 : Ab (w.alloc (.cells #[.int .i64 a0, .int .i64 a1, .int .i64 a2, .int .i64 a3, .int .i64 a4, .int .i64 a5, .int .i64 a6, .int .i64 a7] 23)) w9 := A8.call b9
  go_wp2_with fail
  refine (F5.out _ A9).mono ?_
  rintro e w10 ⟨rfl, b10⟩
  have A10 : Ab (w.alloc (.cells #[.int .i64 a0, .int .i64 a1, .int .i64 a2, .int .i64 a3, .int .i64 a4, .int .i64 a5, .int .i64 a6, .int .i64 a7] 23)) w10 := A9.call b10
  go_wp2_with fail
  refine (F6.out _ A10).mono ?_
  rintro e w11 ⟨rfl, b11⟩
  have A11 : Ab (w.alloc (.cells #[.int .i64 a0, .int .i64 a1, .int .i64 a2, .int .i64 a3, .int .i64 a4, .int .i64 a5, .int .i64 a6, .int .i64 a7] 23)) w11 := A10.call b11
  have AL := hid A11
  clear A1 A2 A3 A4 A5 A6 A7 A8 A9 A10 A11 b1 b2 b3 b4 b5 b6 b7 b8 b9 b10 b11
  go_wp2
  go_loopw [14, 15] (fun uv iv wr => ∃ j : Nat, j ≤ 24 ∧ iv = .int .i64 (j : Nat) ∧ uv = .int .i64 (if e0 < j then 1 else 0) ∧ Ab (w.alloc (.cells #[.int .i64 a0, .int .i64 a1, .int .i64 a2, .int .i64 a3, .int .i64 a4, .int .i64 a5, .int .i64 a6, .int .i64 a7] 23)) wr) (fun _ iv _ => 24 - (intOf iv).toNat)
  case atStart => exact ⟨0, by omega, rfl, by simp, AL.out⟩
  case round =>
    obtain ⟨j, hj, rfl, rfl, A⟩ := hrel
    have le := LE.out
    by_cases hj24 : j < 24
    · have hj' : (j : Int) < 24 := by omega
      obtain ⟨un1, un2⟩ := UN.out j hj24
      have C1 := AF.out j hj24 _ A
      by_cases he : j = e0
      · have C2 := fun u hu => AG.out j hj24 u hu
        rw [un1.2 he] at C1
        rw [un2.2 he] at C2
        have D1 := hid C1
        have D2 := hid C2
        rw [if_neg (by omega)]
        have HE := hid he
        clear C1 C2 AF AG UN he un1 un2
        go_wp2_with fail
        refine D1.out.mono ?_
        rintro e wa ⟨rfl, ba⟩
        have A2 := A.call ba
        go_wp2_with fail
        refine (D2.out _ A2).mono ?_
        rintro e wb ⟨rfl, bb⟩
        have A3 := A2.call bb
        go_wp2
        go_roundw
        case rel => exact ⟨j + 1, by omega, by simp, by have := HE.out; rw [if_pos (by omega)], A3⟩
        case measure => simp [intOf]; omega
      · obtain ⟨rr, hr⟩ : ∃ r, aft j t = r := ⟨_, rfl⟩
        rw [hr] at C1
        have hr0 : ¬ (rr : Int) = 0 := by
          have : ¬ rr = 0 := fun e => he (un1.1 (hr.trans e))
          omega
        have D1 := hid C1
        have HE := hid he
        clear C1 AF AG UN un1 un2 hr he
        obtain ⟨cnt, hcnt⟩ : ∃ x : Int, (if e0 < j then 1 else 0) = x := ⟨_, rfl⟩
        rw [hcnt]
        have HC := hid hcnt
        clear hcnt
        go_wp2_with fail
        refine D1.out.mono ?_
        rintro e wa ⟨rfl, ba⟩
        have A2 := A.call ba
        go_wp2
        go_roundw
        case rel => exact ⟨j + 1, by omega, by simp, by have := HE.out; rw [← HC.out]; congr 1; by_cases h : e0 < j <;> simp [h] <;> omega, A2⟩
        case measure => simp [intOf]; omega
    · obtain rfl : j = 24 := by omega
      rw [if_pos (by omega)]
      go_wp2
      go_ret
      exact ⟨rfl, A0'.out.trans A⟩
end Go.Proofs.YtmccbhidpjdkfabDoor
