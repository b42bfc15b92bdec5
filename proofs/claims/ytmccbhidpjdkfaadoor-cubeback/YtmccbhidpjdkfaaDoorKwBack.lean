/-
  What lies over a side lies back over its own side: the walk.
-/
import Derived.Test.YtmccbhidpjdkfaaDoorKr
import Derived.Test.YtmccbhidpjdkfaaDoorKt
namespace Go.Proofs.YtmccbhidpjdkfaaDoor
open Go.RowKit Cu
/-- the first k cells beside cell c -/
def allA (n c k : Nat) : Array Value := #[.int .i64 (if 0 < k then (bsC n c 0 : Int) else 0), .int .i64 (if 1 < k then (bsC n c 1 : Int) else 0), .int .i64 (if 2 < k then (bsC n c 2 : Int) else 0), .int .i64 (if 3 < k then (bsC n c 3 : Int) else 0)]
theorem allA_set (n c k : Nat) (hk : k < 4) : (allA n c k).setIfInBounds k (.int .i64 (bsC n c k)) = allA n c (k + 1) := by
  rcases four hk with rfl | rfl | rfl | rfl <;> rfl
theorem allA_get (n c k : Nat) (hk : k < 4) : (allA n c k)[k]? = some (.int .i64 0) := by
  rcases four hk with rfl | rfl | rfl | rfl <;> rfl
set_option maxRecDepth 100000 in
set_option maxHeartbeats 4000000 in
theorem cubeBack_walk (a0 a1 a2 a3 a4 a5 a6 a7 : Int) (w : World) (_i0 : I64 a0) (_i1 : I64 a1) (_i2 : I64 a2) (_i3 : I64 a3) (_i4 : I64 a4) (_i5 : I64 a5) (_i6 : I64 a6) (_i7 : I64 a7) (h : Fr w) :
    Calls Tryd.prog 6 #[.agg #[.int .i64 a0, .int .i64 a1, .int .i64 a2, .int .i64 a3, .int .i64 a4, .int .i64 a5, .int .i64 a6, .int .i64 a7]] w fun e w' => e = .returned (.bool true) ∧ Below w.heap.size w w' := by
  have A0 : Ab w (w.alloc (.cells #[.int .i64 a0, .int .i64 a1, .int .i64 a2, .int .i64 a3, .int .i64 a4, .int .i64 a5, .int .i64 a6, .int .i64 a7] 25)) := bl1 _ _
  have AWK := hid (awake_at (w.alloc (.cells #[.int .i64 a0, .int .i64 a1, .int .i64 a2, .int .i64 a3, .int .i64 a4, .int .i64 a5, .int .i64 a6, .int .i64 a7] 25)) (h.to A0))
  have RB : Hid (∀ u, Ab (w.alloc (.cells #[.int .i64 a0, .int .i64 a1, .int .i64 a2, .int .i64 a3, .int .i64 a4, .int .i64 a5, .int .i64 a6, .int .i64 a7] 25)) u → u.heap[w.heap.size]? = some (.cells #[.int .i64 a0, .int .i64 a1, .int .i64 a2, .int .i64 a3, .int .i64 a4, .int .i64 a5, .int .i64 a6, .int .i64 a7] 25)) := fun u hu => hu.heap (heap_alloc_new _ _)
  have HFR : Hid (∀ u, Ab (w.alloc (.cells #[.int .i64 a0, .int .i64 a1, .int .i64 a2, .int .i64 a3, .int .i64 a4, .int .i64 a5, .int .i64 a6, .int .i64 a7] 25)) u → Fr u) := fun u hu => h.to (A0.trans hu)
  obtain ⟨m0, hm0⟩ : ∃ m, wi a0 32 = m := ⟨_, rfl⟩
  have lm0 : m0 < 32 := by rw [← hm0]; exact wi_lt (by omega)
  have WI0 : Hid (∀ u, Calls Tryd.prog 22 #[.int .i64 a0, .int .i64 32] u fun e w' => e = .returned (.int .i64 m0) ∧ w' = u) := fun u => by rw [← hm0]; exact within_at a0 32 u (by omega)
  obtain ⟨n, hn⟩ : ∃ n : Nat, 1 + m0 = n := ⟨_, rfl⟩
  have hN : (1 : Int) + (m0 : Int) = (n : Int) := by omega
  have hn32 : 1 ≤ n ∧ n ≤ 32 := by omega
  obtain ⟨M, hM⟩ : ∃ M : Nat, 6 * n * n = M := ⟨_, rfl⟩
  have hMM : 6 * (n : Int) * (n : Int) = (M : Int) := by rw [← hM]; simp
  have hM2 : 1 ≤ M ∧ M ≤ 6144 := by have := sq_le (x := n) (by omega) (by omega); rw [hMM] at this; omega
  have hn1 : 1 ≤ (n : Int) := by omega
  have hn2 : (n : Int) ≤ 32 := by omega
  have hM3 : 1 ≤ (M : Int) := by omega
  have hM4 : (M : Int) ≤ 6144 := by omega
  have lm0' : (m0 : Int) < 32 := by omega
  obtain ⟨c, hc⟩ : ∃ m, wi a4 M = m := ⟨_, rfl⟩
  have lc : c < M := by rw [← hc]; exact wi_lt (by omega)
  have WIc : Hid (∀ u, Calls Tryd.prog 22 #[.int .i64 a4, .int .i64 M] u fun e w' => e = .returned (.int .i64 c) ∧ w' = u) := fun u => by rw [← hc]; exact within_at a4 M u (by omega)
  have A0' := hid A0
  clear h A0 hm0 hc
  have PB := hid (fun (k : Nat) (hk : k < 4) => And.intro (bs_lt hn32.1 (hM ▸ lc) hk) (And.intro (bs_back hn32.1 (hM ▸ lc) hk) (bs_self hn32.1 (hM ▸ lc) hk)))
  have PU := hid (fun (s r : Nat) (hs : s < 4) (hr : r < 4) (hne : s ≠ r) => bs_unlike hn32.1 (hM ▸ lc) hs hr hne)
  have BS := hid (fun (x s : Nat) (hx : x < M) (hs : s < 4) u (hu : Ab (w.alloc (.cells #[.int .i64 a0, .int .i64 a1, .int .i64 a2, .int .i64 a3, .int .i64 a4, .int .i64 a5, .int .i64 a6, .int .i64 a7] 25)) u) => beside_at n x s u hn32 (hM ▸ hx) hs (HFR.out u hu))
  have HM := hid hM
  have LC := hid lc
  have r4 : (c : Int) < M := by omega
  clear hM hn HFR lc lm0 hM2 hn32
  go_enter Tryd.func6, Tryd.ntmps6
  go_wp2_with fail
  refine (AWK.out).mono ?_
  rintro e w1 ⟨rfl, b1⟩
  have A1 : Ab (w.alloc (.cells #[.int .i64 a0, .int .i64 a1, .int .i64 a2, .int .i64 a3, .int .i64 a4, .int .i64 a5, .int .i64 a6, .int .i64 a7] 25)) w1 := b1
  have f1_0 : w1.cell? ⟨w.heap.size, 0, none⟩ = some (.int .i64 a0) := cell_of_row _ _ 0 _ _ _ (RB.out _ A1)
  have f1_4 : w1.cell? ⟨w.heap.size, 4, none⟩ = some (.int .i64 a4) := cell_of_row _ _ 4 _ _ _ (RB.out _ A1)
  go_wp2_with fail
  refine (WI0.out _).mono ?_
  rintro e wq ⟨rfl, hwq⟩
  rw [hwq]
  clear hwq wq
  go_wp2_with fail
  refine (WIc.out _).mono ?_
  rintro e wq ⟨rfl, hwq⟩
  rw [hwq]
  clear hwq wq
  go_wp2
  obtain ⟨ga, hga⟩ : ∃ g, w1.heap.size = g := ⟨_, rfl⟩
  rw [hga]
  have HG : Hid ((w.alloc (.cells #[.int .i64 a0, .int .i64 a1, .int .i64 a2, .int .i64 a3, .int .i64 a4, .int .i64 a5, .int .i64 a6, .int .i64 a7] 25)).heap.size ≤ ga) := by rw [← hga]; exact A1.size
  have RA : Hid ((w1.alloc (.cells #[.int .i64 0, .int .i64 0, .int .i64 0, .int .i64 0] 35)).heap[ga]? = some (.cells (allA n c 0) 35)) := by rw [← hga]; exact heap_alloc_new _ _
  have AL := hid (A1.alloc (.cells #[.int .i64 0, .int .i64 0, .int .i64 0, .int .i64 0] 35))
  clear A1 b1 hga f1_0 f1_4
  go_loopw [6] (fun iv wr => ∃ k : Nat, k ≤ 4 ∧ iv = .int .i64 (k : Nat) ∧ Ab (w.alloc (.cells #[.int .i64 a0, .int .i64 a1, .int .i64 a2, .int .i64 a3, .int .i64 a4, .int .i64 a5, .int .i64 a6, .int .i64 a7] 25)) wr ∧ wr.heap[ga]? = some (.cells (allA n c k) 35)) (fun iv _ => 4 - (intOf iv).toNat)
  case atStart => exact ⟨0, by omega, rfl, AL.out, RA.out⟩
  case round =>
    obtain ⟨k, hk, rfl, A, R⟩ := hrel
    by_cases hk4 : k < 4
    · have hk' : (k : Int) < 4 := by omega
      obtain ⟨⟨p1, p2⟩, ⟨p3, p4⟩, p5⟩ := PB.out k hk4
      have C1 := BS.out c k LC.out hk4 _ A
      have hset := allA_set n c k hk4
      obtain ⟨d, hd⟩ : ∃ d, bsC n c k = d := ⟨_, rfl⟩
      obtain ⟨b, hb⟩ : ∃ d, bsS n c k = d := ⟨_, rfl⟩
      rw [hd] at p1 p3 p4 p5 C1 hset
      rw [hb] at p2 p3 p4 C1
      rw [HM.out] at p1
      have C2 := fun u hu => BS.out d b p1 p2 u hu
      rw [p3, p4] at C2
      have D1 := hid C1
      have D2 := hid C2
      have e1 : (d : Int) < M := by omega
      have e2 : (b : Int) < 4 := by omega
      have e3 : ((d : Int) == (c : Int)) = false := by simp; omega
      have HS := hid hset
      have RR := hid R
      have AA := hid A
      have HK := hid hk4
      clear C1 C2 p1 p2 p3 p4 p5 hset PB PU BS HM LC hd hb R A
      go_wp2_with fail
      refine D1.out.mono ?_
      rintro e wa ⟨rfl, ba⟩
      have A2 := AA.out.call ba
      have R2 := hid (Ab.heap ba RR.out)
      go_wp2_with fail
      refine (D2.out _ A2).mono ?_
      rintro e wb ⟨rfl, bb⟩
      have A3 := hid (A2.call bb)
      have R3 := Ab.heap bb R2.out
      have g1 : wb.cell? ⟨ga, k, none⟩ = some (.int .i64 0) := (cell_of_row _ _ k _ _ _ R3).trans (allA_get n c k HK.out)
      have g2 : wb.frozen? ⟨ga, k, none⟩ = false := free_row R3 k
      have R3' := hid R3
      clear R3 A2 R2 ba bb
      go_wp2
      go_roundw
      case rel => exact ⟨k + 1, by have := HK.out; omega, by simp, A3.out.setk HG.out _, by rw [one_set R3'.out, HS.out]⟩
      case measure => have := HK.out; simp [intOf]; omega
    · obtain rfl : k = 4 := by omega
      obtain ⟨d0, hd0⟩ : ∃ d, bsC n c 0 = d := ⟨_, rfl⟩
      have g0 : wr.cell? ⟨ga, 0, none⟩ = some (.int .i64 d0) := by rw [← hd0]; exact cell_of_row _ _ 0 _ _ _ R
      obtain ⟨d1, hd1⟩ : ∃ d, bsC n c 1 = d := ⟨_, rfl⟩
      have g1 : wr.cell? ⟨ga, 1, none⟩ = some (.int .i64 d1) := by rw [← hd1]; exact cell_of_row _ _ 1 _ _ _ R
      obtain ⟨d2, hd2⟩ : ∃ d, bsC n c 2 = d := ⟨_, rfl⟩
      have g2 : wr.cell? ⟨ga, 2, none⟩ = some (.int .i64 d2) := by rw [← hd2]; exact cell_of_row _ _ 2 _ _ _ R
      obtain ⟨d3, hd3⟩ : ∃ d, bsC n c 3 = d := ⟨_, rfl⟩
      have g3 : wr.cell? ⟨ga, 3, none⟩ = some (.int .i64 d3) := by rw [← hd3]; exact cell_of_row _ _ 3 _ _ _ R
      have u01 : ((d0 : Int) != (d1 : Int)) = true := by
        have := PU.out 0 1 (by omega) (by omega) (by omega)
        rw [hd0, hd1] at this
        simp
        omega
      have u02 : ((d0 : Int) != (d2 : Int)) = true := by
        have := PU.out 0 2 (by omega) (by omega) (by omega)
        rw [hd0, hd2] at this
        simp
        omega
      have u03 : ((d0 : Int) != (d3 : Int)) = true := by
        have := PU.out 0 3 (by omega) (by omega) (by omega)
        rw [hd0, hd3] at this
        simp
        omega
      have u12 : ((d1 : Int) != (d2 : Int)) = true := by
        have := PU.out 1 2 (by omega) (by omega) (by omega)
        rw [hd1, hd2] at this
        simp
        omega
      have u13 : ((d1 : Int) != (d3 : Int)) = true := by
        have := PU.out 1 3 (by omega) (by omega) (by omega)
        rw [hd1, hd3] at this
        simp
        omega
      have u23 : ((d2 : Int) != (d3 : Int)) = true := by
        have := PU.out 2 3 (by omega) (by omega) (by omega)
        rw [hd2, hd3] at this
        simp
        omega
      have AA := hid A
      clear R A PB PU BS HM LC hd0 hd1 hd2 hd3
      go_wp2
      go_ret
      exact ⟨rfl, A0'.out.trans AA.out⟩
end Go.Proofs.YtmccbhidpjdkfaaDoor
