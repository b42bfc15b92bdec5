/-
  Straight on round the cube: the walk.
-/
import Derived.Test.YtmccbhidpjdkfaaDoorKr
import Derived.Test.YtmccbhidpjdkfaaDoorKv
namespace Go.Proofs.YtmccbhidpjdkfaaDoor
open Go.RowKit Cu
/-- how often each face was gone through -/
def facA (n c s k : Nat) : Array Value := #[.int .i64 (cnt n c s 0 k : Nat), .int .i64 (cnt n c s 1 k : Nat), .int .i64 (cnt n c s 2 k : Nat), .int .i64 (cnt n c s 3 k : Nat), .int .i64 (cnt n c s 4 k : Nat), .int .i64 (cnt n c s 5 k : Nat)]
theorem facA_set (n c s k f : Nat) (hf : f < 6) (h : cf n (rnd n c s k).1 = f) : (facA n c s k).setIfInBounds f (.int .i64 ((cnt n c s f k : Int) + 1)) = facA n c s (k + 1) := by
  rcases six hf with rfl | rfl | rfl | rfl | rfl | rfl <;> simp [facA, cnt, h]
theorem facA_get (n c s k f : Nat) (hf : f < 6) : (facA n c s k)[f]? = some (.int .i64 (cnt n c s f k : Nat)) := by
  rcases six hf with rfl | rfl | rfl | rfl | rfl | rfl <;> rfl
theorem cnt_le (n c s g k : Nat) : cnt n c s g k ≤ k := by
  induction k with
  | zero => simp [cnt]
  | succ k ih => simp only [cnt]; split <;> omega
theorem round_pure {n c s : Nat} (hn : 1 ≤ n) (hc : c < 6 * n * n) (hs : s < 4) :
    rnd n c s (4 * n) = (c, s) ∧ (∀ k, 0 < k → k < 4 * n → ¬ ((rnd n c s k).1 = c ∧ (rnd n c s k).2 = s)) ∧ ∃ f, f < 6 ∧ ∀ g, cnt n c s g (4 * n) = if inC f s g = true then n else 0 := by
  obtain ⟨f, a, b, hf, ha, hb, rfl⟩ := Pn_ex hn hc hs
  exact ⟨rnd_back hf hs ha hb, fun k k0 k4 => rnd_not hf hs ha hb k0 k4, f, hf, fun g => cnt_end hf hs ha hb⟩
set_option maxRecDepth 100000 in
set_option maxHeartbeats 4000000 in
theorem cubeRound_walk (a0 a1 a2 a3 a4 a5 a6 a7 : Int) (w : World) (_i0 : I64 a0) (_i1 : I64 a1) (_i2 : I64 a2) (_i3 : I64 a3) (_i4 : I64 a4) (_i5 : I64 a5) (_i6 : I64 a6) (_i7 : I64 a7) (h : Fr w) :
    Calls Tryd.prog 7 #[.agg #[.int .i64 a0, .int .i64 a1, .int .i64 a2, .int .i64 a3, .int .i64 a4, .int .i64 a5, .int .i64 a6, .int .i64 a7]] w fun e w' => e = .returned (.bool true) ∧ Below w.heap.size w w' := by
  have A0 : Ab w (w.alloc (.cells #[.int .i64 a0, .int .i64 a1, .int .i64 a2, .int .i64 a3, .int .i64 a4, .int .i64 a5, .int .i64 a6, .int .i64 a7] 25)) := bl1 _ _
  have AWK := hid (awake_at (w.alloc (.cells #[.int .i64 a0, .int .i64 a1, .int .i64 a2, .int .i64 a3, .int .i64 a4, .int .i64 a5, .int .i64 a6, .int .i64 a7] 25)) (h.to A0))
  have RB : Hid (∀ u, Ab (w.alloc (.cells #[.int .i64 a0, .int .i64 a1, .int .i64 a2, .int .i64 a3, .int .i64 a4, .int .i64 a5, .int .i64 a6, .int .i64 a7] 25)) u → u.heap[w.heap.size]? = some (.cells #[.int .i64 a0, .int .i64 a1, .int .i64 a2, .int .i64 a3, .int .i64 a4, .int .i64 a5, .int .i64 a6, .int .i64 a7] 25)) := fun u hu => hu.heap (heap_alloc_new _ _)
  have HFR : Hid (∀ u, Ab (w.alloc (.cells #[.int .i64 a0, .int .i64 a1, .int .i64 a2, .int .i64 a3, .int .i64 a4, .int .i64 a5, .int .i64 a6, .int .i64 a7] 25)) u → Fr u) := fun u hu => h.to (A0.trans hu)
  obtain ⟨m0, hm0⟩ : ∃ m, wi a0 32 = m := ⟨_, rfl⟩
  have lm0 : m0 < 32 := by rw [← hm0]; exact wi_lt (by omega)
  have WI0 : Hid (∀ u, Calls Tryd.prog 22 #[.int .i64 a0, .int .i64 32] u fun e w' => e = .returned (.int .i64 m0) ∧ w' = u) := fun u => by rw [← hm0]; exact within_at a0 32 u (by omega)
  obtain ⟨n, hn⟩ : ∃ n : Nat, 1 + m0 = n := ⟨_, rfl⟩
  have hN : (1 : Int) + (m0 : Int) = (n : Int) := by omega
  have hn32 : 1 ≤ n ∧ n ≤ 32 := by omega
  obtain ⟨M, hM⟩ : ∃ M : Nat, 6 * n * n = M := ⟨_, rfl⟩
  have hMM : 6 * (n : Int) * (n : Int) = (M : Int) := by rw [← hM]; simp
  have hM2 : 1 ≤ M ∧ M ≤ 6144 := by have := sq_le (x := n) (by omega) (by omega); rw [hMM] at this; omega
  have hn1 : 1 ≤ (n : Int) := by omega
  have hn2 : (n : Int) ≤ 32 := by omega
  have hM3 : 1 ≤ (M : Int) := by omega
  have hM4 : (M : Int) ≤ 6144 := by omega
  have lm0' : (m0 : Int) < 32 := by omega
  obtain ⟨c, hc⟩ : ∃ m, wi a4 M = m := ⟨_, rfl⟩
  have lc : c < M := by rw [← hc]; exact wi_lt (by omega)
  have WIc : Hid (∀ u, Calls Tryd.prog 22 #[.int .i64 a4, .int .i64 M] u fun e w' => e = .returned (.int .i64 c) ∧ w' = u) := fun u => by rw [← hc]; exact within_at a4 M u (by omega)
  obtain ⟨s, hs⟩ : ∃ m, wi a5 4 = m := ⟨_, rfl⟩
  have ls : s < 4 := by rw [← hs]; exact wi_lt (by omega)
  have WIs : Hid (∀ u, Calls Tryd.prog 22 #[.int .i64 a5, .int .i64 4] u fun e w' => e = .returned (.int .i64 s) ∧ w' = u) := fun u => by rw [← hs]; exact within_at a5 4 u (by omega)
  have A0' := hid A0
  clear h A0 hm0 hc hs
  have hcM : c < 6 * n * n := hM ▸ lc
  obtain ⟨q1, q2, ff, hff, q3⟩ := round_pure hn32.1 hcM ls
  have sm6 := sm_six ff hff s ls
  have CL := hid (rnd_lt hn32.1 hcM ls)
  have BS := hid (fun (x s : Nat) (hx : x < 6 * n * n) (hs : s < 4) u (hu : Ab (w.alloc (.cells #[.int .i64 a0, .int .i64 a1, .int .i64 a2, .int .i64 a3, .int .i64 a4, .int .i64 a5, .int .i64 a6, .int .i64 a7] 25)) u) => beside_at n x s u hn32 hx hs (HFR.out u hu))
  have PL := hid (fun (x : Nat) (hx : x < 6 * n * n) u => place_ok n x hn32 hx u)
  have HN := hid hn32
  have Q1 := hid q1
  have Q2 := hid q2
  have Q3 := hid q3
  have SM := hid sm6
  have r4 : (c : Int) < M := by omega
  have r5 : (s : Int) < 4 := by omega
  clear hM hn HFR lc lm0 hM2 hn32 q1 q2 q3 sm6 ls hcM hff
  go_enter Tryd.func7, Tryd.ntmps7
  go_wp2_with fail
  refine (AWK.out).mono ?_
  rintro e w1 ⟨rfl, b1⟩
  have A1 : Ab (w.alloc (.cells #[.int .i64 a0, .int .i64 a1, .int .i64 a2, .int .i64 a3, .int .i64 a4, .int .i64 a5, .int .i64 a6, .int .i64 a7] 25)) w1 := b1
  have f1_0 : w1.cell? ⟨w.heap.size, 0, none⟩ = some (.int .i64 a0) := cell_of_row _ _ 0 _ _ _ (RB.out _ A1)
  have f1_4 : w1.cell? ⟨w.heap.size, 4, none⟩ = some (.int .i64 a4) := cell_of_row _ _ 4 _ _ _ (RB.out _ A1)
  have f1_5 : w1.cell? ⟨w.heap.size, 5, none⟩ = some (.int .i64 a5) := cell_of_row _ _ 5 _ _ _ (RB.out _ A1)
  go_wp2_with fail
  refine (WI0.out _).mono ?_
  rintro e wq ⟨rfl, hwq⟩
  rw [hwq]
  clear hwq wq
  go_wp2_with fail
  refine (WIc.out _).mono ?_
  rintro e wq ⟨rfl, hwq⟩
  rw [hwq]
  clear hwq wq
  go_wp2_with fail
  refine (WIs.out _).mono ?_
  rintro e wq ⟨rfl, hwq⟩
  rw [hwq]
  clear hwq wq
  go_wp2
  obtain ⟨ga, hga⟩ : ∃ g, w1.heap.size = g := ⟨_, rfl⟩
  rw [hga]
  have HG : Hid ((w.alloc (.cells #[.int .i64 a0, .int .i64 a1, .int .i64 a2, .int .i64 a3, .int .i64 a4, .int .i64 a5, .int .i64 a6, .int .i64 a7] 25)).heap.size ≤ ga) := by rw [← hga]; exact A1.size
  have RA : Hid ((w1.alloc (.cells #[.int .i64 0, .int .i64 0, .int .i64 0, .int .i64 0, .int .i64 0, .int .i64 0] 36)).heap[ga]? = some (.cells (facA n c s 0) 36)) := by rw [← hga]; exact heap_alloc_new _ _
  have AL := hid (A1.alloc (.cells #[.int .i64 0, .int .i64 0, .int .i64 0, .int .i64 0, .int .i64 0, .int .i64 0] 36))
  clear A1 b1 hga f1_0 f1_4 f1_5
  go_loopw [6, 7, 9] (fun av ov iv wr => ∃ k : Nat, k ≤ 4 * n ∧ iv = .int .i64 (k : Nat) ∧ av = .int .i64 ((rnd n c s k).1 : Nat) ∧ ov = .int .i64 ((rnd n c s k).2 : Nat) ∧ Ab (w.alloc (.cells #[.int .i64 a0, .int .i64 a1, .int .i64 a2, .int .i64 a3, .int .i64 a4, .int .i64 a5, .int .i64 a6, .int .i64 a7] 25)) wr ∧ wr.heap[ga]? = some (.cells (facA n c s k) 36)) (fun _ _ iv _ => 4 * n - (intOf iv).toNat)
  case atStart => exact ⟨0, by omega, rfl, rfl, rfl, AL.out, RA.out⟩
  case round =>
    obtain ⟨k, hk, rfl, rfl, rfl, A, R⟩ := hrel
    by_cases hkn : k < 4 * n
    · have hk' : (k : Int) < 4 * (n : Int) := by omega
      obtain ⟨l1, l2⟩ := CL.out k
      have P1 := PL.out _ l1
      have C1 := fun u hu => BS.out _ _ l1 l2 u hu
      have lb := (bs_lt HN.out.1 l1 l2).2
      have lf := (dec_lt HN.out.1 l1).1
      have e3 : (rnd n c s (k + 1)).1 = bsC n (rnd n c s k).1 (rnd n c s k).2 := rfl
      have e4 : (rnd n c s (k + 1)).2 = (bsS n (rnd n c s k).1 (rnd n c s k).2 + 2) % 4 := rfl
      have hset := facA_set n c s k _ lf rfl
      obtain ⟨f, hf⟩ : ∃ f, cf n (rnd n c s k).1 = f := ⟨_, rfl⟩
      rw [hf] at lf hset P1
      have g1 := facA_get n c s k f lf
      have hcl := cnt_le n c s f k
      obtain ⟨x, hx⟩ : ∃ x, (rnd n c s k).1 = x := ⟨_, rfl⟩
      obtain ⟨y, hy⟩ : ∃ x, (rnd n c s k).2 = x := ⟨_, rfl⟩
      rw [hx] at P1 C1 e3 e4 lb ⊢
      rw [hy] at C1 e3 e4 lb ⊢
      obtain ⟨d, hd⟩ : ∃ d, bsC n x y = d := ⟨_, rfl⟩
      obtain ⟨b, hb⟩ : ∃ d, bsS n x y = d := ⟨_, rfl⟩
      obtain ⟨ct, hct⟩ : ∃ z, cnt n c s f k = z := ⟨_, rfl⟩
      rw [hd] at C1 e3
      rw [hb] at C1 e4 lb
      rw [hct] at hset g1 hcl
      obtain ⟨y2, hy2⟩ : ∃ z, (rnd n c s (k + 1)).2 = z := ⟨_, rfl⟩
      rw [hy2] at e4
      have E4 : ((b : Int) + 2) % 4 = (y2 : Nat) := by rw [e4]; simp
      have NT : (k : Int) + 1 < 4 * (n : Int) → ((d : Int) == (c : Int)) = true → ((y2 : Int) == (s : Int)) = false := by
        intro h1 h2
        have := Q2.out (k + 1) (by omega) (by omega)
        rw [e3, hy2] at this
        simp at h2 ⊢
        intro h3
        exact this ⟨by omega, by omega⟩
      have D1 := hid C1
      have D2 := hid P1
      have AA := hid A
      have RR := hid R
      have E3 := hid e3
      have HY2 := hid hy2
      have lb' : (b : Int) < 4 := by omega
      have lf' : (f : Int) < 6 := by omega
      have lf0 : (0 : Int) ≤ f := by omega
      have ct' : (ct : Int) ≤ 128 := by omega
      have HK := hid hkn
      have G1 := hid g1
      have HS := hid hset
      have kb : (k : Int) ≤ 128 := by omega
      have k1b : (k : Int) + 1 ≤ 4 * (n : Int) := by omega
      clear C1 P1 A R l1 l2 e3 e4 hx hy hd hb CL BS PL lb lf hkn hset g1 hcl hct hf hk hy2
      go_wp2_with fail
      refine (D2.out _).mono ?_
      rintro e wa ⟨rfl, kk, rfl⟩
      have g2 : wr.cell? ⟨ga, f, none⟩ = some (.int .i64 ct) := (cell_of_row _ _ f _ _ _ RR.out).trans G1.out
      have g3 : wr.frozen? ⟨ga, f, none⟩ = false := free_row RR.out f
      have g2' : (wr.drewN kk).cell? ⟨ga, f, none⟩ = some (.int .i64 ct) := g2
      have g3' : (wr.drewN kk).frozen? ⟨ga, f, none⟩ = false := g3
      go_wp2_with fail
      have A2 : Ab (w.alloc (.cells #[.int .i64 a0, .int .i64 a1, .int .i64 a2, .int .i64 a3, .int .i64 a4, .int .i64 a5, .int .i64 a6, .int .i64 a7] 25)) ((wr.drewN kk).setCell ⟨ga, f, none⟩ (.int .i64 ((ct : Int) + 1))) := (AA.out.drewN kk).setk HG.out _
      have R2 : ((wr.drewN kk).setCell ⟨ga, f, none⟩ (.int .i64 ((ct : Int) + 1))).heap[ga]? = some (.cells (facA n c s (k + 1)) 36) := by
        rw [← HS.out]; exact one_set (show (wr.drewN kk).heap[ga]? = _ from RR.out)
      refine (D1.out _ A2).mono ?_
      rintro e wb ⟨rfl, bb⟩
      have A3 := hid (A2.call bb)
      have R3 := hid (Ab.heap bb R2)
      clear A2 R2 bb g2 g3 g2' g3'
      by_cases hq : (k : Int) + 1 < 4 * (n : Int)
      · by_cases hdc : ((d : Int) == (c : Int)) = true
        · have h3 := NT hq hdc
          clear NT
          go_wp2
          go_roundw
          case rel => exact ⟨k + 1, by omega, by simp, by rw [E3.out], by rw [HY2.out, E4], A3.out, R3.out⟩
          case measure => have := HK.out; simp [intOf]; omega
        · have h3 : ((d : Int) == (c : Int)) = false := by simpa using hdc
          clear NT hdc
          go_wp2
          go_roundw
          case rel => exact ⟨k + 1, by omega, by simp, by rw [E3.out], by rw [HY2.out, E4], A3.out, R3.out⟩
          case measure => have := HK.out; simp [intOf]; omega
      · have h4 : decide ((k : Int) + 1 < 4 * (n : Int)) = false := by simpa using hq
        clear NT
        go_wp2
        go_roundw
        case rel => exact ⟨k + 1, by omega, by simp, by rw [E3.out], by rw [HY2.out, E4], A3.out, R3.out⟩
        case measure => have := HK.out; simp [intOf]; omega
    · obtain rfl : k = 4 * n := by omega
      rw [Q1.out]
      have AA := hid A
      have RR := hid R
      have kn : ((4 * n : Nat) : Int) = 4 * (n : Int) := by omega
      have h4 : decide (((4 * n : Nat) : Int) < 4 * (n : Int)) = false := by simp
      clear A R CL BS PL Q1 Q2
      go_wp2
      go_loopw [16, 17] (fun sv iv wz => ∃ j : Nat, j ≤ 6 ∧ iv = .int .i64 (j : Nat) ∧ sv = .int .i64 (smC ff s j : Nat) ∧ Ab (w.alloc (.cells #[.int .i64 a0, .int .i64 a1, .int .i64 a2, .int .i64 a3, .int .i64 a4, .int .i64 a5, .int .i64 a6, .int .i64 a7] 25)) wz ∧ wz.heap[ga]? = some (.cells (facA n c s (4 * n)) 36)) (fun _ iv _ => 6 - (intOf iv).toNat)
      case atStart => exact ⟨0, by omega, rfl, rfl, AA.out, RR.out⟩
      case round =>
        obtain ⟨j, hj, rfl, rfl, A, R⟩ := hrel
        have AA := hid A
        have RR := hid R
        clear A R
        by_cases hj6 : j < 6
        · have hj' : (j : Int) < 6 := by omega
          have g1 := (cell_of_row _ _ j _ _ _ RR.out).trans (facA_get n c s (4 * n) j hj6)
          have e1 := Q3.out j
          have e2 : smC ff s (j + 1) = smC ff s j + if inC ff s j = true then 1 else 0 := rfl
          have hsl : smC ff s j ≤ j := by
            clear g1 e1 e2 hj' hj6
            induction j with
            | zero => exact Nat.le_refl _
            | succ j ih => have := ih (by omega); simp only [smC]; split <;> omega
          obtain ⟨sv, hsv⟩ : ∃ z, smC ff s j = z := ⟨_, rfl⟩
          rw [hsv] at e2 hsl ⊢
          have hs' : (sv : Int) ≤ 6 := by omega
          rw [e1] at g1
          cases hin : inC ff s j
          · rw [hin] at g1 e2
            have g2 : wr.cell? ⟨ga, j, none⟩ = some (.int .i64 0) := by simpa using g1
            have E2 := hid e2
            clear g1 e1 e2 hin Q3 SM hsv hj6 hsl
            go_wp2
            go_roundw
            case rel => exact ⟨j + 1, by omega, by simp, by rw [E2.out]; simp, AA.out, RR.out⟩
            case measure => simp [intOf]; omega
          · rw [hin] at g1 e2
            have g2 : wr.cell? ⟨ga, j, none⟩ = some (.int .i64 n) := by simpa using g1
            have E2 := hid e2
            have hn0 : ¬ (n : Int) = 0 := by omega
            clear g1 e1 e2 hin Q3 SM hsv hj6 hsl
            go_wp2
            exact ⟨⟨_, .int .i64 ((sv : Int) + 1), .int .i64 ((j : Int) + 1), ⟨j + 1, by omega, by simp, by rw [E2.out]; simp, AA.out, RR.out⟩, rfl, rfl, rfl⟩, by simp [intOf]; omega⟩
        · obtain rfl : j = 6 := by omega
          rw [SM.out]
          go_wp2
          go_ret
          exact ⟨rfl, A0'.out.trans AA.out⟩
end Go.Proofs.YtmccbhidpjdkfaaDoor
